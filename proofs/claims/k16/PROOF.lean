import PyProof.Rows.All
import Wide.All
import OpenK.AllK
import Wide.FinOn
import KE.KStateDown
import Lean
import HandS.ForMost
import HandS.More
import HandS.WordsExc
import HandS.ExcIs
import HandS.ExcOwn
import HandS.TryOnly
import HandS.Exc
import HandS.Defaults
import HandS.Wide
import HandS.WideBits
import HandS.IsInst
import HandS.Head0
import HandS.Head1
import HandS.Head2
import HandS.HeadEnd
import HandS.HeadHook1
import HandS.HeadHook2
import HandS.Style
import HandS.Zip
import PySem.Challenge.RW_movebook_k16_whole_triangle
set_option Elab.async false
set_option linter.all false
set_option maxRecDepth 100000
set_option maxHeartbeats 4000000
namespace Mb
open PySem L2
/-! ### a def that keeps its promise, as its callers take it -/
structure Kn (P : Program) (w : World) (K : PySem.W.Frag) (mg : Str → Option Value) (base : Heap) (k : Nat) (x : Str) (ps : List Str) (sp : Sp) : Prop where
  ex : ∃ f fd, FnOk P w K mg base CX0 k f fd ps sp ∧ mg x = some (.ref f) ∧ PySem.W.keepIn K (.ref f) = true ∧ Binds K fd ps []
theorem pe_kn {X : Cx} {k : Nat} {x : Str} {ps : List Str} {sp : Sp} {e : Expr} {es : List Expr} {p pos : Pos} {t : TA} (G : Kn X.prog X.w X.K X.mg X.base k x ps sp) (hr : Room k X.A) (hg : Gl X x)
    (ha : PA X (e :: es) t) (hdb : (x == ("__debug__" : Str)) = false := by decide) (he : starEach (e :: es) X.env = (false, eval e X.env) :: starEach es X.env := by rfl) (hpl : (backTo pos (starEach es X.env)).any (·.1) = false := by rfl) :
    PE X (.Call (.Name x p) (e :: es) [] pos) (tCall sp [] E0 t) := by
  obtain ⟨f, fd, F, m, kp, b⟩ := G.ex
  exact pe_call F hr hg m kp b .nil pass0 ha hdb he hpl
/-- a def of the text: where it stands -/
abbrev FnP (K : PySem.W.Frag) (x : Str) (st : Stmt) (f : Addr) (fd : FuncData) : Prop := FunD K x x (defArgs st) (defBody st) (defScope st) [] [] f fd
structure Fn (K : PySem.W.Frag) (mg : Str → Option Value) (x : Str) (st : Stmt) : Prop where
  ex : ∃ f fd, FnP K x st f fd ∧ mg x = some (.ref f)
/-- from the walk of its body to its promise -/
theorem Fn.kn {P : Program} {w : World} {K : PySem.W.Frag} {mg : Str → Option Value} {base : Heap} {k : Nat} {x : Str} {st : Stmt} {N ps : List Str} {sp : Sp} (F : Fn K mg x st) (S : FnScope N ps (defScope st)) (len : ∀ vs H Q E, sp vs H Q E → vs.length = ps.length)
    (hbody : ∀ (f : Addr) (cdv : Value) (A : Around) (outer : List Env) (s : Shared) (H : Hp) (vs : List V) (Q : VK) (E : XK), Room k (A.deeper (PyProof.Rows.envOfC x (defScope st) s.heap.objs.size f cdv)) → sp vs H Q E →
      ∃ t, PSs (cxOf CX0 P w K mg base N x (defScope st) f cdv A outer s H E).nox (defBody st) t ∧ t { nx := fun _ H' => Q .non H', rt := Q } (start N vs) H)
    (hb : ∀ (kV doc pm : Value) (an : Option Addr) (cdv ct : Value) (us : List Value), us.length = ps.length → bindArgs (PySem.W.fnOf x x (defArgs st) (defBody st) (defScope st) .none kV doc pm an cdv ct) ⟨us, []⟩ = pure (ps.zip us)) :
    Kn P w K mg base (k + 1) x ps sp := by
  obtain ⟨f, fd, F, m⟩ := F.ex
  refine ⟨f, fd, F.ok S len fun cdv A outer s H vs Q E hr h => ?_, m, F.kp, F.bindsN hb⟩
  obtain ⟨t, p, q⟩ := hbody f cdv A outer s H vs Q E hr h
  exact ⟨t, p.nox, q⟩
/-- the same for the law itself, whose function object is known -/
theorem fnp_ok {P : Program} {w : World} {K : PySem.W.Frag} {mg : Str → Option Value} {base : Heap} {k : Nat} {x : Str} {st : Stmt} {N ps : List Str} {sp : Sp} {f : Addr} {fd : FuncData} (F : FnP K x st f fd) (S : FnScope N ps (defScope st)) (len : ∀ vs H Q E, sp vs H Q E → vs.length = ps.length)
    (hbody : ∀ (cdv : Value) (A : Around) (outer : List Env) (s : Shared) (H : Hp) (vs : List V) (Q : VK) (E : XK), Room k (A.deeper (PyProof.Rows.envOfC x (defScope st) s.heap.objs.size f cdv)) → sp vs H Q E →
      ∃ t, PSs (cxOf CX0 P w K mg base N x (defScope st) f cdv A outer s H E).nox (defBody st) t ∧ t { nx := fun _ H' => Q .non H', rt := Q } (start N vs) H) : FnOk P w K mg base CX0 (k + 1) f fd ps sp := by
  refine F.ok S len fun cdv A outer s H vs Q E hr h => ?_
  obtain ⟨t, p, q⟩ := hbody cdv A outer s H vs Q E hr h
  exact ⟨t, p.nox, q⟩
/-! ### x is True, x is False -/
theorem op_isB {X : Cx} : OpR X (compareOp .Is) (fun x y H Q => ∃ a b, x = .bl a ∧ y = .bl b ∧ Q (.bl (a == b)) H) := by
  intro pins s σ H x y v u Q I rx ry h
  obtain ⟨a, b, rfl, rfl, q⟩ := h
  cases (show v = Value.bool a from rx)
  cases (show u = Value.bool b from ry)
  exact PyProof.Rows.is_bool ⟨.bl (a == b), H, I, rfl, q⟩
/-! ### // by any great divisor but 0 -/
def CDivZ (_ j : Int) : Prop := j ≠ 0 ∧ j.natAbs.log2 < 9000
theorem op_fdivZ {X : Cx} : OpR X (binaryOp .FloorDiv) (rI CDivZ fun i j => .int (i.fdiv j)) := opI fun _ _ _ _ _ _ _ hc q => PyProof.Rows.floordiv_int hc.1 q (.inl (PyProof.noPylong_of_log2 hc.2))
theorem cdivZ {i j : Int} {b : Nat} (h : j ≠ 0) (hb : j.natAbs < 2 ^ b) (h0 : 0 < b) (h9 : b ≤ 9000) : CDivZ i j := ⟨h, Nat.lt_of_lt_of_le (PySem.Flt.log2_lt_of h0 hb) h9⟩
/-! ### readings, step by step -/
section
variable {σ : St} {H : Hp} {Q : VK} {D : Ends} {K : PySem.W.Frag}
theorem r_var {i : Nat} {v : V} (h : σ[i]? = some (some v)) (q : Q v H) : tVar i σ H Q := ⟨v, h, q⟩
theorem r_c {v : V} (q : Q v H) : tC v σ H Q := q
theorem r_op {r : R2} {ta tb : TE} (q : ta σ H fun x H1 => tb σ H1 fun y H2 => r x y H2 Q) : tOp r ta tb σ H Q := q
theorem r_un {r : V → Hp → VK → Prop} {ta : TE} (q : ta σ H fun x H1 => r x H1 Q) : tUn r ta σ H Q := q
theorem r_i {C : Int → Int → Prop} {g : Int → Int → V} {i j : Int} (c : C i j) (q : Q (g i j) H) : rI C g (.int i) (.int j) H Q := ⟨i, j, rfl, rfl, c, q⟩
theorem r_i0 {g : Int → Int → V} {i j : Int} (q : Q (g i j) H) : rI0 g (.int i) (.int j) H Q := ⟨i, j, rfl, rfl, q⟩
theorem r_u {g : Int → V} {i : Int} (q : Q (g i) H) : rU g (.int i) H Q := ⟨i, rfl, q⟩
theorem r_eqI {i j : Int} (q : Q (.bl (decide (i = j))) H) : rEq (.int i) (.int j) H Q := ⟨rfl, by
  rw [show decide (V.int i = V.int j) = decide (i = j) from by simp]; exact q⟩
theorem r_neI {i j : Int} (q : Q (.bl (!decide (i = j))) H) : rNe (.int i) (.int j) H Q := ⟨rfl, by
  rw [show decide (V.int i = V.int j) = decide (i = j) from by simp]; exact q⟩
theorem r_eqB {i j : Bool} (q : Q (.bl (i == j)) H) : rEq (.bl i) (.bl j) H Q := ⟨rfl, by
  rw [show decide (V.bl i = V.bl j) = (i == j) from by cases i <;> cases j <;> rfl]; exact q⟩
theorem r_eqS {i j : Str} (q : Q (.bl (decide (i = j))) H) : rEq (.str i) (.str j) H Q := ⟨rfl, by
  rw [show decide (V.str i = V.str j) = decide (i = j) from by simp]; exact q⟩
theorem r_bits {to : TE} (q : to σ H fun x H1 => ∃ i, x = .int i ∧ Q (.int (Builtin.Int.intBits i : Nat)) H1) : tBits to σ H Q := q
theorem r_int {i : Int} {Q : Int → Prop} (q : Q i) : ∃ k, V.int i = .int k ∧ Q k := ⟨i, rfl, q⟩
theorem r_cb {r : List V → Hp → VK → Prop} {t : TA} (q : t σ H fun vs H1 => r vs H1 Q) : tCB r t σ H Q := q
theorem r_nil {Q : List V → Hp → Prop} (q : Q [] H) : tNil σ H Q := q
theorem r_cons {ta : TE} {tr : TA} {Q : List V → Hp → Prop} (q : ta σ H fun x H1 => tr σ H1 fun xs H2 => Q (x :: xs) H2) : tCons ta tr σ H Q := q
theorem r_tup {t : TA} (q : t σ H fun xs H1 => xs.length ≤ sizeLine ∧ ∀ p, H1 p = none → Q (.ref p) (upd H1 p (.tup xs))) : tTup t σ H Q := q
theorem r_lst {t : TA} (q : t σ H fun xs H1 => xs.length ≤ sizeLine ∧ ∀ p, H1 p = none → Q (.ref p) (upd H1 p (.lst xs))) : tLst t σ H Q := q
theorem r_call {sp : Sp} {E : XK} {t : TA} (q : t σ H fun vs H1 => sp (vs ++ []) H1 Q E) : tCall sp [] E t σ H Q := q
theorem r_seq {t u : TS} (q : t { D with nx := u D } σ H) : tSeq t u D σ H := q
theorem r_seqA {te : TE} {g : TG} {u : TS} (q : te σ H fun x H1 => g x σ H1 (u D)) : tSeq (tAsg te g) u D σ H := q
theorem r_seqD {te : TE} {u : TS} (q : te σ H fun _ H1 => u D σ H1) : tSeq (tDrop te) u D σ H := q
theorem r_seqP {i j : Nat} {ta : TA} {u : TS} (q : ta σ H fun vs H1 => ∃ v w, vs = [v, w] ∧ u D ((σ.set i (some v)).set j (some w)) H1) : tSeq (tPar i j ta) u D σ H := q
theorem r_cut {t u : TS} (R : St → Hp → Prop) (k : ∀ σ1 H1, R σ1 H1 → u D σ1 H1) (h : ∀ N : St → Hp → Prop, (∀ σ1 H1, R σ1 H1 → N σ1 H1) → t { D with nx := N } σ H) : tSeq t u D σ H := h _ k
theorem r_next (q : D.nx σ H) : tNext D σ H := q
theorem r_nx {a c d : St → Hp → Prop} {b : VK} (q : a σ H) : (Ends.mk a b c d).nx σ H := q
theorem r_asg {te : TE} {g : TG} (q : te σ H fun x H1 => g x σ H1 D.nx) : tAsg te g D σ H := q
theorem r_gname {i : Nat} {v : V} {Q : St → Hp → Prop} (q : Q (σ.set i (some v)) H) : gName i v σ H Q := q
theorem r_gsub {to ti : TE} {t : TSet} {v : V} {Q : St → Hp → Prop} (q : to σ H fun o H1 => ti σ H1 fun i H2 => t o i v H2 fun H3 => Q σ H3) : gSub to ti t v σ H Q := q
theorem r_ret {te : TE} (q : te σ H D.rt) : tRet te D σ H := q
theorem r_drop {te : TE} (q : te σ H fun _ H1 => D.nx σ H1) : tDrop te D σ H := q
theorem r_ifs {c : TT} {t u : TS} (q : c σ H fun b H1 => if b = true then t D σ H1 else u D σ H1) : tIfS c t u D σ H := q
theorem r_test {t : TE} {Q : Bool → Hp → Prop} (q : t σ H fun x H' => ∃ k, x = .bl k ∧ Q k H') : tTest t σ H Q := q
theorem r_tB {t : TE} {Q : Bool → Hp → Prop} (q : t σ H fun x H' => ∃ k, x = .bl k ∧ Q k H') : tB t σ H Q := q
theorem r_bl {b : Bool} {Q : Bool → Prop} (q : Q b) : ∃ k, V.bl b = .bl k ∧ Q k := ⟨b, rfl, q⟩
theorem r_and {t u : TT} {Q : Bool → Hp → Prop} (q : t σ H fun c H1 => if c = true then u σ H1 Q else Q false H1) : tAnd t u σ H Q := q
theorem r_or {t u : TT} {Q : Bool → Hp → Prop} (q : t σ H fun c H1 => if c = true then Q true H1 else u σ H1 Q) : tOr t u σ H Q := q
theorem r_not {t : TT} {Q : Bool → Hp → Prop} (q : t σ H fun c H1 => Q (!c) H1) : tNot t σ H Q := q
theorem r_andV {ta tb : TE} (q : ta σ H fun x H1 => ∃ c, x = .bl c ∧ if c = true then tb σ H1 Q else Q (.bl false) H1) : tAndV ta tb σ H Q := q
theorem r_orV {ta tb : TE} (q : ta σ H fun x H1 => ∃ c, x = .bl c ∧ if c = true then Q (.bl true) H1 else tb σ H1 Q) : tOrV ta tb σ H Q := q
theorem r_notV {ta : TE} (q : ta σ H fun x H1 => ∃ c, x = .bl c ∧ Q (.bl (!c)) H1) : tNotV ta σ H Q := q
theorem r_par {i j : Nat} {ta : TA} (q : ta σ H fun vs H1 => ∃ v w, vs = [v, w] ∧ D.nx ((σ.set i (some v)).set j (some w)) H1) : tPar i j ta D σ H := q
theorem r_two {v w : V} {Q : V → V → Prop} (q : Q v w) : ∃ a b, [v, w] = [a, b] ∧ Q a b := ⟨v, w, rfl, q⟩
theorem r_ixL {p : Addr} {xs : List V} {i : Int} {v : V} (h : SqL K H p xs) (a : atI xs i = some v) (q : Q v H) : rIxL K (.ref p) (.int i) H Q := ⟨p, xs, i, v, rfl, rfl, h, a, q⟩
theorem r_ixT {p : Addr} {xs : List V} {i : Int} {v : V} (h : SqT K H p xs) (a : atI xs i = some v) (q : Q v H) : rIxT K (.ref p) (.int i) H Q := ⟨p, xs, i, v, rfl, rfl, h, a, q⟩
theorem r_setL {p : Addr} {xs : List V} {k : Int} {j : Nat} {v : V} {Q : Hp → Prop} (h : H p = some (.lst xs)) (a : ixN xs.length k = some j) (q : Q (upd H p (.lst (xs.set j v)))) : rSetL (.ref p) (.int k) v H Q := ⟨p, xs, k, j, rfl, rfl, h, a, q⟩
theorem r_isi {x : V} {a b : String} {r : Bool} (ty : TyX K H x (.type a)) (h : kitB a b = some r) (q : Q (.bl r) H) : rIsi K [x, .ty b] H Q := ⟨x, .ty b, .type a, .type b, r, rfl, .ty b, ty, kit_ty h, q⟩
theorem r_eqFr {p q : Addr} {a b c d : Int} (h1 : SqT K H p [.int a, .int b]) (h2 : SqT K H q [.int c, .int d]) (e : a = c ∧ b = d) (k : Q (.bl true) H) : rEqD K (.ref p) (.ref q) H Q := by
  obtain ⟨rfl, rfl⟩ := e
  refine ⟨.tuple [.int a, .int b], .tuple [.int a, .int b], .tup h1 (.cons (.int a) (.cons (.int b) .nil)), .tup h2 (.cons (.int a) (.cons (.int b) .nil)), rfl, rfl, ?_⟩
  rw [SeqAt.eqv_refl _ rfl]
  exact k
/-- a test that is open -/
theorem r_ite {c : Prop} [Decidable c] {A B : Prop} (h1 : c → A) (h2 : ¬ c → B) : if decide c = true then A else B := by
  by_cases h : c
  · rw [decide_eq_true h]; exact h1 h
  · rw [decide_eq_false h]; exact h2 h
theorem r_iteN {c : Prop} [Decidable c] {A B : Prop} (h1 : ¬ c → A) (h2 : c → B) : if (!decide c) = true then A else B := by
  by_cases h : c
  · rw [decide_eq_true h]; exact h2 h
  · rw [decide_eq_false h]; exact h1 h
theorem r_T {A B : Prop} (h : A) : if true = true then A else B := iteT h
theorem r_dT {c : Bool} {A B : Prop} (hc : c = true) (h : A) : if c = true then A else B := by rw [hc]; exact iteT h
theorem r_dF {c : Bool} {A B : Prop} (hc : c = false) (h : B) : if c = true then A else B := by rw [hc]; exact iteF h
theorem r_nT {A B : Prop} (h : B) : if (!true) = true then A else B := iteF h
theorem r_nF {A B : Prop} (h : A) : if (!false) = true then A else B := iteT h
theorem r_F {A B : Prop} (h : B) : if false = true then A else B := iteF h
end
/-- a while by a word and a measure -/
theorem r_while {σ : St} {H : Hp} {D : Ends} {c : TT} {tb : TS} (Pv : St → Hp → Prop) (μ : St → Hp → Nat) (h0 : Pv σ H)
    (hs : ∀ σ1 H1, Pv σ1 H1 → c σ1 H1 fun b H2 => if b = true then ∃ N : St → Hp → Prop, (∀ σ2 H2, N σ2 H2 → ∃ m, m < μ σ1 H1 ∧ m = μ σ2 H2 ∧ Pv σ2 H2) ∧ tb { D with nx := N, ct := N, bk := D.nx } σ1 H2 else D.nx σ1 H2) : tWhile c tb D σ H := by
  refine ⟨fun m σ H => m = μ σ H ∧ Pv σ H, ⟨_, rfl, h0⟩, ?_⟩
  rintro m σ H ⟨rfl, p⟩
  exact hs σ H p
theorem r_turn {σ : St} {H : Hp} {D : Ends} {tb : TS} {Pv : St → Hp → Prop} {μ : St → Hp → Nat} {n : Nat} (q : tb { D with nx := fun σ2 H2 => Pv σ2 H2 ∧ μ σ2 H2 < n, ct := fun σ2 H2 => Pv σ2 H2 ∧ μ σ2 H2 < n, bk := D.nx } σ H) :
    ∃ N : St → Hp → Prop, (∀ σ2 H2, N σ2 H2 → ∃ m, m < n ∧ m = μ σ2 H2 ∧ Pv σ2 H2) ∧ tb { D with nx := N, ct := N, bk := D.nx } σ H :=
  ⟨_, fun _ _ h => ⟨_, h.2, rfl, h.1⟩, q⟩
theorem sz {n : Nat} (h : Nat.ble n 1000 = true) : n ≤ sizeLine := Nat.le_of_lt (small1000 (Nat.le_of_ble_eq_true h))
/-! ### heaps -/
/-- all but p is as it was -/
def But (p : Addr) (H H' : Hp) : Prop := ∀ b o, b ≠ p → H b = some o → H' b = some o
theorem But.refl (p : Addr) (H : Hp) : But p H H := fun _ _ _ h => h
theorem But.trans {p : Addr} {H H1 H2 : Hp} (a : But p H H1) (b : But p H1 H2) : But p H H2 := fun c o n h => b c o n (a c o n h)
theorem But.upd (p : Addr) (H : Hp) (o : HO) : But p H (upd H p o) := fun b o' n h => by rw [upd_ne n]; exact h
theorem But.same {p : Addr} {H H' : Hp} (s : Same H H') : But p H H' := fun b o _ h => s b o h
/-- what stood ahead of p's making stands -/
theorem Same.but {H0 H H' : Hp} {p : Addr} (s : Same H0 H) (n : H0 p = none) (b : But p H H') : Same H0 H' := fun c o h => b c o (ne_of_none h n) (s c o h)
theorem same_new {H : Hp} {p : Addr} (h : H p = none) (o : HO) : Same H (upd H p o) := fun b u q => by rw [upd_ne (ne_of_none q h)]; exact q
theorem nw {H : Hp} {p : Addr} (n : H p = none) (o : HO) : ∃ H1, H1 = upd H p o ∧ Same H H1 ∧ H1 p = some o := ⟨_, rfl, same_new n o, upd_same⟩
theorem _root_.L2.Same.tp {K : PySem.W.Frag} {H H' : Hp} {a : Addr} {xs : List V} (e : Same H H') (h : SqT K H a xs) : SqT K H' a xs := by
  rcases h with (h | ⟨o, h⟩) | h
  · exact .inl (.inl (e _ _ h))
  · exact .inl (.inr ⟨o, e _ _ h⟩)
  · exact .inr h
theorem But.tup {K : PySem.W.Frag} {H H' : Hp} {a p : Addr} {xs ys : List V} (e : But p H H') (hp : H p = some (.lst ys)) (h : SqT K H a xs) : SqT K H' a xs := by
  rcases h with (h | ⟨o, h⟩) | h
  · exact .inl (.inl (e _ _ (fun z => by rw [z, hp] at h; cases h) h))
  · exact .inl (.inr ⟨o, e _ _ (fun z => by rw [z, hp] at h; cases h) h⟩)
  · exact .inr h
theorem tupOf {K : PySem.W.Frag} {H : Hp} {a : Addr} {xs : List V} (h : H a = some (.tup xs)) : SqT K H a xs := .inl (.inl h)
theorem lstOf {K : PySem.W.Frag} {H : Hp} {a : Addr} {xs : List V} (h : H a = some (.lst xs)) : SqL K H a xs := .inl (.inl h)
/-! ### sizes -/
abbrev Sm (n : Nat) (i : Int) : Prop := i.natAbs < 2 ^ n
theorem Sm.mono {m n : Nat} {i : Int} (h : Sm m i) (l : m ≤ n) : Sm n i := Nat.lt_of_lt_of_le h (Nat.pow_le_pow_right (by decide) l)
theorem Sm.le {n : Nat} {i j : Int} (h : Sm n j) (l : i.natAbs ≤ j.natAbs) : Sm n i := Nat.lt_of_le_of_lt l h
theorem Sm.mul {m n : Nat} {i j : Int} (h : Sm m i) (l : Sm n j) : Sm (m + n) (i * j) := wide_lt h l
theorem Sm.neg {n : Nat} {i : Int} (h : Sm n i) : Sm n (-i) := by rw [Sm, Int.natAbs_neg]; exact h
theorem Sm.add {n : Nat} {i j : Int} (h : Sm n i) (l : Sm n j) : Sm (n + 1) (i + j) := by
  have := Int.natAbs_add_le i j
  unfold Sm at *
  rw [Nat.pow_succ]
  omega
theorem Sm.sub {n : Nat} {i j : Int} (h : Sm n i) (l : Sm n j) : Sm (n + 1) (i - j) := by
  rw [Int.sub_eq_add_neg]; exact h.add l.neg
theorem Sm.cmul {m n : Nat} {i j : Int} (h : Sm m i) (l : Sm n j) (h0 : 0 < m := by decide) (h1 : 0 < n := by decide) (s : m + n ≤ 1000000 := by decide) : CMulW i j := wide_mul h l h0 h1 s
theorem Sm.cdiv {n : Nat} {i j : Int} (p : 0 < j) (l : Sm n j) (h1 : 0 < n := by decide) (s : n ≤ 9000 := by decide) : CDivW i j := wide_div p l h1 s
theorem Sm.of_lt {n : Nat} {i j : Int} (h0 : 0 ≤ i) (h : i < j) (s : j.natAbs ≤ 2 ^ n) : Sm n i := by unfold Sm; omega
end Mb
namespace Mb
open PySem L2
theorem Sm.addm {m n : Nat} {i j : Int} (h : Sm m i) (l : Sm n j) : Sm (max m n + 1) (i + j) := (h.mono (Nat.le_max_left _ _)).add (l.mono (Nat.le_max_right _ _))
theorem Sm.subm {m n : Nat} {i j : Int} (h : Sm m i) (l : Sm n j) : Sm (max m n + 1) (i - j) := (h.mono (Nat.le_max_left _ _)).sub (l.mono (Nat.le_max_right _ _))
theorem Sm.lit {i : Int} (h : i.natAbs < 2 ^ 64) : Sm 64 i := h
theorem Sm.lit2 {i : Int} (h : i.natAbs < 2 ^ 512) : Sm 512 i := h
/-! ### lowest terms -/
def lowT (t b : Int) : Int := (if b < 0 then -t else t) / (Int.gcd t b : Int)
def lowB (t b : Int) : Int := (if b < 0 then -b else b) / (Int.gcd t b : Int)
theorem gcd_pos {t b : Int} (hb : b ≠ 0) : 0 < (Int.gcd t b : Int) := by
  have := Int.gcd_pos_of_ne_zero_right t hb
  omega
theorem lowB_pos {t b : Int} (hb : b ≠ 0) : 0 < lowB t b := by
  unfold lowB
  have g := gcd_pos (t := t) hb
  have d : (Int.gcd t b : Int) ∣ (if b < 0 then -b else b) := by
    split
    · exact (Int.dvd_neg).mpr (Int.gcd_dvd_right t b)
    · exact Int.gcd_dvd_right t b
  have p : 0 < (if b < 0 then -b else b) := by split <;> omega
  exact Int.ediv_pos_of_pos_of_dvd p (by omega) d
theorem ediv_abs {x g : Int} (hg : 0 < g) (d : g ∣ x) : (x / g).natAbs ≤ x.natAbs := by
  obtain ⟨k, rfl⟩ := d
  rw [Int.mul_ediv_cancel_left k (by omega), Int.natAbs_mul]
  have : 1 ≤ g.natAbs := by omega
  calc k.natAbs = 1 * k.natAbs := by rw [Nat.one_mul]
    _ ≤ g.natAbs * k.natAbs := Nat.mul_le_mul_right _ this
theorem lowT_le {t b : Int} (hb : b ≠ 0) : (lowT t b).natAbs ≤ t.natAbs := by
  unfold lowT
  have g := gcd_pos (t := t) hb
  have d : (Int.gcd t b : Int) ∣ (if b < 0 then -t else t) := by
    split
    · exact (Int.dvd_neg).mpr (Int.gcd_dvd_left t b)
    · exact Int.gcd_dvd_left t b
  have := ediv_abs g d
  split at this <;> split <;> simp_all
theorem lowB_le {t b : Int} (hb : b ≠ 0) : (lowB t b).natAbs ≤ b.natAbs := by
  unfold lowB
  have g := gcd_pos (t := t) hb
  have d : (Int.gcd t b : Int) ∣ (if b < 0 then -b else b) := by
    split
    · exact (Int.dvd_neg).mpr (Int.gcd_dvd_right t b)
    · exact Int.gcd_dvd_right t b
  have := ediv_abs g d
  split at this <;> split <;> simp_all
theorem low_gcd {t b : Int} (hb : b ≠ 0) : Int.gcd (lowT t b) (lowB t b) = 1 := by
  have g : 0 < Int.gcd t b := Int.gcd_pos_of_ne_zero_right t hb
  have key : ∀ x y : Int, Int.gcd x y = Int.gcd t b → Int.gcd (x / (Int.gcd t b : Int)) (y / (Int.gcd t b : Int)) = 1 := by
    intro x y e
    rw [← e]
    rw [← e] at g
    exact Int.gcd_ediv_gcd_ediv_gcd g
  unfold lowT lowB
  split
  · exact key _ _ (by rw [Int.neg_gcd, Int.gcd_neg])
  · exact key _ _ rfl
theorem low_cross {t b : Int} (hb : b ≠ 0) : lowT t b * b = t * lowB t b := by
  have g := gcd_pos (t := t) hb
  obtain ⟨x, hx⟩ := Int.gcd_dvd_left t b
  obtain ⟨y, hy⟩ := Int.gcd_dvd_right t b
  have eT : ∀ s : Int, s = (Int.gcd t b : Int) * x → s / (Int.gcd t b : Int) = x := fun s e => by rw [e, Int.mul_ediv_cancel_left _ (by omega)]
  have eB : ∀ s : Int, s = (Int.gcd t b : Int) * y → s / (Int.gcd t b : Int) = y := fun s e => by rw [e, Int.mul_ediv_cancel_left _ (by omega)]
  unfold lowT lowB
  by_cases h : b < 0
  · rw [if_pos h, if_pos h]
    rw [show -t = (Int.gcd t b : Int) * (-x) by rw [Int.mul_neg, ← hx], show -b = (Int.gcd t b : Int) * (-y) by rw [Int.mul_neg, ← hy], Int.mul_ediv_cancel_left _ (by omega), Int.mul_ediv_cancel_left _ (by omega)]
    have e1 : b = (Int.gcd t b : Int) * y := hy
    have e2 : t = (Int.gcd t b : Int) * x := hx
    generalize (Int.gcd t b : Int) = q at *
    subst e1 e2
    simp only [Int.neg_mul, Int.mul_neg, Int.mul_assoc, Int.mul_comm, Int.mul_left_comm]
  · rw [if_neg h, if_neg h, eT t hx, eB b hy]
    have e1 : b = (Int.gcd t b : Int) * y := hy
    have e2 : t = (Int.gcd t b : Int) * x := hx
    generalize (Int.gcd t b : Int) = q at *
    subst e1 e2
    simp only [Int.mul_assoc, Int.mul_comm, Int.mul_left_comm]
theorem cop_dvd {u t y : Int} (g : Int.gcd t u = 1) (d : u ∣ t * y) : u ∣ y := by
  have d1 : u.natAbs ∣ t.natAbs * y.natAbs := by rw [← Int.natAbs_mul]; exact Int.natAbs_dvd_natAbs.mpr d
  have c : Nat.Coprime u.natAbs t.natAbs := by rw [Nat.coprime_comm]; exact g
  exact Int.natAbs_dvd_natAbs.mp (c.dvd_of_dvd_mul_left d1)
/-- one worth has one form in lowest terms -/
theorem frac_unique {t u x y : Int} (hu : 0 < u) (hy : 0 < y) (g1 : Int.gcd t u = 1) (g2 : Int.gcd x y = 1) (e : t * y = x * u) : t = x ∧ u = y := by
  have d1 : u ∣ y := cop_dvd g1 ⟨x, by rw [e, Int.mul_comm]⟩
  have d2 : y ∣ u := cop_dvd g2 ⟨t, by rw [← e, Int.mul_comm]⟩
  have e2 : u = y := Int.dvd_antisymm (by omega) (by omega) d1 d2
  subst e2
  exact ⟨Int.eq_of_mul_eq_mul_right (by omega) e, rfl⟩
theorem low_eq {a b t u : Int} (hb : b ≠ 0) (hu : 0 < u) (g : Int.gcd t u = 1) (e : a * u = t * b) : lowT a b = t ∧ lowB a b = u := by
  refine frac_unique (lowB_pos hb) hu (low_gcd hb) g ?_
  have c := low_cross (t := a) hb
  apply Int.eq_of_mul_eq_mul_right hb
  calc lowT a b * u * b = lowT a b * b * u := by simp only [Int.mul_assoc, Int.mul_comm, Int.mul_left_comm]
    _ = a * lowB a b * u := by rw [c]
    _ = a * u * lowB a b := by simp only [Int.mul_assoc, Int.mul_comm, Int.mul_left_comm]
    _ = t * b * lowB a b := by rw [e]
    _ = t * lowB a b * b := by simp only [Int.mul_assoc, Int.mul_comm, Int.mul_left_comm]
theorem fdiv_exact {x g : Int} (d : g ∣ x) (c : Bool) : x.fdiv (if c then -g else g) = (if c then -x else x) / g := by
  cases c with
  | false => exact Int.fdiv_eq_ediv_of_dvd d
  | true =>
    show x.fdiv (-g) = -x / g
    rw [Int.fdiv_eq_ediv_of_dvd (Int.neg_dvd.mpr d), Int.ediv_neg, Int.neg_ediv_of_dvd d]
theorem gcd_step {x y : Int} (hx : 0 ≤ x) (hy : 0 < y) : Int.gcd y (x % y) = Int.gcd x y := by
  have e : ∃ m n : Nat, x = m ∧ y = n := ⟨x.toNat, y.toNat, by omega, by omega⟩
  obtain ⟨m, n, rfl, rfl⟩ := e
  have c : ((m : Int) % (n : Int)) = ((m % n : Nat) : Int) := by norm_cast
  rw [c, Int.gcd_natCast_natCast, Int.gcd_natCast_natCast, Nat.gcd_comm n, ← Nat.gcd_rec, Nat.gcd_comm]
theorem gcd_sm {t b : Int} {n : Nat} (hb : b ≠ 0) (sb : Sm n b) : Sm n (Int.gcd t b : Int) := sb.le (by
  have : (Int.gcd t b : Int) ∣ b := Int.gcd_dvd_right t b
  have := Int.le_of_dvd (show 0 < (b.natAbs : Int) by omega) (Int.dvd_natAbs.mpr this)
  omega)
end Mb
namespace Mb
open PySem L2
/-! ### promises of the law's own drawing -/
/-- a pool of draws at p: three numbers, the second from 0 to b -/
def Pl (H : Hp) (p : Addr) (b : Int) : Prop := ∃ x y z : Int, H p = some (.lst [.int x, .int y, .int z]) ∧ 0 ≤ y ∧ y ≤ b
theorem Pl.mono {H : Hp} {p : Addr} {b c : Int} (h : Pl H p b) (l : b ≤ c) : Pl H p c := by
  obtain ⟨x, y, z, h1, h2, h3⟩ := h
  exact ⟨x, y, z, h1, h2, by omega⟩
theorem Pl.same {H H' : Hp} {p : Addr} {b : Int} (h : Pl H p b) (s : Same H H') : Pl H' p b := by
  obtain ⟨x, y, z, h1, h2, h3⟩ := h
  exact ⟨x, y, z, s _ _ h1, h2, h3⟩
theorem Pl.but {H H' : Hp} {p q : Addr} {b : Int} (h : Pl H p b) (n : p ≠ q) (s : But q H H') : Pl H' p b := by
  obtain ⟨x, y, z, h1, h2, h3⟩ := h
  exact ⟨x, y, z, s _ _ n h1, h2, h3⟩
theorem Pl.tup {K : PySem.W.Frag} {H H' : Hp} {a p : Addr} {b : Int} {xs : List V} (h : Pl H p b) (s : But p H H') (t : SqT K H a xs) : SqT K H' a xs := by
  obtain ⟨x, y, z, h1, _⟩ := h
  exact s.tup h1 t
def spPool (K : PySem.W.Frag) : Sp := fun vs H Q _ => ∃ (a : Addr) (ns : List Int) (i : Int), vs = [.ref a, .int i] ∧ SqL K H a (ns.map V.int) ∧ ns.length ≤ 63 ∧ 0 ≤ i ∧ i ≤ 1000 ∧
  ∀ (p : Addr) (H' : Hp), Same H H' → H p = none → Pl H' p 1000000 → Q (.ref p) H'
def spTake : Sp := fun vs H Q _ => ∃ (p : Addr) (k b : Int), vs = [.ref p, .int k] ∧ Pl H p b ∧ b ≤ 2000000 ∧ 1 ≤ k ∧ k ≤ 1000000 ∧
  ∀ (r : Int) (H' : Hp), But p H H' → Pl H' p (b + 1) → 0 ≤ r → r < k → Q (.int r) H'
def spGcd : Sp := fun vs H Q _ => ∃ a b : Int, vs = [.int a, .int b] ∧ Q (.int (Int.gcd a b)) H
def spLow : Sp := fun vs H Q _ => ∃ t b : Int, vs = [.int t, .int b] ∧ b ≠ 0 ∧ Sm 8000 b ∧
  ∀ (p : Addr) (H' : Hp), Same H H' → H p = none → H' p = some (.tup [.int (lowT t b), .int (lowB t b)]) → Q (.ref p) H'
/-- a number of the pool, from 0 on, below 2 ^ 210 -/
def spNumber : Sp := fun vs H Q _ => ∃ (p : Addr) (b : Int), vs = [.ref p] ∧ Pl H p b ∧ b ≤ 1900000 ∧
  ∀ (r : Int) (H' : Hp), But p H H' → Pl H' p (b + 100) → 0 ≤ r → Sm 210 r → Q (.int r) H'
/-- a fraction: its two numbers, in lowest terms -/
structure Fr (m : Nat) (t u : Int) : Prop where
  pos : 0 < u
  one : Int.gcd t u = 1
  st : Sm m t
  su : Sm m u
def spWide : Sp := fun vs H Q _ => ∃ (p : Addr) (b : Int), vs = [.ref p] ∧ Pl H p b ∧ b ≤ 1800000 ∧
  ∀ (q : Addr) (t u : Int) (H' : Hp), But p H H' → Pl H' p (b + 300) → H' q = some (.tup [.int t, .int u]) → Fr 211 t u → Q (.ref q) H'
def spPair (K : PySem.W.Frag) : Sp := fun vs H Q _ => ∃ (a : Addr) (ns : List Int) (i : Int), vs = [.ref a, .int i] ∧ SqL K H a (ns.map V.int) ∧ ns.length ≤ 63 ∧ 0 ≤ i ∧ i ≤ 900 ∧
  ∀ (r p q : Addr) (t u x y : Int) (H' : Hp), Same H H' → H' r = some (.tup [.ref p, .ref q]) → SqT K H' p [.int t, .int u] → SqT K H' q [.int x, .int y] → Fr 211 t u → Fr 211 x y → Q (.ref r) H'
def spAsked (K : PySem.W.Frag) : Sp := fun vs H Q _ => ∃ (a : Addr) (ns : List Int) (i : Int), vs = [.ref a, .int i] ∧ SqL K H a (ns.map V.int) ∧ ns.length ≤ 63 ∧ 0 ≤ i ∧ i ≤ 900 ∧ ∀ H', Same H H' → Q (.bl true) H'
def spLaw (K : PySem.W.Frag) : Sp := fun vs H Q _ => ∃ (a : Addr) (ns : List Int), vs = [.ref a] ∧ SqL K H a (ns.map V.int) ∧ ns.length ≤ 63 ∧ ∀ H', Q (.bl true) H'
end Mb
namespace Mb
open PySem L2
/-! ### promises of what reckons with fractions -/
def spArith (K : PySem.W.Frag) (T B : Int → Int → Int → Int → Int) : Sp := fun vs H Q _ => ∃ (a b : Addr) (x y u v : Int) (n m : Nat), vs = [.ref a, .ref b] ∧ SqT K H a [.int x, .int y] ∧ SqT K H b [.int u, .int v] ∧ Sm n x ∧ Sm n y ∧ Sm m u ∧ Sm m v ∧ n + m ≤ 8000 ∧ B x y u v ≠ 0 ∧
  ∀ (p : Addr) (H' : Hp), Same H H' → H p = none → H' p = some (.tup [.int (lowT (T x y u v) (B x y u v)), .int (lowB (T x y u v) (B x y u v))]) → Q (.ref p) H'
def spRaw (K : PySem.W.Frag) (T B : Int → Int → Int → Int → Int) : Sp := fun vs H Q _ => ∃ (a b : Addr) (x y u v : Int), vs = [.ref a, .ref b] ∧ SqT K H a [.int x, .int y] ∧ SqT K H b [.int u, .int v] ∧ Sm 20000 x ∧ Sm 20000 y ∧ Sm 20000 u ∧ Sm 20000 v ∧
  ∀ (p : Addr) (H' : Hp), Same H H' → H p = none → H' p = some (.tup [.int (T x y u v), .int (B x y u v)]) → Q (.ref p) H'
def spEven (K : PySem.W.Frag) : Sp := fun vs H Q _ => ∃ (a b : Addr) (x y u v : Int), vs = [.ref a, .ref b] ∧ SqT K H a [.int x, .int y] ∧ SqT K H b [.int u, .int v] ∧ Sm 100000 x ∧ Sm 100000 y ∧ Sm 100000 u ∧ Sm 100000 v ∧ Q (.bl (decide (x * v = u * y))) H
def spWhole : Sp := fun vs H Q _ => ∃ i : Int, vs = [.int i] ∧ Q (.bl true) H
def spIsFrac : Sp := fun vs H Q _ => ∃ (p : Addr) (t u : Int), vs = [.ref p] ∧ H p = some (.tup [.int t, .int u]) ∧ 0 < u ∧ Int.gcd t u = 1 ∧ Q (.bl true) H
end Mb
namespace Mb
open PySem L2
/-! ### the drawing of the laws of places, lines and circles -/
def Sr (H : Hp) (p : Addr) (b : Int) : Prop := ∃ x y z : Int, H p = some (.lst [.int x, .int y, .int z]) ∧ 0 ≤ y ∧ y < 2147483629 ∧ 0 ≤ z ∧ z ≤ b
theorem Sr.mono {H : Hp} {p : Addr} {b c : Int} (h : Sr H p b) (l : b ≤ c) : Sr H p c := by
  obtain ⟨x, y, z, h1, h2, h3, h4, h5⟩ := h
  exact ⟨x, y, z, h1, h2, h3, h4, by omega⟩
theorem Sr.same {H H' : Hp} {p : Addr} {b : Int} (h : Sr H p b) (s : Same H H') : Sr H' p b := by
  obtain ⟨x, y, z, h1, h2⟩ := h
  exact ⟨x, y, z, s _ _ h1, h2⟩
theorem Sr.but {H H' : Hp} {p q : Addr} {b : Int} (h : Sr H p b) (n : p ≠ q) (s : But q H H') : Sr H' p b := by
  obtain ⟨x, y, z, h1, h2⟩ := h
  exact ⟨x, y, z, s _ _ n h1, h2⟩
theorem Sr.tup {K : PySem.W.Frag} {H H' : Hp} {a p : Addr} {b : Int} {xs : List V} (h : Sr H p b) (s : But p H H') (t : SqT K H a xs) : SqT K H' a xs := by
  obtain ⟨x, y, z, h1, _⟩ := h
  exact s.tup h1 t
theorem Sr.ne {H : Hp} {p l : Addr} {b : Int} (h : Sr H p b) (n : H l = none) : l ≠ p := fun z => by
  obtain ⟨_, _, _, h1, _⟩ := h
  rw [z, h1] at n
  cases n
theorem Sr.ne2 {H : Hp} {p q : Addr} {b : Int} (h : Sr H p b) (n : H q = none) : p ≠ q := fun z => h.ne n z.symm
def spStream (K : PySem.W.Frag) : Sp := fun vs H Q _ => ∃ (a : Addr) (ns : List Int) (i : Int), vs = [.ref a, .int i] ∧ SqL K H a (ns.map V.int) ∧ ns.length ≤ 63 ∧ 0 ≤ i ∧ i ≤ 1000 ∧
  ∀ (p : Addr) (H' : Hp), Same H H' → H p = none → Sr H' p 0 → Q (.ref p) H'
def spTakeS : Sp := fun vs H Q _ => ∃ (p : Addr) (k b : Int), vs = [.ref p, .int k] ∧ Sr H p b ∧ b ≤ 100000 ∧ 1 ≤ k ∧ Sm 1000 k ∧
  ∀ (r : Int) (H' : Hp), But p H H' → Sr H' p (b + 1) → 0 ≤ r → r < k → Q (.int r) H'
def spGreat : Sp := fun vs H Q _ => ∃ (p : Addr) (b : Int), vs = [.ref p] ∧ Sr H p b ∧ b ≤ 90000 ∧
  ∀ (r : Int) (H' : Hp), But p H H' → Sr H' p (b + 10) → 0 ≤ r → Sm 200 r → Q (.int r) H'
/-- the bits of a number of so many sizes -/
def nb (k : Int) : Nat := if k ≤ 4 then 10 else if k ≤ 5 then 30 else 210
theorem nb_le (k : Int) : nb k ≤ 210 := by
  unfold nb
  split
  · decide
  · split <;> decide
theorem nb_ge (k : Int) : 10 ≤ nb k := by
  unfold nb
  split
  · decide
  · split <;> decide
theorem nb_5 {k : Int} (h : 5 ≤ k) : 30 ≤ nb k := by
  unfold nb
  split
  · omega
  · split <;> decide
theorem nb_6 {k : Int} (h : 6 ≤ k) : nb k = 210 := by
  unfold nb
  rw [if_neg (by omega), if_neg (by omega)]
def spNumberZ : Sp := fun vs H Q _ => ∃ (p : Addr) (k b : Int), vs = [.ref p, .int k] ∧ Sr H p b ∧ b ≤ 80000 ∧ 1 ≤ k ∧ k ≤ 100 ∧
  ∀ (r : Int) (H' : Hp), But p H H' → Sr H' p (b + 20) → Sm (nb k) r → Q (.int r) H'
def spLowest (K : PySem.W.Frag) : Sp := fun vs H Q _ => ∃ (a : Addr) (t b : Int), vs = [.ref a] ∧ SqT K H a [.int t, .int b] ∧ b ≠ 0 ∧ Sm 8900 b ∧
  ∀ (p : Addr) (H' : Hp), Same H H' → H p = none → H' p = some (.tup [.int (lowT t b), .int (lowB t b)]) → Q (.ref p) H'
def spFractionZ : Sp := fun vs H Q _ => ∃ (p : Addr) (k b : Int), vs = [.ref p, .int k] ∧ Sr H p b ∧ b ≤ 70000 ∧ 1 ≤ k ∧ k ≤ 100 ∧
  ∀ (q : Addr) (t u : Int) (H' : Hp), But p H H' → Sr H' p (b + 50) → H' q = some (.tup [.int t, .int u]) → Fr (nb k + 1) t u → Q (.ref q) H'
/-- a place at a: its two fractions -/
structure Pc (K : PySem.W.Frag) (H : Hp) (a : Addr) (m : Nat) (t u r s : Int) : Prop where
  at_ : ∃ f g, SqT K H a [.ref f, .ref g] ∧ SqT K H f [.int t, .int u] ∧ SqT K H g [.int r, .int s]
  x : Fr m t u
  y : Fr m r s
theorem Pc.same {K : PySem.W.Frag} {H H' : Hp} {a : Addr} {m : Nat} {t u r s : Int} (h : Pc K H a m t u r s) (e : Same H H') : Pc K H' a m t u r s := by
  obtain ⟨⟨f, g, h1, h2, h3⟩, hx, hy⟩ := h
  exact ⟨⟨f, g, e.tp h1, e.tp h2, e.tp h3⟩, hx, hy⟩
theorem Pc.but {K : PySem.W.Frag} {H H' : Hp} {a p : Addr} {m : Nat} {b t u r s : Int} (h : Pc K H a m t u r s) (hp : Sr H p b) (e : But p H H') : Pc K H' a m t u r s := by
  obtain ⟨⟨f, g, h1, h2, h3⟩, hx, hy⟩ := h
  exact ⟨⟨f, g, hp.tup e h1, hp.tup e h2, hp.tup e h3⟩, hx, hy⟩
def spPlaceZ (K : PySem.W.Frag) : Sp := fun vs H Q _ => ∃ (p : Addr) (k b : Int), vs = [.ref p, .int k] ∧ Sr H p b ∧ b ≤ 60000 ∧ 1 ≤ k ∧ k ≤ 100 ∧
  ∀ (q : Addr) (t u r s : Int) (H' : Hp), But p H H' → Sr H' p (b + 100) → Pc K H' q (nb k + 1) t u r s → Q (.ref q) H'
def spNear (K : PySem.W.Frag) : Sp := fun vs H Q _ => ∃ (p : Addr) (k b : Int) (q : Addr) (t u r s : Int), vs = [.ref p, .int k, .ref q] ∧ Sr H p b ∧ b ≤ 50000 ∧ 1 ≤ k ∧ k ≤ 100 ∧ Pc K H q (nb k + 1) t u r s ∧
  ∀ (a : Addr) (t' u' r' s' : Int) (H' : Hp), But p H H' → Sr H' p (b + 200) → Pc K H' a (nb k + 1) t' u' r' s' → Q (.ref a) H'
theorem tyT {K : PySem.W.Frag} {H : Hp} {a : Addr} {xs : List V} (h : SqT K H a xs) : TyX K H (.ref a) (.type "tuple") := by
  rcases h with (h | ⟨o, h⟩) | ⟨o, its, n, h, c, _⟩
  · exact .base (.tup h)
  · exact .fTuple h
  · exact .kTuple h c
def spIsFr (K : PySem.W.Frag) : Sp := fun vs H Q _ => ∃ (p : Addr) (t u : Int), vs = [.ref p] ∧ SqT K H p [.int t, .int u] ∧ 0 < u ∧ Int.gcd t u = 1 ∧ Q (.bl true) H
def spIsPl (K : PySem.W.Frag) : Sp := fun vs H Q _ => ∃ (p f g : Addr) (t u r s : Int), vs = [.ref p] ∧ SqT K H p [.ref f, .ref g] ∧ SqT K H f [.int t, .int u] ∧ SqT K H g [.int r, .int s] ∧ 0 < u ∧ Int.gcd t u = 1 ∧ 0 < s ∧ Int.gcd r s = 1 ∧ Q (.bl true) H
end Mb
namespace Mb
open PySem L2
/-! ### fractions as rationals -/
theorem low_rat {t b : Int} (hb : b ≠ 0) : lowT t b = (Rat.divInt t b).num ∧ lowB t b = ((Rat.divInt t b).den : Int) := by
  have hd : ((Rat.divInt t b).den : Int) ≠ 0 := by have := (Rat.divInt t b).den_nz; omega
  refine low_eq hb (by omega) (Rat.divInt t b).reduced ?_
  have e := Rat.num_divInt_den (Rat.divInt t b)
  exact ((Rat.divInt_eq_divInt_iff hd hb).mp e).symm
/-- the sizes of a rational's numbers -/
structure Sz (n : Nat) (q : Rat) : Prop where
  t : Sm n q.num
  b : Sm n (q.den : Int)
theorem Sz.mono {m n : Nat} {q : Rat} (h : Sz m q) (l : m ≤ n) : Sz n q := ⟨h.t.mono l, h.b.mono l⟩
theorem Sz.lit {q : Rat} (h1 : Sm 8 q.num) (h2 : Sm 8 (q.den : Int)) : Sz 8 q := ⟨h1, h2⟩
theorem Sz.divInt {n : Nat} {t b : Int} (hb : b ≠ 0) (h1 : Sm n t) (h2 : Sm n b) : Sz n (Rat.divInt t b) := by
  obtain ⟨e1, e2⟩ := low_rat (t := t) hb
  refine ⟨?_, ?_⟩
  · rw [← e1]; exact h1.le (lowT_le hb)
  · rw [← e2]; exact h2.le (lowB_le hb)
theorem den_ne (q : Rat) : (q.den : Int) ≠ 0 := by have := q.den_nz; omega
theorem den_pos (q : Rat) : 0 < (q.den : Int) := by have := q.den_nz; omega
theorem add_dv (p q : Rat) : p + q = Rat.divInt (p.num * q.den + q.num * p.den) (p.den * q.den) := by
  rw [← Rat.divInt_add_divInt _ _ (den_ne p) (den_ne q), Rat.num_divInt_den, Rat.num_divInt_den]
theorem sub_dv (p q : Rat) : p - q = Rat.divInt (p.num * q.den - q.num * p.den) (p.den * q.den) := by
  rw [← Rat.divInt_sub_divInt _ _ (den_ne p) (den_ne q), Rat.num_divInt_den, Rat.num_divInt_den]
theorem mul_dv (p q : Rat) : p * q = Rat.divInt (p.num * q.num) (p.den * q.den) := by
  rw [← Rat.divInt_mul_divInt, Rat.num_divInt_den, Rat.num_divInt_den]
theorem div_dv (p q : Rat) : p / q = Rat.divInt (p.num * q.den) (p.den * q.num) := by
  rw [Rat.div_def, ← Rat.divInt_mul_divInt, Rat.num_divInt_den, ← Rat.inv_divInt, Rat.num_divInt_den]
theorem Sz.add {m n : Nat} {p q : Rat} (h : Sz m p) (l : Sz n q) : Sz (m + n + 1) (p + q) := by
  rw [add_dv]
  exact Sz.divInt (Int.mul_ne_zero (den_ne p) (den_ne q)) (((h.t.mul l.b).add ((l.t.mul h.b).mono (by omega)))) ((h.b.mul l.b).mono (by omega))
theorem Sz.sub {m n : Nat} {p q : Rat} (h : Sz m p) (l : Sz n q) : Sz (m + n + 1) (p - q) := by
  rw [sub_dv]
  exact Sz.divInt (Int.mul_ne_zero (den_ne p) (den_ne q)) (((h.t.mul l.b).sub ((l.t.mul h.b).mono (by omega)))) ((h.b.mul l.b).mono (by omega))
theorem Sz.mul {m n : Nat} {p q : Rat} (h : Sz m p) (l : Sz n q) : Sz (m + n) (p * q) := by
  rw [mul_dv]
  exact Sz.divInt (Int.mul_ne_zero (den_ne p) (den_ne q)) (h.t.mul l.t) (h.b.mul l.b)
theorem Sz.div {m n : Nat} {p q : Rat} (h : Sz m p) (l : Sz n q) (hq : q ≠ 0) : Sz (m + n) (p / q) := by
  rw [div_dv]
  exact Sz.divInt (Int.mul_ne_zero (den_ne p) (fun z => hq (Rat.num_eq_zero.mp z))) (h.t.mul l.b) (h.b.mul l.t)
theorem Sz.neg {m : Nat} {p : Rat} (h : Sz m p) : Sz m (-p) := ⟨by rw [Rat.neg_num]; exact h.t.neg, h.b⟩
/-- a fraction stands at v -/
def Fq (K : PySem.W.Frag) (H : Hp) (v : V) (q : Rat) : Prop := ∃ a, v = .ref a ∧ SqT K H a [.int q.num, .int q.den]
theorem Fq.up {K : PySem.W.Frag} {H H' : Hp} {v : V} {q : Rat} (h : Fq K H v q) (s : Same H H') : Fq K H' v q := by
  obtain ⟨a, rfl, t⟩ := h
  exact ⟨a, rfl, s.tp t⟩
theorem Fq.of {K : PySem.W.Frag} {H : Hp} {a : Addr} {t b : Int} (q : Rat) (hb : b ≠ 0) (e : q = Rat.divInt t b) (h : H a = some (.tup [.int (lowT t b), .int (lowB t b)])) : Fq K H (.ref a) q := by
  obtain ⟨e1, e2⟩ := low_rat (t := t) hb
  rw [e1, e2, ← e] at h
  exact ⟨a, rfl, tupOf h⟩
/-- a fraction stands at v, in lowest terms or not -/
def Rq (K : PySem.W.Frag) (H : Hp) (v : V) (q : Rat) (n : Nat) : Prop := ∃ a t b, v = .ref a ∧ SqT K H a [.int t, .int b] ∧ b ≠ 0 ∧ q = Rat.divInt t b ∧ Sm n t ∧ Sm n b
theorem Rq.up {K : PySem.W.Frag} {H H' : Hp} {v : V} {q : Rat} {n : Nat} (h : Rq K H v q n) (s : Same H H') : Rq K H' v q n := by
  obtain ⟨a, t, b, rfl, h1, h2⟩ := h
  exact ⟨a, t, b, rfl, s.tp h1, h2⟩
theorem Fq.rq {K : PySem.W.Frag} {H : Hp} {v : V} {q : Rat} {n : Nat} (h : Fq K H v q) (s : Sz n q) : Rq K H v q n := by
  obtain ⟨a, rfl, t⟩ := h
  exact ⟨a, _, _, rfl, t, den_ne q, (Rat.num_divInt_den q).symm, s.t, s.b⟩
/-- a place stands at v -/
def Pq (K : PySem.W.Frag) (H : Hp) (v : V) (x y : Rat) : Prop := ∃ a f g, v = .ref a ∧ SqT K H a [f, g] ∧ Fq K H f x ∧ Fq K H g y
theorem Pq.up {K : PySem.W.Frag} {H H' : Hp} {v : V} {x y : Rat} (h : Pq K H v x y) (s : Same H H') : Pq K H' v x y := by
  obtain ⟨a, f, g, rfl, t, h1, h2⟩ := h
  exact ⟨a, f, g, rfl, s.tp t, h1.up s, h2.up s⟩
theorem Fq.but {K : PySem.W.Frag} {H H' : Hp} {v : V} {q : Rat} {p : Addr} {xs : List V} (h : Fq K H v q) (hp : H p = some (.lst xs)) (s : But p H H') : Fq K H' v q := by
  obtain ⟨a, rfl, t⟩ := h
  exact ⟨a, rfl, s.tup hp t⟩
theorem Pq.but {K : PySem.W.Frag} {H H' : Hp} {v : V} {x y : Rat} {p : Addr} {xs : List V} (h : Pq K H v x y) (hp : H p = some (.lst xs)) (s : But p H H') : Pq K H' v x y := by
  obtain ⟨a, f, g, rfl, t, h1, h2⟩ := h
  exact ⟨a, f, g, rfl, s.tup hp t, h1.but hp s, h2.but hp s⟩
/-! ### == of fractions, of places -/
def dq (q : Rat) : PyData := .tuple [.int q.num, .int q.den]
def dpl (x y : Rat) : PyData := .tuple [dq x, dq y]
theorem Fq.dp {K : PySem.W.Frag} {H : Hp} {v : V} {q : Rat} (h : Fq K H v q) : Dp K H v (dq q) := by
  obtain ⟨a, rfl, t⟩ := h
  exact .tup t (.cons (.int _) (.cons (.int _) .nil))
theorem Pq.dp {K : PySem.W.Frag} {H : Hp} {v : V} {x y : Rat} (h : Pq K H v x y) : Dp K H v (dpl x y) := by
  obtain ⟨a, f, g, rfl, t, h1, h2⟩ := h
  exact .tup t (.cons h1.dp (.cons h2.dp .nil))
theorem dq_inj {p q : Rat} (h : dq p = dq q) : p = q := by
  unfold dq at h
  injection h with h
  injection h with h1 h
  injection h with h2 h
  injection h1 with h1
  injection h2 with h2
  exact Rat.ext h1 (Int.ofNat_inj.mp h2)
section
variable {H : Hp} {Q : VK} {K : PySem.W.Frag}
theorem r_eqTrue {v w : V} {d : PyData} (h1 : Dp K H v d) (h2 : Dp K H w d) (sh : SeqAt.shaped d = true) (cl : PyData.canLay0 d = true) (k : Q (.bl true) H) : rEqD K v w H Q := by
  refine ⟨d, d, h1, h2, sh, sh, ?_⟩
  rw [SeqAt.eqv_refl _ cl]
  exact k
theorem r_eqQ {v w : V} {p q : Rat} (h1 : Fq K H v p) (h2 : Fq K H w q) (e : p = q) (k : Q (.bl true) H) : rEqD K v w H Q := by
  subst e
  exact r_eqTrue h1.dp h2.dp rfl rfl k
theorem r_eqP {v w : V} {x y x' y' : Rat} (h1 : Pq K H v x y) (h2 : Pq K H w x' y') (e : x = x' ∧ y = y') (k : Q (.bl true) H) : rEqD K v w H Q := by
  obtain ⟨rfl, rfl⟩ := e
  exact r_eqTrue h1.dp h2.dp rfl rfl k
end
/-! ### promises over rationals -/
def spQ2 (K : PySem.W.Frag) (pre : Rat → Rat → Prop) (op : Rat → Rat → Rat) : Sp := fun vs H Q _ => ∃ (v w : V) (p q : Rat) (n m : Nat), vs = [v, w] ∧ Fq K H v p ∧ Fq K H w q ∧ Sz n p ∧ Sz m q ∧ n + m ≤ 8000 ∧ pre p q ∧
  ∀ (r : V) (H' : Hp), Same H H' → Fq K H' r (op p q) → Q r H'
theorem q2_arith {K : PySem.W.Frag} {pre : Rat → Rat → Prop} {op : Rat → Rat → Rat} {T B : Int → Int → Int → Int → Int}
    (hop : ∀ p q, pre p q → B p.num p.den q.num q.den ≠ 0 ∧ op p q = Rat.divInt (T p.num p.den q.num q.den) (B p.num p.den q.num q.den)) {vs : List V} {H : Hp} {Q : VK} {E : XK} (h : spQ2 K pre op vs H Q E) : spArith K T B vs H Q E := by
  obtain ⟨_, _, p, q, n, m, rfl, ⟨a, rfl, ha⟩, ⟨b, rfl, hb⟩, s1, s2, l, pr, k⟩ := h
  obtain ⟨h1, h2⟩ := hop p q pr
  exact ⟨a, b, _, _, _, _, n, m, rfl, ha, hb, s1.t, s1.b, s2.t, s2.b, l, h1, fun o H' g _ ho => k _ _ g (Fq.of _ h1 h2 ho)⟩
theorem plus_q2 {K : PySem.W.Frag} {vs : List V} {H : Hp} {Q : VK} {E : XK} (h : spQ2 K (fun _ _ => True) (· + ·) vs H Q E) : spArith K (fun x y u v => x * v + u * y) (fun x y u v => y * v) vs H Q E :=
  q2_arith (fun p q _ => ⟨Int.mul_ne_zero (den_ne p) (den_ne q), add_dv p q⟩) h
theorem minus_q2 {K : PySem.W.Frag} {vs : List V} {H : Hp} {Q : VK} {E : XK} (h : spQ2 K (fun _ _ => True) (· - ·) vs H Q E) : spArith K (fun x y u v => x * v - u * y) (fun x y u v => y * v) vs H Q E :=
  q2_arith (fun p q _ => ⟨Int.mul_ne_zero (den_ne p) (den_ne q), sub_dv p q⟩) h
theorem times_q2 {K : PySem.W.Frag} {vs : List V} {H : Hp} {Q : VK} {E : XK} (h : spQ2 K (fun _ _ => True) (· * ·) vs H Q E) : spArith K (fun x y u v => x * u) (fun x y u v => y * v) vs H Q E :=
  q2_arith (fun p q _ => ⟨Int.mul_ne_zero (den_ne p) (den_ne q), mul_dv p q⟩) h
theorem over_q2 {K : PySem.W.Frag} {vs : List V} {H : Hp} {Q : VK} {E : XK} (h : spQ2 K (fun _ q => q ≠ 0) (· / ·) vs H Q E) : spArith K (fun x y u v => x * v) (fun x y u v => y * u) vs H Q E :=
  q2_arith (fun p q h => ⟨Int.mul_ne_zero (den_ne p) (fun z => h (Rat.num_eq_zero.mp z)), div_dv p q⟩) h
/-- the raw ones -/
def spR2 (K : PySem.W.Frag) (op : Rat → Rat → Rat) : Sp := fun vs H Q _ => ∃ (v w : V) (p q : Rat) (n m : Nat), vs = [v, w] ∧ Rq K H v p n ∧ Rq K H w q m ∧ n ≤ 20000 ∧ m ≤ 20000 ∧
  ∀ (r : V) (H' : Hp), Same H H' → Rq K H' r (op p q) (n + m + 1) → Q r H'
def spS2 (K : PySem.W.Frag) : Sp := fun vs H Q _ => ∃ (v w : V) (p q : Rat) (n m : Nat), vs = [v, w] ∧ Rq K H v p n ∧ Rq K H w q m ∧ n ≤ 100000 ∧ m ≤ 100000 ∧ Q (.bl (decide (p = q))) H
theorem r2_raw {K : PySem.W.Frag} {op : Rat → Rat → Rat} {T B : Int → Int → Int → Int → Int}
    (hop : ∀ x y u v : Int, ∀ n m : Nat, y ≠ 0 → v ≠ 0 → Sm n x → Sm n y → Sm m u → Sm m v → B x y u v ≠ 0 ∧ op (Rat.divInt x y) (Rat.divInt u v) = Rat.divInt (T x y u v) (B x y u v) ∧ Sm (n + m + 1) (T x y u v) ∧ Sm (n + m + 1) (B x y u v)) {vs : List V} {H : Hp} {Q : VK} {E : XK} (h : spR2 K op vs H Q E) : spRaw K T B vs H Q E := by
  obtain ⟨_, _, p, q, n, m, rfl, ⟨a, x, y, rfl, ha, y0, rfl, sx, sy⟩, ⟨b, u, v, rfl, hb, v0, rfl, su, sv⟩, l1, l2, k⟩ := h
  obtain ⟨h1, h2, h3, h4⟩ := hop x y u v n m y0 v0 sx sy su sv
  exact ⟨a, b, _, _, _, _, rfl, ha, hb, sx.mono l1, sy.mono l1, su.mono l2, sv.mono l2, fun o H' g _ ho => k _ _ g ⟨o, _, _, rfl, tupOf ho, h1, h2, h3, h4⟩⟩
theorem plus_r2 {K : PySem.W.Frag} {vs : List V} {H : Hp} {Q : VK} {E : XK} (h : spR2 K (· + ·) vs H Q E) : spRaw K (fun x y u v => x * v + u * y) (fun x y u v => y * v) vs H Q E :=
  r2_raw (fun x y u v n m y0 v0 sx sy su sv => ⟨Int.mul_ne_zero y0 v0, Rat.divInt_add_divInt _ _ y0 v0, (sx.mul sv).add ((su.mul sy).mono (by omega)), (sy.mul sv).mono (by omega)⟩) h
theorem minus_r2 {K : PySem.W.Frag} {vs : List V} {H : Hp} {Q : VK} {E : XK} (h : spR2 K (· - ·) vs H Q E) : spRaw K (fun x y u v => x * v - u * y) (fun x y u v => y * v) vs H Q E :=
  r2_raw (fun x y u v n m y0 v0 sx sy su sv => ⟨Int.mul_ne_zero y0 v0, Rat.divInt_sub_divInt _ _ y0 v0, (sx.mul sv).sub ((su.mul sy).mono (by omega)), (sy.mul sv).mono (by omega)⟩) h
theorem times_r2 {K : PySem.W.Frag} {vs : List V} {H : Hp} {Q : VK} {E : XK} (h : spR2 K (· * ·) vs H Q E) : spRaw K (fun x y u v => x * u) (fun x y u v => y * v) vs H Q E :=
  r2_raw (fun x y u v n m y0 v0 sx sy su sv => ⟨Int.mul_ne_zero y0 v0, Rat.divInt_mul_divInt _ _, (sx.mul su).mono (by omega), (sy.mul sv).mono (by omega)⟩) h
theorem same_r2 {K : PySem.W.Frag} {vs : List V} {H : Hp} {Q : VK} {E : XK} (h : spS2 K vs H Q E) : spEven K vs H Q E := by
  obtain ⟨_, _, p, q, n, m, rfl, ⟨a, x, y, rfl, ha, y0, rfl, sx, sy⟩, ⟨b, u, v, rfl, hb, v0, rfl, su, sv⟩, l1, l2, k⟩ := h
  refine ⟨a, b, _, _, _, _, rfl, ha, hb, sx.mono l1, sy.mono l1, su.mono l2, sv.mono l2, ?_⟩
  have e : decide (Rat.divInt x y = Rat.divInt u v) = decide (x * v = u * y) := decide_eq_decide.mpr (Rat.divInt_eq_divInt_iff y0 v0)
  rw [← e]
  exact k
/-- a promise that is asked for less -/
theorem Kn.of {P : Program} {w : World} {K : PySem.W.Frag} {mg : Str → Option Value} {base : Heap} {k : Nat} {x : Str} {ps : List Str} {sp sp' : Sp} (G : Kn P w K mg base k x ps sp) (i : ∀ vs H Q E, sp' vs H Q E → sp vs H Q E) : Kn P w K mg base k x ps sp' := by
  obtain ⟨f, fd, F, m, kp, b⟩ := G.ex
  exact ⟨f, fd, F.imp i, m, kp, b⟩
def newT (Q : VK) (xs : List V) (H : Hp) : Prop := xs.length ≤ sizeLine ∧ ∀ p, H p = none → Q (.ref p) (upd H p (.tup xs))
def newL (Q : VK) (xs : List V) (H : Hp) : Prop := xs.length ≤ sizeLine ∧ ∀ p, H p = none → Q (.ref p) (upd H p (.lst xs))
theorem r_tup2 {σ : St} {H : Hp} {Q : VK} {t : TA} (q : t σ H fun xs H1 => newT Q xs H1) : tTup t σ H Q := q
theorem r_lst2 {σ : St} {H : Hp} {Q : VK} {t : TA} (q : t σ H fun xs H1 => newL Q xs H1) : tLst t σ H Q := q
theorem r_newT {H : Hp} {Q : VK} {xs : List V} (l : Nat.ble xs.length 1000 = true) (q : ∀ p H2, Same H H2 → H p = none → H2 p = some (.tup xs) → Q (.ref p) H2) : newT Q xs H :=
  ⟨sz l, fun p hp => q p _ (same_new hp _) hp upd_same⟩
theorem r_newL {H : Hp} {Q : VK} {xs : List V} (l : Nat.ble xs.length 1000 = true) (q : ∀ p H2, Same H H2 → H p = none → H2 p = some (.lst xs) → Q (.ref p) H2) : newL Q xs H :=
  ⟨sz l, fun p hp => q p _ (same_new hp _) hp upd_same⟩
/-! ### steps over rationals -/
section
variable {σ : St} {H : Hp} {Q : VK} {E : XK} {K : PySem.W.Frag}
theorem Fq.int {H : Hp} {a : Addr} {t : Int} (h : H a = some (.tup [.int t, .int 1])) : Fq K H (.ref a) (t : Rat) := ⟨a, rfl, tupOf h⟩
theorem Pq.mk {H : Hp} {a : Addr} {f g : V} {x y : Rat} (h : H a = some (.tup [f, g])) (h1 : Fq K H f x) (h2 : Fq K H g y) : Pq K H (.ref a) x y := ⟨a, f, g, rfl, tupOf h, h1, h2⟩
theorem r_ixF0 {v : V} {q : Rat} (h : Fq K H v q) (k : Q (.int q.num) H) : rIxT K v (.int 0) H Q := by
  obtain ⟨a, rfl, t⟩ := h
  exact ⟨a, _, 0, _, rfl, rfl, t, rfl, k⟩
theorem r_ixF1 {v : V} {q : Rat} (h : Fq K H v q) (k : Q (.int q.den) H) : rIxT K v (.int 1) H Q := by
  obtain ⟨a, rfl, t⟩ := h
  exact ⟨a, _, 1, _, rfl, rfl, t, rfl, k⟩
theorem r_ixP0 {v : V} {x y : Rat} (h : Pq K H v x y) (k : ∀ f, Fq K H f x → Q f H) : rIxT K v (.int 0) H Q := by
  obtain ⟨a, f, g, rfl, t, h1, h2⟩ := h
  exact ⟨a, _, 0, f, rfl, rfl, t, rfl, k f h1⟩
theorem r_ixP1 {v : V} {x y : Rat} (h : Pq K H v x y) (k : ∀ f, Fq K H f y → Q f H) : rIxT K v (.int 1) H Q := by
  obtain ⟨a, f, g, rfl, t, h1, h2⟩ := h
  exact ⟨a, _, 1, g, rfl, rfl, t, rfl, k g h2⟩
theorem r_q2 {pre : Rat → Rat → Prop} {op : Rat → Rat → Rat} {v w : V} {p q : Rat} {n m : Nat} (h1 : Fq K H v p) (h2 : Fq K H w q) (s1 : Sz n p) (s2 : Sz m q) (l : Nat.ble (n + m) 8000 = true) (pr : pre p q)
    (k : ∀ (r : V) (H' : Hp), Same H H' → Fq K H' r (op p q) → Q r H') : spQ2 K pre op ([v, w] ++ []) H Q E :=
  ⟨v, w, p, q, n, m, rfl, h1, h2, s1, s2, Nat.le_of_ble_eq_true l, pr, k⟩
theorem r_r2 {op : Rat → Rat → Rat} {v w : V} {p q : Rat} {n m : Nat} (h1 : Rq K H v p n) (h2 : Rq K H w q m) (l1 : Nat.ble n 20000 = true) (l2 : Nat.ble m 20000 = true)
    (k : ∀ (r : V) (H' : Hp), Same H H' → Rq K H' r (op p q) (n + m + 1) → Q r H') : spR2 K op ([v, w] ++ []) H Q E :=
  ⟨v, w, p, q, n, m, rfl, h1, h2, Nat.le_of_ble_eq_true l1, Nat.le_of_ble_eq_true l2, k⟩
theorem r_s2 {v w : V} {p q : Rat} {n m : Nat} (h1 : Rq K H v p n) (h2 : Rq K H w q m) (l1 : Nat.ble n 100000 = true) (l2 : Nat.ble m 100000 = true)
    (k : Q (.bl (decide (p = q))) H) : spS2 K ([v, w] ++ []) H Q E :=
  ⟨v, w, p, q, n, m, rfl, h1, h2, Nat.le_of_ble_eq_true l1, Nat.le_of_ble_eq_true l2, k⟩
end
/-- two places in, a place out -/
def spP2 (K : PySem.W.Frag) (X Y : Rat → Rat → Rat → Rat → Rat) : Sp := fun vs H Q _ => ∃ (v w : V) (x y x' y' : Rat) (n m : Nat), vs = [v, w] ∧ Pq K H v x y ∧ Pq K H w x' y' ∧ Sz n x ∧ Sz n y ∧ Sz m x' ∧ Sz m y' ∧ n + m ≤ 3800 ∧
  ∀ (r : V) (H' : Hp), Same H H' → Pq K H' r (X x y x' y') (Y x y x' y') → Q r H'
theorem r_p2 {H : Hp} {Q : VK} {E : XK} {K : PySem.W.Frag} {X Y : Rat → Rat → Rat → Rat → Rat} {v w : V} {x y x' y' : Rat} {n n2 m m2 : Nat} (h1 : Pq K H v x y) (h2 : Pq K H w x' y') (s1 : Sz n x) (s2 : Sz n2 y) (s3 : Sz m x') (s4 : Sz m2 y') (l : Nat.ble (max n n2 + max m m2) 3800 = true)
    (k : ∀ (r : V) (H' : Hp), Same H H' → Pq K H' r (X x y x' y') (Y x y x' y') → Q r H') : spP2 K X Y ([v, w] ++ []) H Q E := by
  have := Nat.le_of_ble_eq_true l
  exact ⟨v, w, x, y, x', y', max n n2, max m m2, rfl, h1, h2, s1.mono (by omega), s2.mono (by omega), s3.mono (by omega), s4.mono (by omega), this, k⟩
def spIsP (K : PySem.W.Frag) : Sp := fun vs H Q _ => ∃ (v : V) (x y : Rat), vs = [v] ∧ Pq K H v x y ∧ Q (.bl true) H
theorem isP_of {K : PySem.W.Frag} {vs : List V} {H : Hp} {Q : VK} {E : XK} (h : spIsP K vs H Q E) : spIsPl K vs H Q E := by
  obtain ⟨_, x, y, rfl, ⟨a, _, _, rfl, t, ⟨f, rfl, h1⟩, ⟨g, rfl, h2⟩⟩, k⟩ := h
  exact ⟨a, f, g, _, _, _, _, rfl, t, h1, h2, den_pos x, x.reduced, den_pos y, y.reduced, k⟩
/-! ### drawing, over rationals -/
theorem Fr.rat {m : Nat} {t u : Int} (h : Fr m t u) : ∃ q : Rat, q.num = t ∧ (q.den : Int) = u ∧ Sz m q := by
  have p := h.pos
  refine ⟨⟨t, u.toNat, by omega, ?_⟩, rfl, ?_, h.st, ?_⟩
  · have := h.one
    unfold Int.gcd at this
    have e : u.natAbs = u.toNat := by omega
    rw [e] at this
    exact this
  · show ((u.toNat : Nat) : Int) = u
    omega
  · show Sm m ((u.toNat : Nat) : Int)
    have e : ((u.toNat : Nat) : Int) = u := by omega
    rw [e]
    exact h.su
theorem Pc.pq {K : PySem.W.Frag} {H : Hp} {a : Addr} {m : Nat} {t u r s : Int} (h : Pc K H a m t u r s) : ∃ x y, Pq K H (.ref a) x y ∧ Sz m x ∧ Sz m y := by
  obtain ⟨⟨f, g, h1, h2, h3⟩, hx, hy⟩ := h
  obtain ⟨x, rfl, rfl, sx⟩ := hx.rat
  obtain ⟨y, rfl, rfl, sy⟩ := hy.rat
  exact ⟨x, y, ⟨a, _, _, rfl, h1, ⟨f, rfl, h2⟩, ⟨g, rfl, h3⟩⟩, sx, sy⟩
theorem Pq.pc {K : PySem.W.Frag} {H : Hp} {v : V} {m : Nat} {x y : Rat} (h : Pq K H v x y) (sx : Sz m x) (sy : Sz m y) : ∃ a t u r s, v = .ref a ∧ Pc K H a m t u r s := by
  obtain ⟨a, _, _, rfl, h1, ⟨f, rfl, h2⟩, ⟨g, rfl, h3⟩⟩ := h
  exact ⟨a, _, _, _, _, rfl, ⟨f, g, h1, h2, h3⟩, ⟨den_pos x, x.reduced, sx.t, sx.b⟩, ⟨den_pos y, y.reduced, sy.t, sy.b⟩⟩
theorem Sr.at_ {H : Hp} {p : Addr} {b : Int} (h : Sr H p b) : ∃ xs, H p = some (.lst xs) := by
  obtain ⟨x, y, z, h1, _⟩ := h
  exact ⟨_, h1⟩
theorem Fq.upB {K : PySem.W.Frag} {H H' : Hp} {v : V} {q : Rat} {p : Addr} {b : Int} (h : Fq K H v q) (s : But p H H') (hp : Sr H p b) : Fq K H' v q := by
  obtain ⟨xs, e⟩ := hp.at_
  exact h.but e s
theorem Pq.upB {K : PySem.W.Frag} {H H' : Hp} {v : V} {x y : Rat} {p : Addr} {b : Int} (h : Pq K H v x y) (s : But p H H') (hp : Sr H p b) : Pq K H' v x y := by
  obtain ⟨xs, e⟩ := hp.at_
  exact h.but e s
theorem Rq.upB {K : PySem.W.Frag} {H H' : Hp} {v : V} {q : Rat} {n : Nat} {p : Addr} {b : Int} (h : Rq K H v q n) (s : But p H H') (hp : Sr H p b) : Rq K H' v q n := by
  obtain ⟨xs, e⟩ := hp.at_
  obtain ⟨a, t, b, rfl, h1, h2⟩ := h
  exact ⟨a, t, b, rfl, s.tup e h1, h2⟩
theorem same_but {H0 H H' : Hp} {p : Addr} (s : Same H0 H) (n : H0 p = none) (b : But p H H') : Same H0 H' := Same.but s n b
def spPlaceQ (K : PySem.W.Frag) : Sp := fun vs H Q _ => ∃ (p : Addr) (k b : Int), vs = [.ref p, .int k] ∧ Sr H p b ∧ b ≤ 60000 ∧ 1 ≤ k ∧ k ≤ 100 ∧
  ∀ (v : V) (x y : Rat) (H' : Hp), But p H H' → Sr H' p (b + 100) → Pq K H' v x y → Sz (nb k + 1) x → Sz (nb k + 1) y → Q v H'
theorem placeQ_of {K : PySem.W.Frag} {vs : List V} {H : Hp} {Q : VK} {E : XK} (h : spPlaceQ K vs H Q E) : spPlaceZ K vs H Q E := by
  obtain ⟨p, k, b, rfl, h1, h2, h3, h4, q⟩ := h
  refine ⟨p, k, b, rfl, h1, h2, h3, h4, fun a t u r s H' b' s' c => ?_⟩
  obtain ⟨x, y, hq, sx, sy⟩ := c.pq
  exact q _ _ _ _ b' s' hq sx sy
def spNearQ (K : PySem.W.Frag) : Sp := fun vs H Q _ => ∃ (p : Addr) (k b : Int) (w : V) (x y : Rat), vs = [.ref p, .int k, w] ∧ Sr H p b ∧ b ≤ 50000 ∧ 1 ≤ k ∧ k ≤ 100 ∧ Pq K H w x y ∧ Sz (nb k + 1) x ∧ Sz (nb k + 1) y ∧
  ∀ (v : V) (x y : Rat) (H' : Hp), But p H H' → Sr H' p (b + 200) → Pq K H' v x y → Sz (nb k + 1) x → Sz (nb k + 1) y → Q v H'
theorem nearQ_of {K : PySem.W.Frag} {vs : List V} {H : Hp} {Q : VK} {E : XK} (h : spNearQ K vs H Q E) : spNear K vs H Q E := by
  obtain ⟨p, k, b, w, x, y, rfl, h1, h2, h3, h4, hw, sx, sy, q⟩ := h
  obtain ⟨a, t, u, r, s, rfl, hc⟩ := hw.pc sx sy
  refine ⟨p, k, b, a, t, u, r, s, rfl, h1, h2, h3, h4, hc, fun a t u r s H' b' s' c => ?_⟩
  obtain ⟨x, y, hq, sx, sy⟩ := c.pq
  exact q _ _ _ _ b' s' hq sx sy
section
variable {H : Hp} {Q : VK} {E : XK} {K : PySem.W.Frag}
theorem r_stream {a : Addr} {ns : List Int} {i : Int} (hS : SqL K H a (ns.map V.int)) (hl : ns.length ≤ 63) (i0 : 0 ≤ i) (i1 : i ≤ 1000) (k : ∀ (p : Addr) (H' : Hp), Same H H' → H p = none → Sr H' p 0 → Q (.ref p) H') : spStream K ([.ref a, .int i] ++ []) H Q E :=
  ⟨a, ns, i, rfl, hS, hl, i0, i1, k⟩
theorem r_placeQ {p : Addr} {b k : Int} {m : Nat} (hp : Sr H p b) (l : b ≤ 60000) (k0 : 1 ≤ k) (k1 : k ≤ 100) (hm : nb k + 1 = m) (c : ∀ (v : V) (x y : Rat) (H' : Hp), But p H H' → Sr H' p (b + 100) → Pq K H' v x y → Sz m x → Sz m y → Q v H') : spPlaceQ K ([.ref p, .int k] ++ []) H Q E := by
  subst hm
  exact
  ⟨p, k, b, rfl, hp, l, k0, k1, c⟩
theorem r_nearQ {p : Addr} {b k : Int} {m : Nat} {w : V} {x y : Rat} (hp : Sr H p b) (l : b ≤ 50000) (k0 : 1 ≤ k) (k1 : k ≤ 100) (hm : nb k + 1 = m) (hw : Pq K H w x y) (sx : Sz m x) (sy : Sz m y) (c : ∀ (v : V) (x y : Rat) (H' : Hp), But p H H' → Sr H' p (b + 200) → Pq K H' v x y → Sz m x → Sz m y → Q v H') : spNearQ K ([.ref p, .int k, w] ++ []) H Q E := by
  subst hm
  exact ⟨p, k, b, w, x, y, rfl, hp, l, k0, k1, hw, sx, sy, c⟩
theorem r_isP {v : V} {x y : Rat} (h : Pq K H v x y) (k : Q (.bl true) H) : spIsP K ([v] ++ []) H Q E := ⟨v, x, y, rfl, h, k⟩
end
/-! ### more of the drawing, over rationals -/
def spFracQ (K : PySem.W.Frag) : Sp := fun vs H Q _ => ∃ (p : Addr) (k b : Int), vs = [.ref p, .int k] ∧ Sr H p b ∧ b ≤ 70000 ∧ 1 ≤ k ∧ k ≤ 100 ∧
  ∀ (v : V) (x : Rat) (H' : Hp), But p H H' → Sr H' p (b + 50) → Fq K H' v x → Sz (nb k + 1) x → Q v H'
theorem fracQ_of {K : PySem.W.Frag} {vs : List V} {H : Hp} {Q : VK} {E : XK} (h : spFracQ K vs H Q E) : spFractionZ vs H Q E := by
  obtain ⟨p, k, b, rfl, h1, h2, h3, h4, q⟩ := h
  refine ⟨p, k, b, rfl, h1, h2, h3, h4, fun a t u H' b' s' e c => ?_⟩
  obtain ⟨x, rfl, rfl, sx⟩ := c.rat
  exact q _ _ _ b' s' ⟨a, rfl, tupOf e⟩ sx
/-- two places and a fraction in, a place out -/
def spShare (K : PySem.W.Frag) : Sp := fun vs H Q _ => ∃ (v w u : V) (x y x' y' t : Rat) (n m k : Nat), vs = [v, w, u] ∧ Pq K H v x y ∧ Pq K H w x' y' ∧ Fq K H u t ∧ Sz n x ∧ Sz n y ∧ Sz m x' ∧ Sz m y' ∧ Sz k t ∧ n + m ≤ 3800 ∧ k ≤ 500 ∧
  ∀ (r : V) (H' : Hp), Same H H' → Pq K H' r (x + t * (x' - x)) (y + t * (y' - y)) → Q r H'
section
variable {H : Hp} {Q : VK} {E : XK} {K : PySem.W.Frag}
theorem r_fracQ {p : Addr} {b k : Int} {m : Nat} (hp : Sr H p b) (l : b ≤ 70000) (k0 : 1 ≤ k) (k1 : k ≤ 100) (hm : nb k + 1 = m) (c : ∀ (v : V) (x : Rat) (H' : Hp), But p H H' → Sr H' p (b + 50) → Fq K H' v x → Sz m x → Q v H') : spFracQ K ([.ref p, .int k] ++ []) H Q E := by
  subst hm
  exact ⟨p, k, b, rfl, hp, l, k0, k1, c⟩
theorem r_takeS {p : Addr} {b k : Int} (hp : Sr H p b) (l : b ≤ 100000) (k0 : 1 ≤ k) (k1 : k ≤ 1000000) (c : ∀ (r : Int) (H' : Hp), But p H H' → Sr H' p (b + 1) → 0 ≤ r → r < k → Q (.int r) H') : spTakeS ([.ref p, .int k] ++ []) H Q E :=
  ⟨p, k, b, rfl, hp, l, k0, (show Sm 64 k by unfold Sm; omega).mono (by decide), c⟩
theorem r_share {v w u : V} {x y x' y' t : Rat} {n n2 m m2 k : Nat} (h1 : Pq K H v x y) (h2 : Pq K H w x' y') (h3 : Fq K H u t) (s1 : Sz n x) (s2 : Sz n2 y) (s3 : Sz m x') (s4 : Sz m2 y') (s5 : Sz k t) (l : Nat.ble (max n n2 + max m m2) 3800 = true) (l2 : Nat.ble k 500 = true)
    (c : ∀ (r : V) (H' : Hp), Same H H' → Pq K H' r (x + t * (x' - x)) (y + t * (y' - y)) → Q r H') : spShare K ([v, w, u] ++ []) H Q E := by
  have := Nat.le_of_ble_eq_true l
  exact ⟨v, w, u, x, y, x', y', t, max n n2, max m m2, k, rfl, h1, h2, h3, s1.mono (by omega), s2.mono (by omega), s3.mono (by omega), s4.mono (by omega), s5, this, Nat.le_of_ble_eq_true l2, c⟩
end
theorem Pq.cast {K : PySem.W.Frag} {H : Hp} {v : V} {x y x' y' : Rat} (h : Pq K H v x y) (ex : x = x') (ey : y = y') : Pq K H v x' y' := by
  subst ex; subst ey; exact h
theorem Fq.cast {K : PySem.W.Frag} {H : Hp} {v : V} {x x' : Rat} (h : Fq K H v x) (ex : x = x') : Fq K H v x' := by
  subst ex; exact h
theorem r_noN {c : Prop} [Decidable c] {A B : Prop} (h : c) (k : B) : if (!decide c) = true then A else B := by
  rw [decide_eq_true h]; exact k
theorem r_yes {c : Prop} [Decidable c] {A B : Prop} (h : c) (k : A) : if decide c = true then A else B := by
  rw [decide_eq_true h]; exact k
theorem r_no {c : Prop} [Decidable c] {A B : Prop} (h : ¬ c) (k : B) : if decide c = true then A else B := by
  rw [decide_eq_false h]; exact k
def spShared (K : PySem.W.Frag) : Sp := fun vs H Q _ => ∃ (r v w u : V) (x0 y0 x y x' y' t : Rat), vs = [r, v, w, u] ∧ Pq K H r x0 y0 ∧ Pq K H v x y ∧ Pq K H w x' y' ∧ Rq K H u t 211 ∧ Sz 3000 x0 ∧ Sz 3000 y0 ∧ Sz 211 x ∧ Sz 211 y ∧ Sz 211 x' ∧ Sz 211 y' ∧ x0 = x + t * (x' - x) ∧ y0 = y + t * (y' - y) ∧
  ∀ (H' : Hp), Same H H' → Q (.bl true) H'
/-- two turns that change one name, the heap but grows -/
theorem r_loop2 {σ : St} {H : Hp} {D : Ends} {tb : TS} {j : Nat}
    (h0 : ∀ (y : Option V) (H' : Hp), Same H H' → ∀ N : St → Hp → Prop, (∀ y' H'', Same H H'' → N (σ.set j y') H'') → tb { D with nx := N, ct := N, bk := D.nx } (σ.set j (some (.int 0))) H')
    (h1 : ∀ (y : Option V) (H' : Hp), Same H H' → ∀ N : St → Hp → Prop, (∀ y' H'', Same H H'' → N (σ.set j y') H'') → tb { D with nx := N, ct := N, bk := D.nx } (σ.set j (some (.int 1))) H')
    (hd : ∀ (y : Option V) (H' : Hp), Same H H' → D.nx (σ.set j y) H') (hj : ∃ y, σ = σ.set j y) : tFor (iRng1 (tCons (tC (.int 2)) tNil)) (gName j) tb D σ H := by
  refine ⟨_, rfl, by decide, by decide, for_range (n := 2) (fun i σ' H' => ∃ y, σ' = σ.set j y ∧ Same H H') ?_ ?_ ?_⟩
  · obtain ⟨y, e⟩ := hj
    exact ⟨y, e, Same.refl _⟩
  · rintro i σ' H' hi ⟨y, rfl, g⟩
    have : i = 0 ∨ i = 1 := by omega
    rcases this with rfl | rfl
    · show tb _ ((σ.set j y).set j (some (.int 0))) H'
      rw [List.set_set]
      exact h0 y H' g _ fun y' H'' g' => ⟨y', rfl, g'⟩
    · show tb _ ((σ.set j y).set j (some (.int 1))) H'
      rw [List.set_set]
      exact h1 y H' g _ fun y' H'' g' => ⟨y', rfl, g'⟩
  · rintro σ' H' ⟨y, rfl, g⟩
    exact hd y H' g
theorem r_neP {H : Hp} {Q : VK} {K : PySem.W.Frag} {v w : V} {x y x' y' : Rat} (h1 : Pq K H v x y) (h2 : Pq K H w x' y') (e : x = x' ∧ y = y') (k : Q (.bl false) H) : rNeD K v w H Q := by
  obtain ⟨rfl, rfl⟩ := e
  refine ⟨_, _, h1.dp, h2.dp, rfl, rfl, ?_⟩
  rw [SeqAt.eqv_refl _ rfl]
  exact k
theorem r_shared {H : Hp} {Q : VK} {E : XK} {K : PySem.W.Frag} {r v w u : V} {x0 y0 x y x' y' t : Rat} {n n2 : Nat} (h0 : Pq K H r x0 y0) (h1 : Pq K H v x y) (h2 : Pq K H w x' y') (h3 : Rq K H u t 211) (s0 : Sz n x0) (s1 : Sz n2 y0) (l : Nat.ble (max n n2) 3000 = true) (s2 : Sz 211 x) (s3 : Sz 211 y) (s4 : Sz 211 x') (s5 : Sz 211 y') (e1 : x0 = x + t * (x' - x)) (e2 : y0 = y + t * (y' - y))
    (c : ∀ (H' : Hp), Same H H' → Q (.bl true) H') : spShared K ([r, v, w, u] ++ []) H Q E := by
  have := Nat.le_of_ble_eq_true l
  exact ⟨r, v, w, u, x0, y0, x, y, x', y', t, rfl, h0, h1, h2, h3, s0.mono (by omega), s1.mono (by omega), s2, s3, s4, s5, e1, e2, c⟩
theorem Rq.of2 {K : PySem.W.Frag} {H : Hp} {p : Addr} {t b : Int} {n m : Nat} (h : H p = some (.tup [.int t, .int b])) (nz : b ≠ 0) (s1 : Sm n t) (s2 : Sm m b) : Rq K H (.ref p) ((t : Rat) / (b : Rat)) (max n m) := ⟨p, t, b, rfl, tupOf h, nz, (Rat.divInt_eq_div t b).symm, s1.mono (by omega), s2.mono (by omega)⟩
theorem Fq.intI {K : PySem.W.Frag} {H : Hp} {a : Addr} {i : Int} (h : H a = some (.tup [.int i, .int 1])) : Fq K H (.ref a) (i : Rat) := ⟨a, rfl, tupOf h⟩
theorem Sz.int {i : Int} {n : Nat} (h : Sm n i) (l : 0 < n) : Sz n (i : Rat) := ⟨h, by
  show Sm n ((1 : Nat) : Int)
  unfold Sm
  exact Nat.one_lt_two_pow (by omega)⟩
end Mb
namespace Mb
open PySem L2
/-! ### lines -/
structure Ln (a b c : Int) : Prop where
  sg : 0 < a ∨ (a = 0 ∧ 0 < b)
  one : Int.gcd (Int.gcd a b) c = 1
theorem gcd3_mul (k a b c : Int) : Int.gcd (Int.gcd (k * a) (k * b)) (k * c) = k.natAbs * Int.gcd (Int.gcd a b) c := by
  rw [Int.gcd_mul_left]
  have e : ((k.natAbs * Int.gcd a b : Nat) : Int).natAbs = (k * (Int.gcd a b : Int)).natAbs := by
    rw [Int.natAbs_mul]; rfl
  have : Int.gcd ((k.natAbs * Int.gcd a b : Nat) : Int) (k * c) = Int.gcd (k * (Int.gcd a b : Int)) (k * c) := by
    show Nat.gcd (((k.natAbs * Int.gcd a b : Nat) : Int).natAbs) _ = Nat.gcd ((k * (Int.gcd a b : Int)).natAbs) _
    rw [e]
  rw [this, Int.gcd_mul_left]
theorem line_unique {a b c a' b' c' : Int} (h : Ln a b c) (h' : Ln a' b' c') (e1 : a * b' = b * a') (e2 : a * c' = c * a') (e3 : b * c' = c * b') : a = a' ∧ b = b' ∧ c = c' := by
  have k1 := gcd3_mul a' a b c
  have k2 := gcd3_mul a a' b' c'
  rw [h.one] at k1
  rw [h'.one] at k2
  have m1 := gcd3_mul b' a b c
  have m2 := gcd3_mul b a' b' c'
  rw [h.one] at m1
  rw [h'.one] at m2
  rw [show a' * a = a * a' from Int.mul_comm _ _, show a' * b = a * b' by rw [e1, Int.mul_comm], show a' * c = a * c' by rw [e2, Int.mul_comm], k2] at k1
  rw [show b' * a = b * a' by rw [← e1, Int.mul_comm], show b' * b = b * b' from Int.mul_comm _ _, show b' * c = b * c' by rw [e3, Int.mul_comm], m2] at m1
  have ea : a = a' := by
    have := h.sg
    have := h'.sg
    omega
  subst ea
  rcases h.sg with p | ⟨rfl, p⟩
  · refine ⟨rfl, ?_, ?_⟩
    · exact (Int.eq_of_mul_eq_mul_left (show a ≠ 0 by omega) (by rw [e1, Int.mul_comm])).symm
    · exact (Int.eq_of_mul_eq_mul_left (show a ≠ 0 by omega) (by rw [e2, Int.mul_comm])).symm
  · have p' : 0 < b' := by have := h'.sg; omega
    have eb : b = b' := by omega
    subst eb
    refine ⟨rfl, rfl, ?_⟩
    exact (Int.eq_of_mul_eq_mul_left (show b ≠ 0 by omega) (by rw [e3, Int.mul_comm])).symm
/-- a line has a place -/
def On (a b c : Int) (x y : Rat) : Prop := (a : Rat) * x + b * y = c
theorem cast_inj {i j : Int} (h : (i : Rat) = j) : i = j := by
  have := congrArg Rat.num h
  exact this
theorem line_two {a b c a' b' c' : Int} {x y x' y' : Rat} (h : Ln a b c) (h' : Ln a' b' c') (o1 : On a b c x y) (o2 : On a b c x' y') (o3 : On a' b' c' x y) (o4 : On a' b' c' x' y') (ne : ¬ (x = x' ∧ y = y')) : a = a' ∧ b = b' ∧ c = c' := by
  unfold On at o1 o2 o3 o4
  have e1 : (a : Rat) * b' = b * a' := by
    by_cases hx : x = x'
    · have hy : y ≠ y' := fun z => ne ⟨hx, z⟩
      have d1 : (b : Rat) * (y - y') = 0 := by grind
      have d2 : (b' : Rat) * (y - y') = 0 := by grind
      have f1 : (b : Rat) = 0 := by grind
      have f2 : (b' : Rat) = 0 := by grind
      rw [f1, f2]
      grind
    · have d1 : (a : Rat) * (x - x') + b * (y - y') = 0 := by grind
      have d2 : (a' : Rat) * (x - x') + b' * (y - y') = 0 := by grind
      have : ((a : Rat) * b' - b * a') * (x - x') = 0 := by grind
      grind
  have e2 : (a : Rat) * c' = c * a' := by grind
  have e3 : (b : Rat) * c' = c * b' := by grind
  refine line_unique h h' (cast_inj ?_) (cast_inj ?_) (cast_inj ?_)
  · rw [Rat.intCast_mul, Rat.intCast_mul]; exact e1
  · rw [Rat.intCast_mul, Rat.intCast_mul]; exact e2
  · rw [Rat.intCast_mul, Rat.intCast_mul]; exact e3
end Mb
namespace Mb
open PySem L2
/-- a line stands at v -/
def Lq (K : PySem.W.Frag) (H : Hp) (v : V) (a b c : Int) : Prop := ∃ p, v = .ref p ∧ SqT K H p [.int a, .int b, .int c]
theorem Lq.up {K : PySem.W.Frag} {H H' : Hp} {v : V} {a b c : Int} (h : Lq K H v a b c) (s : Same H H') : Lq K H' v a b c := by
  obtain ⟨p, rfl, t⟩ := h
  exact ⟨p, rfl, s.tp t⟩
theorem Lq.upB {K : PySem.W.Frag} {H H' : Hp} {v : V} {a b c : Int} {p : Addr} {n : Int} (h : Lq K H v a b c) (s : But p H H') (hp : Sr H p n) : Lq K H' v a b c := by
  obtain ⟨xs, e⟩ := hp.at_
  obtain ⟨q, rfl, t⟩ := h
  exact ⟨q, rfl, s.tup e t⟩
/-- the divisor with its sign -/
def formG (a b c : Int) : Int := if decide (a < 0 ∨ (a = 0 ∧ b < 0)) then -(Int.gcd (Int.gcd a b) c : Int) else (Int.gcd (Int.gcd a b) c : Int)
theorem gcd3_pos {a b c : Int} (h : ¬ (a = 0 ∧ b = 0)) : 0 < Int.gcd (Int.gcd a b) c := by
  have : 0 < Int.gcd a b := by
    by_cases ha : a = 0
    · exact Int.gcd_pos_of_ne_zero_right a (fun z => h ⟨ha, z⟩)
    · exact Int.gcd_pos_of_ne_zero_left b ha
  exact Int.gcd_pos_of_ne_zero_left c (by omega)
theorem form_dvd (a b c : Int) : formG a b c ∣ a ∧ formG a b c ∣ b ∧ formG a b c ∣ c := by
  have d1 : ((Int.gcd (Int.gcd a b) c : Nat) : Int) ∣ (Int.gcd a b : Int) := Int.gcd_dvd_left _ _
  have d2 : ((Int.gcd (Int.gcd a b) c : Nat) : Int) ∣ c := Int.gcd_dvd_right _ _
  have d3 := Int.dvd_trans d1 (Int.gcd_dvd_left a b)
  have d4 := Int.dvd_trans d1 (Int.gcd_dvd_right a b)
  unfold formG
  split
  · exact ⟨Int.neg_dvd.mpr d3, Int.neg_dvd.mpr d4, Int.neg_dvd.mpr d2⟩
  · exact ⟨d3, d4, d2⟩
theorem form_ne {a b c : Int} (h : ¬ (a = 0 ∧ b = 0)) : formG a b c ≠ 0 := by
  have := gcd3_pos (c := c) h
  unfold formG
  split <;> omega
theorem form_ln {a b c A B C : Int} (h : ¬ (a = 0 ∧ b = 0)) (e1 : a = formG a b c * A) (e2 : b = formG a b c * B) (e3 : c = formG a b c * C) : Ln A B C := by
  have p := gcd3_pos (c := c) h
  have na : (formG a b c).natAbs = Int.gcd (Int.gcd a b) c := by
    unfold formG
    split <;> omega
  have k := gcd3_mul (formG a b c) A B C
  rw [← e1, ← e2, ← e3, na] at k
  refine ⟨?_, ?_⟩
  · by_cases c1 : a < 0 ∨ (a = 0 ∧ b < 0)
    · have g : formG a b c < 0 := by
        unfold formG
        rw [decide_eq_true c1]
        simp only [if_true]
        omega
      rcases c1 with c1 | ⟨rfl, c1⟩
      · left
        rw [e1] at c1
        exact Int.pos_of_mul_neg_right c1 g
      · right
        refine ⟨?_, ?_⟩
        · rcases Int.mul_eq_zero.mp e1.symm with z | z
          · omega
          · exact z
        · rw [e2] at c1
          exact Int.pos_of_mul_neg_right c1 g
    · have g : 0 < formG a b c := by
        unfold formG
        rw [decide_eq_false c1]
        simp only [Bool.false_eq_true, if_false]
        omega
      by_cases z : a = 0
      · right
        subst z
        refine ⟨?_, ?_⟩
        · rcases Int.mul_eq_zero.mp e1.symm with z | z
          · omega
          · exact z
        · have hb : 0 < b := by omega
          rw [e2] at hb
          exact Int.pos_of_mul_pos_right hb g
      · left
        have ha : 0 < a := by omega
        rw [e1] at ha
        exact Int.pos_of_mul_pos_right ha g
  · have : 0 < Int.gcd (Int.gcd a b) c := p
    exact (Nat.eq_of_mul_eq_mul_left this (by omega : _ * 1 = _ * _)).symm
def spOneForm (K : PySem.W.Frag) : Sp := fun vs H Q _ => ∃ (a b c : Int) (n : Nat), vs = [.int a, .int b, .int c] ∧ ¬ (a = 0 ∧ b = 0) ∧ Sm n a ∧ Sm n b ∧ Sm n c ∧ n ≤ 8000 ∧
  ∀ (v : V) (H' : Hp) (A B C g : Int), Same H H' → Lq K H' v A B C → Ln A B C → g ≠ 0 → a = g * A → b = g * B → c = g * C → Sm n A → Sm n B → Sm n C → Q v H'
theorem fdiv_dvd {a g : Int} (h : g ≠ 0) (d : g ∣ a) : a = g * a.fdiv g := by
  rw [Int.fdiv_eq_ediv_of_dvd d, Int.mul_ediv_cancel' d]
theorem sm_quot {n : Nat} {a g A : Int} (h : g ≠ 0) (e : a = g * A) (s : Sm n a) : Sm n A := by
  refine s.le ?_
  rw [e, Int.natAbs_mul]
  have : 1 ≤ g.natAbs := by omega
  exact Nat.le_mul_of_pos_left _ this
theorem form_sm {a b c : Int} {n : Nat} (h : ¬ (a = 0 ∧ b = 0)) (sa : Sm n a) (sb : Sm n b) : Sm n (formG a b c) := by
  obtain ⟨d1, d2, _⟩ := form_dvd a b c
  by_cases z : a = 0
  · have nb : b ≠ 0 := fun y => h ⟨z, y⟩
    refine sb.le ?_
    exact Nat.le_of_dvd (by omega) (Int.natAbs_dvd_natAbs.mpr d2)
  · refine sa.le ?_
    exact Nat.le_of_dvd (by omega) (Int.natAbs_dvd_natAbs.mpr d1)
theorem den_ne' (x : Rat) : ((x.den : Int) : Rat) ≠ 0 := by
  intro z
  have := congrArg Rat.num z
  exact x.den_nz (Int.ofNat_inj.mp this)
theorem hden (x : Rat) : x * (x.den : Int) = ((x.num : Int) : Rat) := by
  have e := Rat.num_divInt_den x
  rw [Rat.divInt_eq_div] at e
  have d := den_ne' x
  grind
theorem on_iff (a b c : Int) (x y : Rat) : a * x.num * y.den + b * y.num * x.den = c * x.den * y.den ↔ (a : Rat) * x + b * y = c := by
  have h1 := hden x
  have h2 := hden y
  have d1 := den_ne' x
  have d2 := den_ne' y
  constructor
  · intro h
    have h' := congrArg (Int.cast (R := Rat)) h
    simp only [Rat.intCast_add, Rat.intCast_mul] at h'
    grind
  · intro h
    have : ((a * x.num * y.den + b * y.num * x.den : Int) : Rat) = ((c * x.den * y.den : Int) : Rat) := by
      simp only [Rat.intCast_add, Rat.intCast_mul]
      grind
    exact congrArg Rat.num this
def spOn (K : PySem.W.Frag) : Sp := fun vs H Q _ => ∃ (v w : V) (a b c : Int) (x y : Rat), vs = [v, w] ∧ Lq K H v a b c ∧ Pq K H w x y ∧ Sm 20000 a ∧ Sm 20000 b ∧ Sm 20000 c ∧ Sz 20000 x ∧ Sz 20000 y ∧ Q (.bl (decide ((a : Rat) * x + b * y = c))) H
def spIsLn (K : PySem.W.Frag) : Sp := fun vs H Q _ => ∃ (v : V) (a b c : Int), vs = [v] ∧ Lq K H v a b c ∧ Ln a b c ∧ Q (.bl true) H
def spLineQ (K : PySem.W.Frag) : Sp := fun vs H Q _ => ∃ (p : Addr) (k n : Int), vs = [.ref p, .int k] ∧ Sr H p n ∧ n ≤ 60000 ∧ 1 ≤ k ∧ k ≤ 100 ∧
  ∀ (v : V) (a b c : Int) (H' : Hp), But p H H' → Sr H' p (n + 100) → Lq K H' v a b c → Ln a b c → Sm (nb k) a → Sm (nb k) b → Sm (nb k) c → Q v H'
def spLowQ (K : PySem.W.Frag) : Sp := fun vs H Q _ => ∃ (v : V) (q : Rat) (n : Nat), vs = [v] ∧ Rq K H v q n ∧ n ≤ 8900 ∧ ∀ (r : V) (H' : Hp), Same H H' → Fq K H' r q → Q r H'
theorem lowQ_of {K : PySem.W.Frag} {vs : List V} {H : Hp} {Q : VK} {E : XK} (h : spLowQ K vs H Q E) : spLowest K vs H Q E := by
  obtain ⟨_, q, n, rfl, ⟨a, t, b, rfl, h1, h2, h3, s1, s2⟩, l, k⟩ := h
  exact ⟨a, t, b, rfl, h1, h2, s2.mono l, fun p H' g _ e => k _ _ g (Fq.of q h2 h3 e)⟩
theorem r_lowQ {K : PySem.W.Frag} {H : Hp} {Q : VK} {E : XK} {v : V} {q : Rat} {n : Nat} (h : Rq K H v q n) (l : Nat.ble n 8900 = true) (k : ∀ (r : V) (H' : Hp), Same H H' → Fq K H' r q → Q r H') : spLowQ K ([v] ++ []) H Q E :=
  ⟨v, q, n, rfl, h, Nat.le_of_ble_eq_true l, k⟩
/-- the law's own share -/
def spWay (K : PySem.W.Frag) : Sp := fun vs H Q _ => ∃ (v w u : V) (x y x' y' t : Rat), vs = [v, w, u] ∧ Pq K H v x y ∧ Pq K H w x' y' ∧ Fq K H u t ∧ Sz 500 x ∧ Sz 500 y ∧ Sz 500 x' ∧ Sz 500 y' ∧ Sz 500 t ∧
  ∀ (r : V) (H' : Hp), Same H H' → Pq K H' r (x + t * (x' - x)) (y + t * (y' - y)) → Q r H'
theorem r_way {K : PySem.W.Frag} {H : Hp} {Q : VK} {E : XK} {v w u : V} {x y x' y' t : Rat} {n1 n2 n3 n4 n5 : Nat} (h1 : Pq K H v x y) (h2 : Pq K H w x' y') (h3 : Fq K H u t) (s1 : Sz n1 x) (s2 : Sz n2 y) (s3 : Sz n3 x') (s4 : Sz n4 y') (s5 : Sz n5 t) (l : Nat.ble (max (max n1 n2) (max (max n3 n4) n5)) 500 = true)
    (c : ∀ (r : V) (H' : Hp), Same H H' → Pq K H' r (x + t * (x' - x)) (y + t * (y' - y)) → Q r H') : spWay K ([v, w, u] ++ []) H Q E := by
  have := Nat.le_of_ble_eq_true l
  exact ⟨v, w, u, x, y, x', y', t, rfl, h1, h2, h3, s1.mono (by omega), s2.mono (by omega), s3.mono (by omega), s4.mono (by omega), s5.mono (by omega), c⟩
theorem r_lineQ {K : PySem.W.Frag} {H : Hp} {Q : VK} {E : XK} {p : Addr} {n k : Int} {m : Nat} (hp : Sr H p n) (l : n ≤ 60000) (k0 : 1 ≤ k) (k1 : k ≤ 100) (hm : nb k = m)
    (c : ∀ (v : V) (a b c : Int) (H' : Hp), But p H H' → Sr H' p (n + 100) → Lq K H' v a b c → Ln a b c → Sm m a → Sm m b → Sm m c → Q v H') : spLineQ K ([.ref p, .int k] ++ []) H Q E := by
  subst hm
  exact ⟨p, k, n, rfl, hp, l, k0, k1, c⟩
theorem eqv_dq (p q : Rat) : PyData.eqv (dq p) (dq q) = decide (p = q) := by
  by_cases h : p = q
  · subst h
    rw [decide_eq_true rfl]
    exact SeqAt.eqv_refl _ rfl
  · rw [decide_eq_false h]
    have : ¬ (p.num = q.num ∧ p.den = q.den) := fun z => h (Rat.ext z.1 z.2)
    simp [dq, PyData.eqv, PyData.eqvAll]
    intro z
    intro y
    exact this ⟨z, by omega⟩
theorem eqv_dpl (x y x' y' : Rat) : PyData.eqv (dpl x y) (dpl x' y') = decide (x = x' ∧ y = y') := by
  have e : PyData.eqv (dpl x y) (dpl x' y') = (PyData.eqv (dq x) (dq x') && PyData.eqv (dq y) (dq y')) := by
    simp [dpl, PyData.eqv, PyData.eqvAll]
  rw [e, eqv_dq, eqv_dq, Bool.decide_and]
theorem r_eqPd {H : Hp} {Q : VK} {K : PySem.W.Frag} {v w : V} {x y x' y' : Rat} (h1 : Pq K H v x y) (h2 : Pq K H w x' y') (k : Q (.bl (decide (x = x' ∧ y = y'))) H) : rEqD K v w H Q := by
  refine ⟨_, _, h1.dp, h2.dp, rfl, rfl, ?_⟩
  rw [eqv_dpl]
  exact k
theorem r_nePd {H : Hp} {Q : VK} {K : PySem.W.Frag} {v w : V} {x y x' y' : Rat} (h1 : Pq K H v x y) (h2 : Pq K H w x' y') (k : Q (.bl (!decide (x = x' ∧ y = y'))) H) : rNeD K v w H Q := by
  refine ⟨_, _, h1.dp, h2.dp, rfl, rfl, ?_⟩
  rw [eqv_dpl]
  exact k
/-- the line through two places, or none -/
def spThrough (K : PySem.W.Frag) : Sp := fun vs H Q _ => ∃ (v w : V) (x y x' y' : Rat), vs = [v, w] ∧ Pq K H v x y ∧ Pq K H w x' y' ∧ Sz 1000 x ∧ Sz 1000 y ∧ Sz 1000 x' ∧ Sz 1000 y' ∧
  (x = x' ∧ y = y' → ∀ H', Same H H' → Q .non H') ∧
  (¬ (x = x' ∧ y = y') → ∀ (r : V) (H' : Hp) (a b c : Int), Same H H' → Lq K H' r a b c → Ln a b c → (a : Rat) * x + b * y = c → (a : Rat) * x' + b * y' = c → Sm 8000 a → Sm 8000 b → Sm 8000 c → Q r H')
end Mb
namespace Mb
open PySem L2
/-! ### whole numbers under rationals -/
theorem ratz {b : Int} (h : b ≠ 0) : (b : Rat) ≠ 0 := fun z => h (cast_inj (by rw [z]; rfl))
theorem divInt_of {t b : Int} {q : Rat} (hb : b ≠ 0) (e : (t : Rat) = q * (b : Rat)) : q = Rat.divInt t b := by
  have nb := ratz hb
  rw [Rat.divInt_eq_div]
  grind
def spFrQ (K : PySem.W.Frag) : Sp := fun vs H Q _ => ∃ (t b : Int) (q : Rat), vs = [.int t, .int b] ∧ b ≠ 0 ∧ Sm 8000 b ∧ (t : Rat) = q * (b : Rat) ∧ ∀ (r : V) (H' : Hp), Same H H' → Fq K H' r q → Q r H'
theorem frQ_of {K : PySem.W.Frag} {vs : List V} {H : Hp} {Q : VK} {E : XK} (h : spFrQ K vs H Q E) : spLow vs H Q E := by
  obtain ⟨t, b, q, rfl, hb, sb, e, k⟩ := h
  exact ⟨t, b, rfl, hb, sb, fun p H' g _ ho => k _ _ g (Fq.of q hb (divInt_of hb e) ho)⟩
section
variable {K : PySem.W.Frag} {σ : St} {H : Hp} {Q : St → Hp → Prop}
theorem r_gnil (q : Q σ H) : gNil [] σ H Q := ⟨rfl, q⟩
theorem r_gcons {t : TG} {u : TGs} {v : V} {r : List V} (q : t v σ H fun σ' H' => u r σ' H' Q) : gCons t u (v :: r) σ H Q := ⟨v, r, rfl, q⟩
theorem r_gL {t : TGs} {v : V} {a b c : Int} {n : Nat} (h : Lq K H v a b c) (l : 3 = n) (q : t [.int a, .int b, .int c] σ H Q) : gTup K n t v σ H Q := by
  obtain ⟨p, rfl, h⟩ := h
  exact ⟨p, _, rfl, h, l, q⟩
theorem r_gF {t : TGs} {v : V} {x : Rat} {n : Nat} (h : Fq K H v x) (l : 2 = n) (q : t [.int x.num, .int x.den] σ H Q) : gTup K n t v σ H Q := by
  obtain ⟨p, rfl, h⟩ := h
  exact ⟨p, _, rfl, h, l, q⟩
theorem r_gP {t : TGs} {v : V} {x y : Rat} {n : Nat} (h : Pq K H v x y) (l : 2 = n) (q : ∀ f g, Fq K H f x → Fq K H g y → t [f, g] σ H Q) : gTup K n t v σ H Q := by
  obtain ⟨p, f, g, rfl, h, h1, h2⟩ := h
  exact ⟨p, _, rfl, h, l, q f g h1 h2⟩
end
section
variable {K : PySem.W.Frag} {H : Hp} {Q : VK} {E : XK}
theorem r_ixL0 {v : V} {a b c : Int} (h : Lq K H v a b c) (k : Q (.int a) H) : rIxT K v (.int 0) H Q := by
  obtain ⟨p, rfl, t⟩ := h
  exact ⟨p, _, 0, _, rfl, rfl, t, rfl, k⟩
theorem r_ixL1 {v : V} {a b c : Int} (h : Lq K H v a b c) (k : Q (.int b) H) : rIxT K v (.int 1) H Q := by
  obtain ⟨p, rfl, t⟩ := h
  exact ⟨p, _, 1, _, rfl, rfl, t, rfl, k⟩
theorem r_ixL2 {v : V} {a b c : Int} (h : Lq K H v a b c) (k : Q (.int c) H) : rIxT K v (.int 2) H Q := by
  obtain ⟨p, rfl, t⟩ := h
  exact ⟨p, _, 2, _, rfl, rfl, t, rfl, k⟩
end
theorem Lq.mk {K : PySem.W.Frag} {H : Hp} {p : Addr} {a b c : Int} (h : H p = some (.tup [.int a, .int b, .int c])) : Lq K H (.ref p) a b c := ⟨p, rfl, tupOf h⟩
def dl (a b c : Int) : PyData := .tuple [.int a, .int b, .int c]
theorem Lq.dp {K : PySem.W.Frag} {H : Hp} {v : V} {a b c : Int} (h : Lq K H v a b c) : Dp K H v (dl a b c) := by
  obtain ⟨p, rfl, t⟩ := h
  exact .tup t (.cons (.int _) (.cons (.int _) (.cons (.int _) .nil)))
def rIsNo : R2 := fun x y H Q => y = .non ∧ Q (.bl (decide (x = .non))) H
def rNotNo : R2 := fun x y H Q => y = .non ∧ Q (.bl (!decide (x = .non))) H
theorem op_isNo {X : Cx} : OpR X (compareOp .Is) rIsNo := op_isN
theorem op_notNo {X : Cx} : OpR X (compareOp .IsNot) rNotNo := op_notN
section
variable {K : PySem.W.Frag} {H : Hp} {Q : VK}
theorem r_eqL {v w : V} {a b c a' b' c' : Int} (h1 : Lq K H v a b c) (h2 : Lq K H w a' b' c') (e : a = a' ∧ b = b' ∧ c = c') (k : Q (.bl true) H) : rEqD K v w H Q := by
  obtain ⟨rfl, rfl, rfl⟩ := e
  exact r_eqTrue h1.dp h2.dp rfl rfl k
theorem r_neL {v w : V} {a b c a' b' c' : Int} (h1 : Lq K H v a b c) (h2 : Lq K H w a' b' c') (e : a = a' ∧ b = b' ∧ c = c') (k : Q (.bl false) H) : rNeD K v w H Q := by
  obtain ⟨rfl, rfl, rfl⟩ := e
  refine ⟨_, _, h1.dp, h2.dp, rfl, rfl, ?_⟩
  rw [SeqAt.eqv_refl _ rfl]
  exact k
theorem r_eqN (k : Q (.bl true) H) : rEqD K .non .non H Q := ⟨_, _, .non, .non, rfl, rfl, k⟩
theorem r_neN (k : Q (.bl false) H) : rNeD K .non .non H Q := ⟨_, _, .non, .non, rfl, rfl, k⟩
theorem r_isNN (k : Q (.bl true) H) : rIsNo .non .non H Q := ⟨rfl, k⟩
theorem r_isNR {a : Addr} (k : Q (.bl false) H) : rIsNo (.ref a) .non H Q := ⟨rfl, k⟩
theorem r_notNN (k : Q (.bl false) H) : rNotNo .non .non H Q := ⟨rfl, k⟩
theorem r_notNR {a : Addr} (k : Q (.bl true) H) : rNotNo (.ref a) .non H Q := ⟨rfl, k⟩
end
/-! ### promises of the program's places and lines -/
def spBetween (K : PySem.W.Frag) : Sp := fun vs H Q _ => ∃ (v w u : V) (x x' t : Rat) (n m k : Nat), vs = [v, w, u] ∧ Fq K H v x ∧ Fq K H w x' ∧ Fq K H u t ∧ Sz n x ∧ Sz m x' ∧ Sz k t ∧ n + m ≤ 3800 ∧ k ≤ 500 ∧
  ∀ (r : V) (H' : Hp), Same H H' → Fq K H' r (x + t * (x' - x)) → Q r H'
theorem r_between {K : PySem.W.Frag} {H : Hp} {Q : VK} {E : XK} {v w u : V} {x x' t : Rat} {n m k : Nat} (h1 : Fq K H v x) (h2 : Fq K H w x') (h3 : Fq K H u t) (s1 : Sz n x) (s2 : Sz m x') (s3 : Sz k t) (l1 : n + m ≤ 3800) (l2 : k ≤ 500) (c : ∀ (r : V) (H' : Hp), Same H H' → Fq K H' r (x + t * (x' - x)) → Q r H') : spBetween K ([v, w, u] ++ []) H Q E :=
  ⟨v, w, u, x, x', t, n, m, k, rfl, h1, h2, h3, s1, s2, s3, l1, l2, c⟩
/-- whole numbers over one bottom -/
def spCleared (K : PySem.W.Frag) : Sp := fun vs H Q _ => ∃ (v : V) (x y : Rat) (n m : Nat), vs = [v] ∧ Pq K H v x y ∧ Sz n x ∧ Sz m y ∧ n + m ≤ 7600 ∧
  ∀ (r : V) (H' : Hp) (X Y W : Int), Same H H' → Lq K H' r X Y W → 0 < W → (X : Rat) = x * W → (Y : Rat) = y * W → Sm (n + m) X → Sm (n + m) Y → Sm (n + m) W → Q r H'
theorem r_cleared {K : PySem.W.Frag} {H : Hp} {Q : VK} {E : XK} {v : V} {x y : Rat} {n m : Nat} (h : Pq K H v x y) (s1 : Sz n x) (s2 : Sz m y) (l : Nat.ble (n + m) 7600 = true)
    (c : ∀ (r : V) (H' : Hp) (X Y W : Int), Same H H' → Lq K H' r X Y W → 0 < W → (X : Rat) = x * W → (Y : Rat) = y * W → Sm (n + m) X → Sm (n + m) Y → Sm (n + m) W → Q r H') : spCleared K ([v] ++ []) H Q E :=
  ⟨v, x, y, n, m, rfl, h, s1, s2, Nat.le_of_ble_eq_true l, c⟩
def spWayI (K : PySem.W.Frag) : Sp := fun vs H Q _ => ∃ (v w : V) (x y x' y' : Rat) (n m : Nat), vs = [v, w] ∧ Pq K H v x y ∧ Pq K H w x' y' ∧ Sz n x ∧ Sz n y ∧ Sz m x' ∧ Sz m y' ∧ n ≤ 3800 ∧ m ≤ 3800 ∧
  ∀ (r : V) (H' : Hp) (X Y W : Int), Same H H' → Lq K H' r X Y W → 0 < W → (X : Rat) = (x' - x) * W → (Y : Rat) = (y' - y) * W → Sm (n + n + (m + m) + 1) X → Sm (n + n + (m + m) + 1) Y → Sm (n + n + (m + m)) W → Q r H'
theorem r_wayI {K : PySem.W.Frag} {H : Hp} {Q : VK} {E : XK} {v w : V} {x y x' y' : Rat} {n n2 m m2 : Nat} (h1 : Pq K H v x y) (h2 : Pq K H w x' y') (s1 : Sz n x) (s2 : Sz n2 y) (s3 : Sz m x') (s4 : Sz m2 y') (l1 : Nat.ble (max n n2) 3800 = true) (l2 : Nat.ble (max m m2) 3800 = true)
    (c : ∀ (r : V) (H' : Hp) (X Y W : Int), Same H H' → Lq K H' r X Y W → 0 < W → (X : Rat) = (x' - x) * W → (Y : Rat) = (y' - y) * W → Sm (max n n2 + max n n2 + (max m m2 + max m m2) + 1) X → Sm (max n n2 + max n n2 + (max m m2 + max m m2) + 1) Y → Sm (max n n2 + max n n2 + (max m m2 + max m m2)) W → Q r H') : spWayI K ([v, w] ++ []) H Q E :=
  ⟨v, w, x, y, x', y', max n n2, max m m2, rfl, h1, h2, s1.mono (by omega), s2.mono (by omega), s3.mono (by omega), s4.mono (by omega), Nat.le_of_ble_eq_true l1, Nat.le_of_ble_eq_true l2, c⟩
/-- the line through two places, or none -/
def spThru (K : PySem.W.Frag) : Sp := fun vs H Q _ => ∃ (v w : V) (x y x' y' : Rat) (n m : Nat), vs = [v, w] ∧ Pq K H v x y ∧ Pq K H w x' y' ∧ Sz n x ∧ Sz n y ∧ Sz m x' ∧ Sz m y' ∧ n + m ≤ 3800 ∧
  (x = x' ∧ y = y' → Q .non H) ∧
  (¬ (x = x' ∧ y = y') → ∀ (r : V) (H' : Hp) (a b c : Int), Same H H' → Lq K H' r a b c → Ln a b c → (a : Rat) * x + b * y = c → (a : Rat) * x' + b * y' = c → Sm (n + n + (m + m) + 1) a → Sm (n + n + (m + m) + 1) b → Sm (n + n + (m + m) + 1) c → Q r H')
theorem r_thru0 {K : PySem.W.Frag} {H : Hp} {Q : VK} {E : XK} {v w : V} {x y x' y' : Rat} {n n2 m m2 : Nat} (h1 : Pq K H v x y) (h2 : Pq K H w x' y') (s1 : Sz n x) (s2 : Sz n2 y) (s3 : Sz m x') (s4 : Sz m2 y') (l : Nat.ble (max n n2 + max m m2) 3800 = true) (e : x = x' ∧ y = y')
    (c : Q .non H) : spThru K ([v, w] ++ []) H Q E :=
  ⟨v, w, x, y, x', y', max n n2, max m m2, rfl, h1, h2, s1.mono (by omega), s2.mono (by omega), s3.mono (by omega), s4.mono (by omega), Nat.le_of_ble_eq_true l, fun _ => c, fun z => absurd e z⟩
theorem r_thru1 {K : PySem.W.Frag} {H : Hp} {Q : VK} {E : XK} {v w : V} {x y x' y' : Rat} {n n2 m m2 : Nat} (h1 : Pq K H v x y) (h2 : Pq K H w x' y') (s1 : Sz n x) (s2 : Sz n2 y) (s3 : Sz m x') (s4 : Sz m2 y') (l : Nat.ble (max n n2 + max m m2) 3800 = true) (e : ¬ (x = x' ∧ y = y'))
    (c : ∀ (r : V) (H' : Hp) (a b c : Int), Same H H' → Lq K H' r a b c → Ln a b c → (a : Rat) * x + b * y = c → (a : Rat) * x' + b * y' = c → Sm (max n n2 + max n n2 + (max m m2 + max m m2) + 1) a → Sm (max n n2 + max n n2 + (max m m2 + max m m2) + 1) b → Sm (max n n2 + max n n2 + (max m m2 + max m m2) + 1) c → Q r H') : spThru K ([v, w] ++ []) H Q E :=
  ⟨v, w, x, y, x', y', max n n2, max m m2, rfl, h1, h2, s1.mono (by omega), s2.mono (by omega), s3.mono (by omega), s4.mono (by omega), Nat.le_of_ble_eq_true l, fun z => absurd z e, fun _ => c⟩
/-- a line through a place, its way given -/
def spLineAt (K : PySem.W.Frag) : Sp := fun vs H Q _ => ∃ (v : V) (x y : Rat) (a b : Int) (n k : Nat), vs = [v, .int a, .int b] ∧ Pq K H v x y ∧ ¬ (a = 0 ∧ b = 0) ∧ Sz n x ∧ Sz n y ∧ Sm k a ∧ Sm k b ∧ n + k ≤ 2600 ∧
  ∀ (r : V) (H' : Hp) (A B C : Int), Same H H' → Lq K H' r A B C → Ln A B C → (A : Rat) * x + B * y = C → (A : Rat) * b = B * a → Sm (k + (n + n) + 1) A → Sm (k + (n + n) + 1) B → Sm (k + (n + n) + 1) C → Q r H'
def spAlong (K : PySem.W.Frag) (R : Int → Int → Int → Int → Prop) : Sp := fun vs H Q _ => ∃ (v w : V) (x y : Rat) (a b c : Int) (n k : Nat), vs = [v, w] ∧ Pq K H v x y ∧ Lq K H w a b c ∧ ¬ (a = 0 ∧ b = 0) ∧ Sz n x ∧ Sz n y ∧ Sm k a ∧ Sm k b ∧ n + k ≤ 2600 ∧
  ∀ (r : V) (H' : Hp) (A B C : Int), Same H H' → Lq K H' r A B C → Ln A B C → (A : Rat) * x + B * y = C → R A B a b → Sm (k + (n + n) + 1) A → Sm (k + (n + n) + 1) B → Sm (k + (n + n) + 1) C → Q r H'
def RAl (A B a b : Int) : Prop := (A : Rat) * b = B * a
def RUp (A B a b : Int) : Prop := (A : Rat) * a + B * b = 0
theorem Ln.nz {a b c : Int} (h : Ln a b c) : ¬ (a = 0 ∧ b = 0) := by
  have := h.sg
  omega
theorem r_along {K : PySem.W.Frag} {R : Int → Int → Int → Int → Prop} {H : Hp} {Q : VK} {E : XK} {v w : V} {x y : Rat} {a b c : Int} {n n2 k k2 : Nat} (h1 : Pq K H v x y) (h2 : Lq K H w a b c) (hl : Ln a b c) (s1 : Sz n x) (s2 : Sz n2 y) (s3 : Sm k a) (s4 : Sm k2 b) (l : Nat.ble (max n n2 + max k k2) 2600 = true)
    (c : ∀ (r : V) (H' : Hp) (A B C : Int), Same H H' → Lq K H' r A B C → Ln A B C → (A : Rat) * x + B * y = C → R A B a b → Sm (max k k2 + (max n n2 + max n n2) + 1) A → Sm (max k k2 + (max n n2 + max n n2) + 1) B → Sm (max k k2 + (max n n2 + max n n2) + 1) C → Q r H') : spAlong K R ([v, w] ++ []) H Q E :=
  ⟨v, w, x, y, a, b, _, max n n2, max k k2, rfl, h1, h2, hl.nz, s1.mono (by omega), s2.mono (by omega), s3.mono (by omega), s4.mono (by omega), Nat.le_of_ble_eq_true l, c⟩
/-- where two lines meet -/
def spMeet (K : PySem.W.Frag) : Sp := fun vs H Q _ => ∃ (v w : V) (a b c a' b' c' : Int) (n m : Nat), vs = [v, w] ∧ Lq K H v a b c ∧ Lq K H w a' b' c' ∧ Sm n a ∧ Sm n b ∧ Sm n c ∧ Sm m a' ∧ Sm m b' ∧ Sm m c' ∧ n + m ≤ 7600 ∧
  (a * b' = b * a' → Q .non H) ∧
  (a * b' ≠ b * a' → ∀ (r : V) (H' : Hp) (x y : Rat), Same H H' → Pq K H' r x y → (a : Rat) * x + b * y = c → (a' : Rat) * x + b' * y = c' → Sz (n + m + 1) x → Sz (n + m + 1) y → Q r H')
theorem r_meet0 {K : PySem.W.Frag} {H : Hp} {Q : VK} {E : XK} {v w : V} {a b c a' b' c' : Int} {n n2 n3 m m2 m3 : Nat} (h1 : Lq K H v a b c) (h2 : Lq K H w a' b' c') (s1 : Sm n a) (s2 : Sm n2 b) (s3 : Sm n3 c) (s4 : Sm m a') (s5 : Sm m2 b') (s6 : Sm m3 c') (l : Nat.ble (max n (max n2 n3) + max m (max m2 m3)) 7600 = true) (e : a * b' = b * a') (k : Q .non H) : spMeet K ([v, w] ++ []) H Q E :=
  ⟨v, w, a, b, c, a', b', c', max n (max n2 n3), max m (max m2 m3), rfl, h1, h2, s1.mono (by omega), s2.mono (by omega), s3.mono (by omega), s4.mono (by omega), s5.mono (by omega), s6.mono (by omega), Nat.le_of_ble_eq_true l, fun _ => k, fun z => absurd e z⟩
theorem r_meet1 {K : PySem.W.Frag} {H : Hp} {Q : VK} {E : XK} {v w : V} {a b c a' b' c' : Int} {n n2 n3 m m2 m3 : Nat} (h1 : Lq K H v a b c) (h2 : Lq K H w a' b' c') (s1 : Sm n a) (s2 : Sm n2 b) (s3 : Sm n3 c) (s4 : Sm m a') (s5 : Sm m2 b') (s6 : Sm m3 c') (l : Nat.ble (max n (max n2 n3) + max m (max m2 m3)) 7600 = true) (e : a * b' ≠ b * a')
    (k : ∀ (r : V) (H' : Hp) (x y : Rat), Same H H' → Pq K H' r x y → (a : Rat) * x + b * y = c → (a' : Rat) * x + b' * y = c' → Sz (max n (max n2 n3) + max m (max m2 m3) + 1) x → Sz (max n (max n2 n3) + max m (max m2 m3) + 1) y → Q r H') : spMeet K ([v, w] ++ []) H Q E :=
  ⟨v, w, a, b, c, a', b', c', max n (max n2 n3), max m (max m2 m3), rfl, h1, h2, s1.mono (by omega), s2.mono (by omega), s3.mono (by omega), s4.mono (by omega), s5.mono (by omega), s6.mono (by omega), Nat.le_of_ble_eq_true l, fun z => absurd z e, fun _ => k⟩
theorem cross_rat {a b a' b' : Int} (h : a * b' ≠ b * a') : (a : Rat) * b' - b * a' ≠ 0 := fun z => h (cast_inj (by
  simp only [Rat.intCast_mul]
  grind))
/-- two lines that are not side by side have one place -/
theorem meet_one {a b c a' b' c' : Int} {x y x' y' : Rat} (d : a * b' ≠ b * a') (o1 : (a : Rat) * x + b * y = c) (o2 : (a' : Rat) * x + b' * y = c') (o3 : (a : Rat) * x' + b * y' = c) (o4 : (a' : Rat) * x' + b' * y' = c') : x = x' ∧ y = y' := by
  have d := cross_rat d
  have e1 : ((a : Rat) * b' - b * a') * (x - x') = 0 := by grind
  have e2 : ((a : Rat) * b' - b * a') * (y - y') = 0 := by grind
  constructor
  · rcases Rat.mul_eq_zero.mp e1 with z | z
    · exact absurd z d
    · grind
  · rcases Rat.mul_eq_zero.mp e2 with z | z
    · exact absurd z d
    · grind
/-- lines side by side that have one place in common -/
theorem line_same {a b c a' b' c' : Int} {x y : Rat} (h : Ln a b c) (h' : Ln a' b' c') (e : (a : Rat) * b' = b * a') (o1 : (a : Rat) * x + b * y = c) (o2 : (a' : Rat) * x + b' * y = c') : a = a' ∧ b = b' ∧ c = c' := by
  refine line_unique h h' (cast_inj ?_) (cast_inj ?_) (cast_inj ?_)
  · rw [Rat.intCast_mul, Rat.intCast_mul]; exact e
  · rw [Rat.intCast_mul, Rat.intCast_mul]; grind
  · rw [Rat.intCast_mul, Rat.intCast_mul]; grind
end Mb
namespace Mb
open PySem L2
theorem Fq.half {K : PySem.W.Frag} {H : Hp} {a : Addr} (h : H a = some (.tup [.int 1, .int 2])) : Fq K H (.ref a) (1 / 2 : Rat) := ⟨a, rfl, tupOf (by rw [show ((1 / 2 : Rat)).num = 1 from by decide +kernel, show ((1 / 2 : Rat)).den = 2 from by decide +kernel]; exact h)⟩
theorem Fq.two {K : PySem.W.Frag} {H : Hp} {a : Addr} (h : H a = some (.tup [.int 2, .int 1])) : Fq K H (.ref a) (2 : Rat) := ⟨a, rfl, tupOf h⟩
theorem gcd_quot {a b : Int} {n : Nat} (ha : 0 < a) (hb : 0 < b) (s : Sm n a) : ∃ g A B : Int, (Int.gcd a b : Int) = g ∧ 0 < g ∧ Sm n g ∧ a = g * A ∧ b = g * B ∧ a / g = A ∧ b / g = B ∧ 0 < A ∧ 0 < B := by
  have g0 := gcd_pos (t := a) (show b ≠ 0 by omega)
  have d1 : (Int.gcd a b : Int) ∣ a := Int.gcd_dvd_left a b
  have d2 : (Int.gcd a b : Int) ∣ b := Int.gcd_dvd_right a b
  have e1 := (Int.mul_ediv_cancel' d1).symm
  have e2 := (Int.mul_ediv_cancel' d2).symm
  refine ⟨_, _, _, rfl, g0, s.le (Nat.le_of_dvd (by omega) (Int.natAbs_dvd_natAbs.mpr d1)), e1, e2, rfl, rfl, ?_, ?_⟩
  · rw [e1] at ha
    exact Int.pos_of_mul_pos_right ha g0
  · rw [e2] at hb
    exact Int.pos_of_mul_pos_right hb g0
end Mb
namespace Mb
open PySem L2
theorem sq_nn (a : Int) : 0 ≤ a * a := by
  rcases (show a < 0 ∨ 0 ≤ a by omega) with h | h
  · exact Int.le_of_lt (Int.mul_pos_of_neg_of_neg h h)
  · exact Int.mul_nonneg h h
theorem up_ne {a b c A B C : Int} (h : Ln a b c) (hL : Ln A B C) (e : RUp A B a b) : a * B ≠ b * A := by
  unfold RUp at e
  have e : A * a + B * b = 0 := cast_inj (by simp only [Rat.intCast_add, Rat.intCast_mul]; exact e)
  intro z
  have n1 := h.nz
  have n2 := hL.nz
  have p : 0 < a * a + b * b := by
    by_cases ha : a = 0
    · have : b ≠ 0 := fun y => n1 ⟨ha, y⟩
      have := sq_nn a
      have : 0 < b * b := by
        rcases Int.lt_or_gt_of_ne ‹b ≠ 0› with h | h
        · exact Int.mul_pos_of_neg_of_neg h h
        · exact Int.mul_pos h h
      omega
    · have := sq_nn b
      have : 0 < a * a := by
        rcases Int.lt_or_gt_of_ne ha with h | h
        · exact Int.mul_pos_of_neg_of_neg h h
        · exact Int.mul_pos h h
      omega
  have z1 : A * (a * a + b * b) = 0 := by grind
  have z2 : B * (a * a + b * b) = 0 := by grind
  refine n2 ⟨?_, ?_⟩
  · rcases Int.mul_eq_zero.mp z1 with y | y
    · exact y
    · omega
  · rcases Int.mul_eq_zero.mp z2 with y | y
    · exact y
    · omega
theorem up_way {a b A B C : Int} {x y fx fy : Rat} (hL : Ln A B C) (e : RUp A B a b) (o : (A : Rat) * x + B * y = C) (o2 : (A : Rat) * fx + B * fy = C) : (b : Rat) * (fx - x) = a * (fy - y) := by
  unfold RUp at e
  have n2 := hL.nz
  have z1 : (A : Rat) * ((b : Rat) * (fx - x) - a * (fy - y)) = 0 := by grind
  have z2 : (B : Rat) * ((b : Rat) * (fx - x) - a * (fy - y)) = 0 := by grind
  rcases Rat.mul_eq_zero.mp z1 with y1 | y1
  · rcases Rat.mul_eq_zero.mp z2 with y2 | y2
    · exact absurd ⟨cast_inj y1, cast_inj y2⟩ n2
    · grind
  · grind
def spFoot (K : PySem.W.Frag) : Sp := fun vs H Q _ => ∃ (v w : V) (x y : Rat) (a b c : Int) (n k : Nat), vs = [v, w] ∧ Pq K H v x y ∧ Lq K H w a b c ∧ Ln a b c ∧ Sz n x ∧ Sz n y ∧ Sm k a ∧ Sm k b ∧ Sm k c ∧ n + k ≤ 2600 ∧
  ∀ (r : V) (H' : Hp) (fx fy : Rat), Same H H' → Pq K H' r fx fy → (a : Rat) * fx + b * fy = c → (b : Rat) * (fx - x) = a * (fy - y) → Sz (k + (k + (n + n) + 1) + 1) fx → Sz (k + (k + (n + n) + 1) + 1) fy → Q r H'
def spMirror (K : PySem.W.Frag) : Sp := fun vs H Q _ => ∃ (v w : V) (x y : Rat) (a b c : Int) (n k : Nat), vs = [v, w] ∧ Pq K H v x y ∧ Lq K H w a b c ∧ Ln a b c ∧ Sz n x ∧ Sz n y ∧ Sm k a ∧ Sm k b ∧ Sm k c ∧ n + k ≤ 1250 ∧
  ∀ (r : V) (H' : Hp) (fx fy : Rat), Same H H' → Pq K H' r (fx + fx - x) (fy + fy - y) → (a : Rat) * fx + b * fy = c → (b : Rat) * (fx - x) = a * (fy - y) → Sz (k + (k + (n + n) + 1) + 1) fx → Sz (k + (k + (n + n) + 1) + 1) fy → Q r H'
section
variable {K : PySem.W.Frag} {H : Hp} {Q : VK} {E : XK} {v w : V} {x y : Rat} {a b c : Int} {n n2 k k2 k3 : Nat}
theorem r_foot (h1 : Pq K H v x y) (h2 : Lq K H w a b c) (hl : Ln a b c) (s1 : Sz n x) (s2 : Sz n2 y) (s3 : Sm k a) (s4 : Sm k2 b) (s5 : Sm k3 c) (l : Nat.ble (max n n2 + max k (max k2 k3)) 2600 = true)
    (q : ∀ (r : V) (H' : Hp) (fx fy : Rat), Same H H' → Pq K H' r fx fy → (a : Rat) * fx + b * fy = c → (b : Rat) * (fx - x) = a * (fy - y) → Sz (max k (max k2 k3) + (max k (max k2 k3) + (max n n2 + max n n2) + 1) + 1) fx → Sz (max k (max k2 k3) + (max k (max k2 k3) + (max n n2 + max n n2) + 1) + 1) fy → Q r H') : spFoot K ([v, w] ++ []) H Q E :=
  ⟨v, w, x, y, a, b, c, max n n2, max k (max k2 k3), rfl, h1, h2, hl, s1.mono (by omega), s2.mono (by omega), s3.mono (by omega), s4.mono (by omega), s5.mono (by omega), Nat.le_of_ble_eq_true l, q⟩
theorem r_mirror (h1 : Pq K H v x y) (h2 : Lq K H w a b c) (hl : Ln a b c) (s1 : Sz n x) (s2 : Sz n2 y) (s3 : Sm k a) (s4 : Sm k2 b) (s5 : Sm k3 c) (l : Nat.ble (max n n2 + max k (max k2 k3)) 1250 = true)
    (q : ∀ (r : V) (H' : Hp) (fx fy : Rat), Same H H' → Pq K H' r (fx + fx - x) (fy + fy - y) → (a : Rat) * fx + b * fy = c → (b : Rat) * (fx - x) = a * (fy - y) → Sz (max k (max k2 k3) + (max k (max k2 k3) + (max n n2 + max n n2) + 1) + 1) fx → Sz (max k (max k2 k3) + (max k (max k2 k3) + (max n n2 + max n n2) + 1) + 1) fy → Q r H') : spMirror K ([v, w] ++ []) H Q E :=
  ⟨v, w, x, y, a, b, c, max n n2, max k (max k2 k3), rfl, h1, h2, hl, s1.mono (by omega), s2.mono (by omega), s3.mono (by omega), s4.mono (by omega), s5.mono (by omega), Nat.le_of_ble_eq_true l, q⟩
end
/-- a place has one foot on a line -/
theorem foot_one {a b c : Int} {x y fx fy gx gy : Rat} (h : Ln a b c) (o1 : (a : Rat) * fx + b * fy = c) (e1 : (b : Rat) * (fx - x) = a * (fy - y)) (o2 : (a : Rat) * gx + b * gy = c) (e2 : (b : Rat) * (gx - x) = a * (gy - y)) : fx = gx ∧ fy = gy := by
  have d : a * (-a) ≠ b * b := by
    have n := h.nz
    intro z
    have p1 := sq_nn a
    have p2 := sq_nn b
    have e : a * (-a) = -(a * a) := by grind
    have z1 : a * a = 0 := by omega
    have z2 : b * b = 0 := by omega
    exact n ⟨by rcases Int.mul_eq_zero.mp z1 with y | y <;> exact y, by rcases Int.mul_eq_zero.mp z2 with y | y <;> exact y⟩
  have d := cross_rat d
  simp only [Rat.intCast_neg] at d
  have f1 : ((a : Rat) * -a - b * b) * (fx - gx) = 0 := by grind
  have f2 : ((a : Rat) * -a - b * b) * (fy - gy) = 0 := by grind
  constructor
  · rcases Rat.mul_eq_zero.mp f1 with z | z
    · exact absurd z d
    · grind
  · rcases Rat.mul_eq_zero.mp f2 with z | z
    · exact absurd z d
    · grind
end Mb
namespace Mb
open PySem L2
/-! ### lines and places, or none -/
def Lo (K : PySem.W.Frag) (H : Hp) (v : V) : Option (Int × Int × Int) → Prop
  | none => v = .non
  | some (a, b, c) => Lq K H v a b c
def Po (K : PySem.W.Frag) (H : Hp) (v : V) : Option (Rat × Rat) → Prop
  | none => v = .non
  | some (x, y) => Pq K H v x y
theorem Lo.up {K : PySem.W.Frag} {H H' : Hp} {v : V} {o : Option (Int × Int × Int)} (h : Lo K H v o) (s : Same H H') : Lo K H' v o := by
  match o, h with
  | none, h => exact h
  | some (a, b, c), h => exact Lq.up h s
theorem Po.up {K : PySem.W.Frag} {H H' : Hp} {v : V} {o : Option (Rat × Rat)} (h : Po K H v o) (s : Same H H') : Po K H' v o := by
  match o, h with
  | none, h => exact h
  | some (a, b), h => exact Pq.up h s
theorem Lo.upB {K : PySem.W.Frag} {H H' : Hp} {v : V} {o : Option (Int × Int × Int)} {p : Addr} {n : Int} (h : Lo K H v o) (s : But p H H') (hp : Sr H p n) : Lo K H' v o := by
  match o, h with
  | none, h => exact h
  | some (a, b, c), h => exact Lq.upB h s hp
theorem Po.upB {K : PySem.W.Frag} {H H' : Hp} {v : V} {o : Option (Rat × Rat)} {p : Addr} {n : Int} (h : Po K H v o) (s : But p H H') (hp : Sr H p n) : Po K H' v o := by
  match o, h with
  | none, h => exact h
  | some (a, b), h => exact Pq.upB h s hp
def dLo : Option (Int × Int × Int) → PyData
  | none => .none
  | some (a, b, c) => dl a b c
def dPo : Option (Rat × Rat) → PyData
  | none => .none
  | some (x, y) => dpl x y
theorem Lo.dp {K : PySem.W.Frag} {H : Hp} {v : V} {o : Option (Int × Int × Int)} (h : Lo K H v o) : Dp K H v (dLo o) := by
  match o, h with
  | none, h => cases h; exact .non
  | some (a, b, c), h => exact Lq.dp h
theorem Po.dp {K : PySem.W.Frag} {H : Hp} {v : V} {o : Option (Rat × Rat)} (h : Po K H v o) : Dp K H v (dPo o) := by
  match o, h with
  | none, h => cases h; exact .non
  | some (a, b), h => exact Pq.dp h
theorem dLo_ok (o : Option (Int × Int × Int)) : SeqAt.shaped (dLo o) = true ∧ PyData.canLay0 (dLo o) = true := by
  match o with
  | none => exact ⟨rfl, rfl⟩
  | some (a, b, c) => exact ⟨rfl, rfl⟩
theorem dPo_ok (o : Option (Rat × Rat)) : SeqAt.shaped (dPo o) = true ∧ PyData.canLay0 (dPo o) = true := by
  match o with
  | none => exact ⟨rfl, rfl⟩
  | some (a, b) => exact ⟨rfl, rfl⟩
section
variable {K : PySem.W.Frag} {H : Hp} {Q : VK}
theorem r_neTrue {v w : V} {d : PyData} (h1 : Dp K H v d) (h2 : Dp K H w d) (sh : SeqAt.shaped d = true) (cl : PyData.canLay0 d = true) (k : Q (.bl false) H) : rNeD K v w H Q := by
  refine ⟨d, d, h1, h2, sh, sh, ?_⟩
  rw [SeqAt.eqv_refl _ cl]
  exact k
theorem r_eqLo {v w : V} {o o' : Option (Int × Int × Int)} (h1 : Lo K H v o) (h2 : Lo K H w o') (e : o = o') (k : Q (.bl true) H) : rEqD K v w H Q := by
  subst e
  exact r_eqTrue h1.dp h2.dp (dLo_ok o).1 (dLo_ok o).2 k
theorem r_neLo {v w : V} {o o' : Option (Int × Int × Int)} (h1 : Lo K H v o) (h2 : Lo K H w o') (e : o = o') (k : Q (.bl false) H) : rNeD K v w H Q := by
  subst e
  exact r_neTrue h1.dp h2.dp (dLo_ok o).1 (dLo_ok o).2 k
theorem r_eqPo {v w : V} {o o' : Option (Rat × Rat)} (h1 : Po K H v o) (h2 : Po K H w o') (e : o = o') (k : Q (.bl true) H) : rEqD K v w H Q := by
  subst e
  exact r_eqTrue h1.dp h2.dp (dPo_ok o).1 (dPo_ok o).2 k
theorem r_nePo {v w : V} {o o' : Option (Rat × Rat)} (h1 : Po K H v o) (h2 : Po K H w o') (e : o = o') (k : Q (.bl false) H) : rNeD K v w H Q := by
  subst e
  exact r_neTrue h1.dp h2.dp (dPo_ok o).1 (dPo_ok o).2 k
end
/-! ### the line through two places -/
def Thr (x y x' y' : Rat) (l : Int × Int × Int) : Prop := Ln l.1 l.2.1 l.2.2 ∧ (l.1 : Rat) * x + l.2.1 * y = l.2.2 ∧ (l.1 : Rat) * x' + l.2.1 * y' = l.2.2 ∧ ¬ (x = x' ∧ y = y')
open Classical in
noncomputable def thr (x y x' y' : Rat) : Option (Int × Int × Int) := if h : ∃ l, Thr x y x' y' l then some h.choose else none
theorem thr_some {x y x' y' : Rat} {a b c : Int} (ne : ¬ (x = x' ∧ y = y')) (hl : Ln a b c) (o1 : (a : Rat) * x + b * y = c) (o2 : (a : Rat) * x' + b * y' = c) : thr x y x' y' = some (a, b, c) := by
  have h : ∃ l, Thr x y x' y' l := ⟨(a, b, c), hl, o1, o2, ne⟩
  unfold thr
  rw [dif_pos h]
  obtain ⟨h1, h2, h3, h4⟩ := h.choose_spec
  obtain ⟨e1, e2, e3⟩ := line_two h1 hl h2 h3 o1 o2 ne
  rw [← e1, ← e2, ← e3]
theorem thr_none {x y x' y' : Rat} (e : x = x' ∧ y = y') : thr x y x' y' = none := by
  unfold thr
  rw [dif_neg]
  rintro ⟨l, h1, h2, h3, h4⟩
  exact h4 e
theorem thr_spec {x y x' y' : Rat} {a b c : Int} (e : thr x y x' y' = some (a, b, c)) : ¬ (x = x' ∧ y = y') ∧ Ln a b c ∧ (a : Rat) * x + b * y = c ∧ (a : Rat) * x' + b * y' = c := by
  unfold thr at e
  split at e
  · rename_i h
    obtain ⟨h1, h2, h3, h4⟩ := h.choose_spec
    rw [Option.some.inj e] at h1 h2 h3
    exact ⟨h4, h1, h2, h3⟩
  · cases e
theorem thr_comm (x y x' y' : Rat) : thr x y x' y' = thr x' y' x y := by
  by_cases e : x = x' ∧ y = y'
  · rw [thr_none e, thr_none ⟨e.1.symm, e.2.symm⟩]
  · match h : thr x y x' y' with
    | none =>
      match h' : thr x' y' x y with
      | none => rfl
      | some (a, b, c) =>
        obtain ⟨h1, h2, h3, h4⟩ := thr_spec h'
        rw [thr_some e h2 h4 h3] at h
        cases h
    | some (a, b, c) =>
      obtain ⟨h1, h2, h3, h4⟩ := thr_spec h
      exact (thr_some (fun z => e ⟨z.1.symm, z.2.symm⟩) h2 h4 h3).symm
/-- as an option -/
def spThruO (K : PySem.W.Frag) : Sp := fun vs H Q _ => ∃ (v w : V) (x y x' y' : Rat) (n m : Nat), vs = [v, w] ∧ Pq K H v x y ∧ Pq K H w x' y' ∧ Sz n x ∧ Sz n y ∧ Sz m x' ∧ Sz m y' ∧ n + m ≤ 3800 ∧
  ∀ (r : V) (H' : Hp), Same H H' → Lo K H' r (thr x y x' y') → (¬ (x = x' ∧ y = y') → ∃ a b c, thr x y x' y' = some (a, b, c) ∧ Sm (n + n + (m + m) + 1) a ∧ Sm (n + n + (m + m) + 1) b ∧ Sm (n + n + (m + m) + 1) c) → Q r H'
theorem thruO_of {K : PySem.W.Frag} {vs : List V} {H : Hp} {Q : VK} {E : XK} (h : spThruO K vs H Q E) : spThru K vs H Q E := by
  obtain ⟨v, w, x, y, x', y', n, m, rfl, h1, h2, s1, s2, s3, s4, l, k⟩ := h
  refine ⟨v, w, x, y, x', y', n, m, rfl, h1, h2, s1, s2, s3, s4, l, fun e => k _ _ (fun _ _ h => h) (by rw [thr_none e]; rfl) (fun z => absurd e z), fun ne r H' a b c g hl hL o1 o2 t1 t2 t3 => ?_⟩
  have e := thr_some ne hL o1 o2
  exact k r H' g (by rw [e]; exact hl) (fun _ => ⟨a, b, c, e, t1, t2, t3⟩)
theorem r_thruO {K : PySem.W.Frag} {H : Hp} {Q : VK} {E : XK} {v w : V} {x y x' y' : Rat} {n n2 m m2 : Nat} (h1 : Pq K H v x y) (h2 : Pq K H w x' y') (s1 : Sz n x) (s2 : Sz n2 y) (s3 : Sz m x') (s4 : Sz m2 y') (l : Nat.ble (max n n2 + max m m2) 3800 = true)
    (c : ∀ (r : V) (H' : Hp), Same H H' → Lo K H' r (thr x y x' y') → (¬ (x = x' ∧ y = y') → ∃ a b c, thr x y x' y' = some (a, b, c) ∧ Sm (max n n2 + max n n2 + (max m m2 + max m m2) + 1) a ∧ Sm (max n n2 + max n n2 + (max m m2 + max m m2) + 1) b ∧ Sm (max n n2 + max n n2 + (max m m2 + max m m2) + 1) c) → Q r H') : spThruO K ([v, w] ++ []) H Q E :=
  ⟨v, w, x, y, x', y', max n n2, max m m2, rfl, h1, h2, s1.mono (by omega), s2.mono (by omega), s3.mono (by omega), s4.mono (by omega), Nat.le_of_ble_eq_true l, c⟩
/-! ### where two lines meet -/
def mt (a b c a' b' c' : Int) : Option (Rat × Rat) := if a * b' = b * a' then none else some (((c : Rat) * b' - b * c') / (a * b' - b * a'), ((a : Rat) * c' - c * a') / (a * b' - b * a'))
theorem mt_some {a b c a' b' c' : Int} {x y : Rat} (d : a * b' ≠ b * a') (o1 : (a : Rat) * x + b * y = c) (o2 : (a' : Rat) * x + b' * y = c') : mt a b c a' b' c' = some (x, y) := by
  unfold mt
  rw [if_neg d]
  have rd := cross_rat d
  have e1 : ((c : Rat) * b' - b * c') / (a * b' - b * a') = x := by grind
  have e2 : ((a : Rat) * c' - c * a') / (a * b' - b * a') = y := by grind
  rw [e1, e2]
theorem mt_none {a b c a' b' c' : Int} (d : a * b' = b * a') : mt a b c a' b' c' = none := if_pos d
def spMeetO (K : PySem.W.Frag) : Sp := fun vs H Q _ => ∃ (v w : V) (a b c a' b' c' : Int) (n m : Nat), vs = [v, w] ∧ Lq K H v a b c ∧ Lq K H w a' b' c' ∧ Sm n a ∧ Sm n b ∧ Sm n c ∧ Sm m a' ∧ Sm m b' ∧ Sm m c' ∧ n + m ≤ 7600 ∧
  ∀ (r : V) (H' : Hp), Same H H' → Po K H' r (mt a b c a' b' c') → (a * b' ≠ b * a' → ∃ x y, mt a b c a' b' c' = some (x, y) ∧ (a : Rat) * x + b * y = c ∧ (a' : Rat) * x + b' * y = c' ∧ Sz (n + m + 1) x ∧ Sz (n + m + 1) y) → Q r H'
theorem meetO_of {K : PySem.W.Frag} {vs : List V} {H : Hp} {Q : VK} {E : XK} (h : spMeetO K vs H Q E) : spMeet K vs H Q E := by
  obtain ⟨v, w, a, b, c, a', b', c', n, m, rfl, h1, h2, s1, s2, s3, s4, s5, s6, l, k⟩ := h
  refine ⟨v, w, a, b, c, a', b', c', n, m, rfl, h1, h2, s1, s2, s3, s4, s5, s6, l, fun e => k _ _ (fun _ _ h => h) (by rw [mt_none e]; rfl) (fun z => absurd e z), fun d r H' x y g hp o1 o2 z1 z2 => ?_⟩
  have e := mt_some d o1 o2
  exact k r H' g (by rw [e]; exact hp) (fun _ => ⟨x, y, e, o1, o2, z1, z2⟩)
theorem r_meetO {K : PySem.W.Frag} {H : Hp} {Q : VK} {E : XK} {v w : V} {a b c a' b' c' : Int} {n n2 n3 m m2 m3 : Nat} (h1 : Lq K H v a b c) (h2 : Lq K H w a' b' c') (s1 : Sm n a) (s2 : Sm n2 b) (s3 : Sm n3 c) (s4 : Sm m a') (s5 : Sm m2 b') (s6 : Sm m3 c') (l : Nat.ble (max n (max n2 n3) + max m (max m2 m3)) 7600 = true)
    (k : ∀ (r : V) (H' : Hp), Same H H' → Po K H' r (mt a b c a' b' c') → (a * b' ≠ b * a' → ∃ x y, mt a b c a' b' c' = some (x, y) ∧ (a : Rat) * x + b * y = c ∧ (a' : Rat) * x + b' * y = c' ∧ Sz (max n (max n2 n3) + max m (max m2 m3) + 1) x ∧ Sz (max n (max n2 n3) + max m (max m2 m3) + 1) y) → Q r H') : spMeetO K ([v, w] ++ []) H Q E :=
  ⟨v, w, a, b, c, a', b', c', max n (max n2 n3), max m (max m2 m3), rfl, h1, h2, s1.mono (by omega), s2.mono (by omega), s3.mono (by omega), s4.mono (by omega), s5.mono (by omega), s6.mono (by omega), Nat.le_of_ble_eq_true l, k⟩
/-! ### steps of the laws -/
section
variable {K : PySem.W.Frag} {H : Hp} {Q : VK} {E : XK}
theorem r_onT {v w : V} {a b c : Int} {x y : Rat} {n1 n2 n3 n4 n5 : Nat} (h1 : Lq K H v a b c) (h2 : Pq K H w x y) (s1 : Sm n1 a) (s2 : Sm n2 b) (s3 : Sm n3 c) (s4 : Sz n4 x) (s5 : Sz n5 y) (l : Nat.ble (max n1 (max n2 (max n3 (max n4 n5)))) 20000 = true) (e : (a : Rat) * x + b * y = c) (k : Q (.bl true) H) : spOn K ([v, w] ++ []) H Q E := by
  have := Nat.le_of_ble_eq_true l
  exact ⟨v, w, a, b, c, x, y, rfl, h1, h2, s1.mono (by omega), s2.mono (by omega), s3.mono (by omega), s4.mono (by omega), s5.mono (by omega), by rw [decide_eq_true e]; exact k⟩
theorem r_onD {v w : V} {a b c : Int} {x y : Rat} {n1 n2 n3 n4 n5 : Nat} (h1 : Lq K H v a b c) (h2 : Pq K H w x y) (s1 : Sm n1 a) (s2 : Sm n2 b) (s3 : Sm n3 c) (s4 : Sz n4 x) (s5 : Sz n5 y) (l : Nat.ble (max n1 (max n2 (max n3 (max n4 n5)))) 20000 = true) (k : Q (.bl (decide ((a : Rat) * x + b * y = c))) H) : spOn K ([v, w] ++ []) H Q E := by
  have := Nat.le_of_ble_eq_true l
  exact ⟨v, w, a, b, c, x, y, rfl, h1, h2, s1.mono (by omega), s2.mono (by omega), s3.mono (by omega), s4.mono (by omega), s5.mono (by omega), k⟩
theorem r_isLn {v : V} {a b c : Int} (h1 : Lq K H v a b c) (hl : Ln a b c) (k : Q (.bl true) H) : spIsLn K ([v] ++ []) H Q E := ⟨v, a, b, c, rfl, h1, hl, k⟩
theorem r_isNLq {v : V} {a b c : Int} (h1 : Lq K H v a b c) (k : Q (.bl false) H) : rIsNo v .non H Q := by
  obtain ⟨p, rfl, _⟩ := h1
  exact ⟨rfl, k⟩
theorem r_notNLq {v : V} {a b c : Int} (h1 : Lq K H v a b c) (k : Q (.bl true) H) : rNotNo v .non H Q := by
  obtain ⟨p, rfl, _⟩ := h1
  exact ⟨rfl, k⟩
theorem r_isNPq {v : V} {x y : Rat} (h1 : Pq K H v x y) (k : Q (.bl false) H) : rIsNo v .non H Q := by
  obtain ⟨p, _, _, rfl, _⟩ := h1
  exact ⟨rfl, k⟩
theorem r_notNPq {v : V} {x y : Rat} (h1 : Pq K H v x y) (k : Q (.bl true) H) : rNotNo v .non H Q := by
  obtain ⟨p, _, _, rfl, _⟩ := h1
  exact ⟨rfl, k⟩
end
/-! ### a place of a line -/
def spSpot (K : PySem.W.Frag) : Sp := fun vs H Q _ => ∃ (v u : V) (a b c : Int) (t : Rat), vs = [v, u] ∧ Lq K H v a b c ∧ Ln a b c ∧ Fq K H u t ∧ Sm 30 a ∧ Sm 30 b ∧ Sm 30 c ∧ Sz 31 t ∧
  ∀ (r : V) (H' : Hp) (x y : Rat), Same H H' → Pq K H' r x y → (a : Rat) * x + b * y = c → Sz 183 x → Sz 183 y → Q r H'
theorem r_spot {K : PySem.W.Frag} {H : Hp} {Q : VK} {E : XK} {v u : V} {a b c : Int} {t : Rat} (h1 : Lq K H v a b c) (hl : Ln a b c) (h2 : Fq K H u t) (s1 : Sm 30 a) (s2 : Sm 30 b) (s3 : Sm 30 c) (s4 : Sz 31 t)
    (k : ∀ (r : V) (H' : Hp) (x y : Rat), Same H H' → Pq K H' r x y → (a : Rat) * x + b * y = c → Sz 183 x → Sz 183 y → Q r H') : spSpot K ([v, u] ++ []) H Q E := ⟨v, u, a, b, c, t, rfl, h1, hl, h2, s1, s2, s3, s4, k⟩
theorem Ln.sq {a b c : Int} (h : Ln a b c) : 0 < a * a + b * b := by
  have n := h.nz
  have p1 := sq_nn a
  have p2 := sq_nn b
  by_cases z : a * a = 0
  · by_cases y : b * b = 0
    · exact absurd ⟨by rcases Int.mul_eq_zero.mp z with z | z <;> exact z, by rcases Int.mul_eq_zero.mp y with z | z <;> exact z⟩ n
    · omega
  · omega
theorem Rq.mk {K : PySem.W.Frag} {H : Hp} {p : Addr} {t b : Int} {n : Nat} (h : H p = some (.tup [.int t, .int b])) (nz : b ≠ 0) (s1 : Sm n t) (s2 : Sm n b) : Rq K H (.ref p) (Rat.divInt t b) n := ⟨p, t, b, rfl, tupOf h, nz, rfl, s1, s2⟩
end Mb
namespace Mb
open PySem L2
def spGood (K : PySem.W.Frag) : Sp := fun vs H Q _ => ∃ (v w : V) (x y : Rat) (a b c : Int), vs = [v, w] ∧ Pq K H v x y ∧ Lq K H w a b c ∧ Ln a b c ∧ Sz 211 x ∧ Sz 211 y ∧ Sm 210 a ∧ Sm 210 b ∧ Sm 210 c ∧ ∀ H', Same H H' → Q (.bl true) H'
theorem r_good {K : PySem.W.Frag} {H : Hp} {Q : VK} {E : XK} {v w : V} {x y : Rat} {a b c : Int} {n n2 k k2 k3 : Nat} (h1 : Pq K H v x y) (h2 : Lq K H w a b c) (hl : Ln a b c) (s1 : Sz n x) (s2 : Sz n2 y) (s3 : Sm k a) (s4 : Sm k2 b) (s5 : Sm k3 c) (l : Nat.ble (max n n2) 211 = true) (l2 : Nat.ble (max k (max k2 k3)) 210 = true) (q : ∀ H', Same H H' → Q (.bl true) H') : spGood K ([v, w] ++ []) H Q E := by
  have := Nat.le_of_ble_eq_true l
  have := Nat.le_of_ble_eq_true l2
  exact ⟨v, w, x, y, a, b, c, rfl, h1, h2, hl, s1.mono (by omega), s2.mono (by omega), s3.mono (by omega), s4.mono (by omega), s5.mono (by omega), q⟩
def spOther (K : PySem.W.Frag) : Sp := fun vs H Q _ => ∃ (p : Addr) (n : Int) (w : V) (a b c : Int), vs = [.ref p, w] ∧ Sr H p n ∧ n ≤ 50000 ∧ Lq K H w a b c ∧ Ln a b c ∧ Sm 210 a ∧ Sm 210 b ∧ Sm 210 c ∧
  ∀ (v : V) (a b c : Int) (H' : Hp), But p H H' → Sr H' p (n + 200) → Lq K H' v a b c → Ln a b c → Sm 210 a → Sm 210 b → Sm 210 c → Q v H'
theorem r_other {K : PySem.W.Frag} {H : Hp} {Q : VK} {E : XK} {p : Addr} {n : Int} {w : V} {a b c : Int} (hp : Sr H p n) (l : n ≤ 50000) (h : Lq K H w a b c) (hl : Ln a b c) (s1 : Sm 210 a) (s2 : Sm 210 b) (s3 : Sm 210 c) (q : ∀ (v : V) (a b c : Int) (H' : Hp), But p H H' → Sr H' p (n + 200) → Lq K H' v a b c → Ln a b c → Sm 210 a → Sm 210 b → Sm 210 c → Q v H') : spOther K ([.ref p, w] ++ []) H Q E :=
  ⟨p, n, w, a, b, c, rfl, hp, l, h, hl, s1, s2, s3, q⟩
theorem beq_dec {p q : Prop} [Decidable p] [Decidable q] (h : p ↔ q) : (decide p == decide q) = true := by
  rw [decide_eq_decide.mpr h]
  exact beq_self_eq_true _
theorem mod30 (c : Int) : 0 ≤ c % 1000000000000000000000000000000 ∧ c % 1000000000000000000000000000000 < 1000000000000000000000000000000 := ⟨Int.emod_nonneg _ (by decide), Int.emod_lt_of_pos _ (by decide)⟩
theorem par_al {a b A B A' B' : Int} (n : ¬ (a = 0 ∧ b = 0)) (e : RAl A B a b) (e' : RAl A' B' a b) : (A' : Rat) * B = B' * A := by
  unfold RAl at e e'
  have z1 : (a : Rat) * ((A' : Rat) * B - B' * A) = 0 := by grind
  have z2 : (b : Rat) * ((A' : Rat) * B - B' * A) = 0 := by grind
  rcases Rat.mul_eq_zero.mp z1 with y1 | y1
  · rcases Rat.mul_eq_zero.mp z2 with y2 | y2
    · exact absurd ⟨cast_inj y1, cast_inj y2⟩ n
    · grind
  · grind
theorem par_up {a b A B A' B' : Int} (n : ¬ (a = 0 ∧ b = 0)) (e : RUp A B a b) (e' : RUp A' B' a b) : (A' : Rat) * B = B' * A := by
  unfold RUp at e e'
  have z1 : (a : Rat) * ((A' : Rat) * B - B' * A) = 0 := by grind
  have z2 : (b : Rat) * ((A' : Rat) * B - B' * A) = 0 := by grind
  rcases Rat.mul_eq_zero.mp z1 with y1 | y1
  · rcases Rat.mul_eq_zero.mp z2 with y2 | y2
    · exact absurd ⟨cast_inj y1, cast_inj y2⟩ n
    · grind
  · grind
theorem RAl.int {A B a b : Int} (e : RAl A B a b) : A * b = B * a := cast_inj (by simp only [Rat.intCast_mul]; exact e)
theorem RUp.int {A B a b : Int} (e : RUp A B a b) : A * a + B * b = 0 := cast_inj (by simp only [Rat.intCast_add, Rat.intCast_mul]; exact e)
end Mb
namespace Mb
open PySem L2
/-! ### circles -/
def Cq (K : PySem.W.Frag) (H : Hp) (v : V) (x y s : Rat) : Prop := ∃ a f g h, v = .ref a ∧ SqT K H a [f, g, h] ∧ Fq K H f x ∧ Fq K H g y ∧ Fq K H h s
theorem Cq.up {K : PySem.W.Frag} {H H' : Hp} {v : V} {x y s : Rat} (h : Cq K H v x y s) (e : Same H H') : Cq K H' v x y s := by
  obtain ⟨a, f, g, k, rfl, t, h1, h2, h3⟩ := h
  exact ⟨a, f, g, k, rfl, e.tp t, h1.up e, h2.up e, h3.up e⟩
theorem Cq.upB {K : PySem.W.Frag} {H H' : Hp} {v : V} {x y s : Rat} {p : Addr} {n : Int} (h : Cq K H v x y s) (e : But p H H') (hp : Sr H p n) : Cq K H' v x y s := by
  obtain ⟨a, f, g, k, rfl, t, h1, h2, h3⟩ := h
  obtain ⟨xs, ex⟩ := hp.at_
  exact ⟨a, f, g, k, rfl, e.tup ex t, h1.upB e hp, h2.upB e hp, h3.upB e hp⟩
theorem Cq.mk {K : PySem.W.Frag} {H : Hp} {a : Addr} {f g k : V} {x y s : Rat} (h : H a = some (.tup [f, g, k])) (h1 : Fq K H f x) (h2 : Fq K H g y) (h3 : Fq K H k s) : Cq K H (.ref a) x y s := ⟨a, f, g, k, rfl, tupOf h, h1, h2, h3⟩
def dcq (x y s : Rat) : PyData := .tuple [dq x, dq y, dq s]
theorem Cq.dp {K : PySem.W.Frag} {H : Hp} {v : V} {x y s : Rat} (h : Cq K H v x y s) : Dp K H v (dcq x y s) := by
  obtain ⟨a, f, g, k, rfl, t, h1, h2, h3⟩ := h
  exact .tup t (.cons h1.dp (.cons h2.dp (.cons h3.dp .nil)))
section
variable {K : PySem.W.Frag} {H : Hp} {Q : VK} {E : XK}
theorem r_eqC {v w : V} {x y s x' y' s' : Rat} (h1 : Cq K H v x y s) (h2 : Cq K H w x' y' s') (e : x = x' ∧ y = y' ∧ s = s') (k : Q (.bl true) H) : rEqD K v w H Q := by
  obtain ⟨rfl, rfl, rfl⟩ := e
  exact r_eqTrue h1.dp h2.dp rfl rfl k
theorem r_ixC0 {v : V} {x y s : Rat} (h : Cq K H v x y s) (k : ∀ f, Fq K H f x → Q f H) : rIxT K v (.int 0) H Q := by
  obtain ⟨a, f, g, h, rfl, t, h1, h2, h3⟩ := h
  exact ⟨a, _, 0, _, rfl, rfl, t, rfl, k _ h1⟩
theorem r_ixC1 {v : V} {x y s : Rat} (h : Cq K H v x y s) (k : ∀ f, Fq K H f y → Q f H) : rIxT K v (.int 1) H Q := by
  obtain ⟨a, f, g, h, rfl, t, h1, h2, h3⟩ := h
  exact ⟨a, _, 1, _, rfl, rfl, t, rfl, k _ h2⟩
theorem r_ixC2 {v : V} {x y s : Rat} (h : Cq K H v x y s) (k : ∀ f, Fq K H f s → Q f H) : rIxT K v (.int 2) H Q := by
  obtain ⟨a, f, g, h, rfl, t, h1, h2, h3⟩ := h
  exact ⟨a, _, 2, _, rfl, rfl, t, rfl, k _ h3⟩
theorem r_isNCq {v : V} {x y s : Rat} (h1 : Cq K H v x y s) (k : Q (.bl false) H) : rIsNo v .non H Q := by
  obtain ⟨a, f, g, h, rfl, _⟩ := h1
  exact ⟨rfl, k⟩
theorem r_notNCq {v : V} {x y s : Rat} (h1 : Cq K H v x y s) (k : Q (.bl true) H) : rNotNo v .non H Q := by
  obtain ⟨a, f, g, h, rfl, _⟩ := h1
  exact ⟨rfl, k⟩
theorem r_isiT {v : V} {x y s : Rat} (h : Cq K H v x y s) (k : Q (.bl true) H) : rIsi K [v, .ty "tuple"] H Q := by
  obtain ⟨a, f, g, z, rfl, t, _⟩ := h
  exact r_isi (tyT t) rfl k
end
def spIsF (K : PySem.W.Frag) : Sp := fun vs H Q _ => ∃ (v : V) (x : Rat), vs = [v] ∧ Fq K H v x ∧ Q (.bl true) H
theorem isF_of {K : PySem.W.Frag} {vs : List V} {H : Hp} {Q : VK} {E : XK} (h : spIsF K vs H Q E) : spIsFr K vs H Q E := by
  obtain ⟨_, x, rfl, ⟨a, rfl, t⟩, k⟩ := h
  exact ⟨a, _, _, rfl, t, den_pos x, x.reduced, k⟩
theorem r_isF {K : PySem.W.Frag} {H : Hp} {Q : VK} {E : XK} {v : V} {x : Rat} (h : Fq K H v x) (k : Q (.bl true) H) : spIsF K ([v] ++ []) H Q E := ⟨v, x, rfl, h, k⟩
def spAbout (K : PySem.W.Frag) : Sp := fun vs H Q _ => ∃ (v w : V) (x y x' y' : Rat) (n m : Nat), vs = [v, w] ∧ Pq K H v x y ∧ Pq K H w x' y' ∧ Sz n x ∧ Sz n y ∧ Sz m x' ∧ Sz m y' ∧ n + m ≤ 1900 ∧
  (x = x' ∧ y = y' → Q .non H) ∧
  (¬ (x = x' ∧ y = y') → ∀ (r : V) (H' : Hp), Same H H' → Cq K H' r x y ((x' - x) * (x' - x) + (y' - y) * (y' - y)) → Q r H')
theorem r_about0 {K : PySem.W.Frag} {H : Hp} {Q : VK} {E : XK} {v w : V} {x y x' y' : Rat} {n n2 m m2 : Nat} (h1 : Pq K H v x y) (h2 : Pq K H w x' y') (s1 : Sz n x) (s2 : Sz n2 y) (s3 : Sz m x') (s4 : Sz m2 y') (l : Nat.ble (max n n2 + max m m2) 1900 = true) (e : x = x' ∧ y = y') (c : Q .non H) : spAbout K ([v, w] ++ []) H Q E :=
  ⟨v, w, x, y, x', y', max n n2, max m m2, rfl, h1, h2, s1.mono (by omega), s2.mono (by omega), s3.mono (by omega), s4.mono (by omega), Nat.le_of_ble_eq_true l, fun _ => c, fun z => absurd e z⟩
theorem r_about1 {K : PySem.W.Frag} {H : Hp} {Q : VK} {E : XK} {v w : V} {x y x' y' : Rat} {n n2 m m2 : Nat} (h1 : Pq K H v x y) (h2 : Pq K H w x' y') (s1 : Sz n x) (s2 : Sz n2 y) (s3 : Sz m x') (s4 : Sz m2 y') (l : Nat.ble (max n n2 + max m m2) 1900 = true) (e : ¬ (x = x' ∧ y = y')) (c : ∀ (r : V) (H' : Hp), Same H H' → Cq K H' r x y ((x' - x) * (x' - x) + (y' - y) * (y' - y)) → Q r H') : spAbout K ([v, w] ++ []) H Q E :=
  ⟨v, w, x, y, x', y', max n n2, max m m2, rfl, h1, h2, s1.mono (by omega), s2.mono (by omega), s3.mono (by omega), s4.mono (by omega), Nat.le_of_ble_eq_true l, fun z => absurd z e, fun _ => c⟩
/-- the law's own square of a distance -/
def spFar (K : PySem.W.Frag) : Sp := fun vs H Q _ => ∃ (v w : V) (x y x' y' : Rat) (n m : Nat), vs = [v, w] ∧ Pq K H v x y ∧ Pq K H w x' y' ∧ Sz n x ∧ Sz n y ∧ Sz m x' ∧ Sz m y' ∧ n + m ≤ 9000 ∧
  ∀ (r : V) (H' : Hp), Same H H' → Rq K H' r ((x - x') * (x - x') + (y - y') * (y - y')) (4 * (n + m) + 7) → Q r H'
theorem r_far {K : PySem.W.Frag} {H : Hp} {Q : VK} {E : XK} {v w : V} {x y x' y' : Rat} {n n2 m m2 : Nat} (h1 : Pq K H v x y) (h2 : Pq K H w x' y') (s1 : Sz n x) (s2 : Sz n2 y) (s3 : Sz m x') (s4 : Sz m2 y') (l : Nat.ble (max n n2 + max m m2) 9000 = true) (c : ∀ (r : V) (H' : Hp), Same H H' → Rq K H' r ((x - x') * (x - x') + (y - y') * (y - y')) (4 * (max n n2 + max m m2) + 7) → Q r H') : spFar K ([v, w] ++ []) H Q E :=
  ⟨v, w, x, y, x', y', max n n2, max m m2, rfl, h1, h2, s1.mono (by omega), s2.mono (by omega), s3.mono (by omega), s4.mono (by omega), Nat.le_of_ble_eq_true l, c⟩
/-! ### what five words mean -/
def spIn (K : PySem.W.Frag) : Sp := fun vs H Q _ => ∃ (v w u : V) (x y x' y' x2 y2 : Rat) (n : Nat), vs = [v, w, u] ∧ Pq K H v x y ∧ Pq K H w x' y' ∧ Pq K H u x2 y2 ∧ Sz n x ∧ Sz n y ∧ Sz n x' ∧ Sz n y' ∧ Sz n x2 ∧ Sz n y2 ∧ n ≤ 3000 ∧
  ∀ H', Same H H' → Q (.bl (decide ((x' - x) * (y2 - y) = (y' - y) * (x2 - x)))) H'
theorem r_in {K : PySem.W.Frag} {H : Hp} {Q : VK} {E : XK} {v w u : V} {x y x' y' x2 y2 : Rat} {n1 n2 n3 n4 n5 n6 : Nat} (h1 : Pq K H v x y) (h2 : Pq K H w x' y') (h3 : Pq K H u x2 y2) (s1 : Sz n1 x) (s2 : Sz n2 y) (s3 : Sz n3 x') (s4 : Sz n4 y') (s5 : Sz n5 x2) (s6 : Sz n6 y2) (l : Nat.ble (max (max n1 n2) (max (max n3 n4) (max n5 n6))) 3000 = true)
    (c : ∀ H', Same H H' → Q (.bl (decide ((x' - x) * (y2 - y) = (y' - y) * (x2 - x)))) H') : spIn K ([v, w, u] ++ []) H Q E :=
  ⟨v, w, u, x, y, x', y', x2, y2, max (max n1 n2) (max (max n3 n4) (max n5 n6)), rfl, h1, h2, h3, s1.mono (by omega), s2.mono (by omega), s3.mono (by omega), s4.mono (by omega), s5.mono (by omega), s6.mono (by omega), Nat.le_of_ble_eq_true l, c⟩
def spL2 (K : PySem.W.Frag) (R : Int → Int → Int → Int → Prop) [∀ a b c d, Decidable (R a b c d)] : Sp := fun vs H Q _ => ∃ (v w : V) (a b c a' b' c' : Int), vs = [v, w] ∧ Lq K H v a b c ∧ Lq K H w a' b' c' ∧ Sm 8000 a ∧ Sm 8000 b ∧ Sm 8000 a' ∧ Sm 8000 b' ∧ Q (.bl (decide (R a b a' b'))) H
abbrev RSide (a b a' b' : Int) : Prop := a * b' = b * a'
abbrev RSq (a b a' b' : Int) : Prop := a * a' + b * b' = 0
theorem r_L2 {K : PySem.W.Frag} {R : Int → Int → Int → Int → Prop} [∀ a b c d, Decidable (R a b c d)] {H : Hp} {Q : VK} {E : XK} {v w : V} {a b c a' b' c' : Int} {n1 n2 n3 n4 : Nat} (h1 : Lq K H v a b c) (h2 : Lq K H w a' b' c') (s1 : Sm n1 a) (s2 : Sm n2 b) (s3 : Sm n3 a') (s4 : Sm n4 b') (l : Nat.ble (max (max n1 n2) (max n3 n4)) 8000 = true) (k : Q (.bl (decide (R a b a' b'))) H) : spL2 K R ([v, w] ++ []) H Q E := by
  have := Nat.le_of_ble_eq_true l
  exact ⟨v, w, a, b, c, a', b', c', rfl, h1, h2, s1.mono (by omega), s2.mono (by omega), s3.mono (by omega), s4.mono (by omega), k⟩
def spIsB : Sp := fun vs H Q _ => ∃ b c : Bool, vs = [.bl b, .bl c] ∧ Q (.bl (b == c)) H
theorem r_isB {H : Hp} {Q : VK} {E : XK} {b c : Bool} (k : Q (.bl (b == c)) H) : spIsB ([.bl b, .bl c] ++ []) H Q E := ⟨b, c, rfl, k⟩
end Mb
namespace Mb
open PySem L2
def spCross (K : PySem.W.Frag) : Sp := fun vs H Q _ => ∃ (v w u : V) (x y x' y' x2 y2 : Rat), vs = [v, w, u] ∧ Pq K H v x y ∧ Pq K H w x' y' ∧ Pq K H u x2 y2 ∧ Sz 1500 x ∧ Sz 1500 y ∧ Sz 1500 x' ∧ Sz 1500 y' ∧ Sz 1500 x2 ∧ Sz 1500 y2 ∧
  ∀ (r : V) (H' : Hp), Same H H' → Rq K H' r ((x - x2) * (y' - y2) - (y - y2) * (x' - x2)) 12007 → Q r H'
theorem r_cross {K : PySem.W.Frag} {H : Hp} {Q : VK} {E : XK} {v w u : V} {x y x' y' x2 y2 : Rat} {n1 n2 n3 n4 n5 n6 : Nat} (h1 : Pq K H v x y) (h2 : Pq K H w x' y') (h3 : Pq K H u x2 y2) (s1 : Sz n1 x) (s2 : Sz n2 y) (s3 : Sz n3 x') (s4 : Sz n4 y') (s5 : Sz n5 x2) (s6 : Sz n6 y2) (l : Nat.ble (max (max n1 n2) (max (max n3 n4) (max n5 n6))) 1500 = true)
    (c : ∀ (r : V) (H' : Hp), Same H H' → Rq K H' r ((x - x2) * (y' - y2) - (y - y2) * (x' - x2)) 12007 → Q r H') : spCross K ([v, w, u] ++ []) H Q E := by
  have := Nat.le_of_ble_eq_true l
  exact ⟨v, w, u, x, y, x', y', x2, y2, rfl, h1, h2, h3, s1.mono (by omega), s2.mono (by omega), s3.mono (by omega), s4.mono (by omega), s5.mono (by omega), s6.mono (by omega), c⟩
/-- a raw fraction's top is nought just where it is nought -/
theorem Rq.top {K : PySem.W.Frag} {H : Hp} {v : V} {x : Rat} {n : Nat} (h : Rq K H v x n) : ∃ (p : Addr) (t b : Int), v = .ref p ∧ SqT K H p [.int t, .int b] ∧ Sm n t ∧ (t = 0 ↔ x = 0) := by
  obtain ⟨p, t, b, rfl, h1, nz, rfl, s1, _⟩ := h
  refine ⟨p, t, b, rfl, h1, s1, ?_⟩
  rw [Rat.divInt_eq_div]
  have nb := ratz nz
  constructor
  · rintro rfl
    grind
  · intro e
    refine cast_inj ?_
    grind
def spWideQ (K : PySem.W.Frag) : Sp := fun vs H Q _ => ∃ (p : Addr) (n i : Int) (m : Nat), vs = [.ref p, .int i] ∧ Sr H p n ∧ n ≤ 80000 ∧ 0 < i ∧ i.natAbs ≤ 2 ^ m ∧
  ∀ (v : V) (j : Int) (H' : Hp), But p H H' → Sr H' p (n + 20) → Fq K H' v (j : Rat) → Sm m j → Q v H'
theorem r_wide {K : PySem.W.Frag} {H : Hp} {Q : VK} {E : XK} {p : Addr} {n i : Int} {m : Nat} (hp : Sr H p n) (l : n ≤ 80000) (i0 : 0 < i) (im : i.natAbs ≤ 2 ^ m) (c : ∀ (v : V) (j : Int) (H' : Hp), But p H H' → Sr H' p (n + 20) → Fq K H' v (j : Rat) → Sm m j → Q v H') : spWideQ K ([.ref p, .int i] ++ []) H Q E := ⟨p, n, i, m, rfl, hp, l, i0, im, c⟩
def spWideNear (K : PySem.W.Frag) : Sp := fun vs H Q _ => ∃ (p : Addr) (n i : Int) (m : Nat) (w : V) (x y : Rat), vs = [.ref p, .int i, w] ∧ Sr H p n ∧ n ≤ 70000 ∧ 0 < i ∧ i.natAbs ≤ 2 ^ m ∧ 0 < m ∧ Pq K H w x y ∧ Sz m x ∧ Sz m y ∧
  ∀ (v : V) (x y : Rat) (H' : Hp), But p H H' → Sr H' p (n + 50) → Pq K H' v x y → Sz m x → Sz m y → Q v H'
theorem r_wideNear {K : PySem.W.Frag} {H : Hp} {Q : VK} {E : XK} {p : Addr} {n i : Int} {m : Nat} {w : V} {x y : Rat} (hp : Sr H p n) (l : n ≤ 70000) (i0 : 0 < i) (im : i.natAbs ≤ 2 ^ m) (m0 : 0 < m) (hw : Pq K H w x y) (sx : Sz m x) (sy : Sz m y)
    (c : ∀ (v : V) (x y : Rat) (H' : Hp), But p H H' → Sr H' p (n + 50) → Pq K H' v x y → Sz m x → Sz m y → Q v H') : spWideNear K ([.ref p, .int i, w] ++ []) H Q E := ⟨p, n, i, m, w, x, y, rfl, hp, l, i0, im, m0, hw, sx, sy, c⟩
def spWholeLine (K : PySem.W.Frag) : Sp := fun vs H Q _ => ∃ (p : Addr) (n i : Int) (m : Nat), vs = [.ref p, .int i] ∧ Sr H p n ∧ n ≤ 70000 ∧ 0 < i ∧ i.natAbs ≤ 2 ^ m ∧ 1 ≤ m ∧ m ≤ 8000 ∧
  ∀ (v : V) (a b c : Int) (H' : Hp), But p H H' → Sr H' p (n + 100) → Lq K H' v a b c → Ln a b c → Sm m a → Sm m b → Sm m c → Q v H'
theorem r_wholeLine {K : PySem.W.Frag} {H : Hp} {Q : VK} {E : XK} {p : Addr} {n i : Int} {m : Nat} (hp : Sr H p n) (l : n ≤ 70000) (i0 : 0 < i) (im : i.natAbs ≤ 2 ^ m) (m0 : 1 ≤ m) (m1 : m ≤ 8000) (c : ∀ (v : V) (a b c : Int) (H' : Hp), But p H H' → Sr H' p (n + 100) → Lq K H' v a b c → Ln a b c → Sm m a → Sm m b → Sm m c → Q v H') : spWholeLine K ([.ref p, .int i] ++ []) H Q E := ⟨p, n, i, m, rfl, hp, l, i0, im, m0, m1, c⟩
def spThree (K : PySem.W.Frag) : Sp := fun vs H Q _ => ∃ (a : Addr) (ns : List Int), vs = [.ref a] ∧ SqL K H a (ns.map V.int) ∧ ns.length ≤ 63 ∧
  ∀ (o : Addr) (v w u : V) (x y x' y' x2 y2 : Rat) (H' : Hp), Same H H' → SqT K H' o [v, w, u] → Pq K H' v x y → Pq K H' w x' y' → Pq K H' u x2 y2 → Sz 500 x → Sz 500 y → Sz 500 x' → Sz 500 y' → Sz 500 x2 → Sz 500 y2 → Q (.ref o) H'
def spLines (K : PySem.W.Frag) : Sp := fun vs H Q _ => ∃ (a : Addr) (ns : List Int), vs = [.ref a] ∧ SqL K H a (ns.map V.int) ∧ ns.length ≤ 63 ∧
  ∀ (o : Addr) (v w : V) (a b c a' b' c' : Int) (H' : Hp), Same H H' → SqT K H' o [v, w] → Lq K H' v a b c → Lq K H' w a' b' c' → Ln a b c → Ln a' b' c' → Sm 210 a → Sm 210 b → Sm 210 a' → Sm 210 b' → Q (.ref o) H'
theorem r_dN {c : Bool} {A B : Prop} (hc : c = true) (h : B) : if (!c) = true then A else B := by rw [hc]; exact h
theorem r_ixR0 {K : PySem.W.Frag} {H : Hp} {Q : VK} {v : V} {x : Rat} {n : Nat} (h : Rq K H v x n) (k : ∀ t : Int, (t = 0 ↔ x = 0) → Q (.int t) H) : rIxT K v (.int 0) H Q := by
  obtain ⟨p, t, b, rfl, h1, _, e⟩ := h.top
  exact ⟨p, _, 0, _, rfl, rfl, h1, rfl, k t e⟩
theorem r_gS {K : PySem.W.Frag} {σ : St} {H : Hp} {Q : St → Hp → Prop} {t : TGs} {a : Addr} {xs : List V} {n : Nat} (h : SqT K H a xs) (l : xs.length = n) (q : t xs σ H Q) : gTup K n t (.ref a) σ H Q := ⟨a, xs, rfl, h, l, q⟩
theorem r_three {K : PySem.W.Frag} {H : Hp} {Q : VK} {E : XK} {a : Addr} {ns : List Int} (hS : SqL K H a (ns.map V.int)) (hl : ns.length ≤ 63) (c : ∀ (o : Addr) (v w u : V) (x y x' y' x2 y2 : Rat) (H' : Hp), Same H H' → SqT K H' o [v, w, u] → Pq K H' v x y → Pq K H' w x' y' → Pq K H' u x2 y2 → Sz 500 x → Sz 500 y → Sz 500 x' → Sz 500 y' → Sz 500 x2 → Sz 500 y2 → Q (.ref o) H') : spThree K ([.ref a] ++ []) H Q E := ⟨a, ns, rfl, hS, hl, c⟩
theorem r_lines {K : PySem.W.Frag} {H : Hp} {Q : VK} {E : XK} {a : Addr} {ns : List Int} (hS : SqL K H a (ns.map V.int)) (hl : ns.length ≤ 63) (c : ∀ (o : Addr) (v w : V) (a b c a' b' c' : Int) (H' : Hp), Same H H' → SqT K H' o [v, w] → Lq K H' v a b c → Lq K H' w a' b' c' → Ln a b c → Ln a' b' c' → Sm 210 a → Sm 210 b → Sm 210 a' → Sm 210 b' → Q (.ref o) H') : spLines K ([.ref a] ++ []) H Q E := ⟨a, ns, rfl, hS, hl, c⟩
end Mb
namespace Mb
open PySem L2
/-! ### whole roots -/
def Sq (n : Int) : Prop := ∃ a : Int, 0 ≤ a ∧ a * a = n
theorem mul_self_lt {a b : Int} (h0 : 0 ≤ a) (h : a < b) : a * a < b * b := by
  have h1 : a * a ≤ a * b := Int.mul_le_mul_of_nonneg_left (by omega) h0
  have h2 : a * b < b * b := Int.mul_lt_mul_of_pos_right h (by omega)
  omega
theorem isq_iff {n g : Int} (g0 : 0 ≤ g) (hg : g * g ≤ n) (mx : ∀ k, 0 ≤ k → k * k ≤ n → k ≤ g) : g * g = n ↔ Sq n := by
  constructor
  · intro e
    exact ⟨g, g0, e⟩
  · rintro ⟨a, a0, e⟩
    have l := mx a a0 (by omega)
    by_cases h : a = g
    · rw [← h]; exact e
    · have := mul_self_lt a0 (show a < g by omega)
      omega
theorem newton {n g : Int} (g0 : 0 < g) (mx : ∀ k, 0 ≤ k → k * k ≤ n → k ≤ g) : ∀ k, 0 ≤ k → k * k ≤ n → k ≤ (g + n / g) / 2 := by
  intro k k0 hk
  have l := mx k k0 hk
  have h1 : (2 * k - g) * g ≤ n := by
    have s := Int.mul_nonneg (show 0 ≤ g - k by omega) (show 0 ≤ g - k by omega)
    have e : (2 * k - g) * g = k * k - (g - k) * (g - k) := by grind
    omega
  have h2 : 2 * k - g ≤ n / g := (Int.le_ediv_iff_mul_le g0).mpr h1
  omega
theorem newton_lt {n g : Int} (n0 : 0 ≤ n) (g0 : 0 < g) (h : n < g * g) : (g + n / g) / 2 < g ∧ 0 ≤ (g + n / g) / 2 := by
  have h1 : n / g < g := (Int.ediv_lt_iff_lt_mul g0).mpr h
  have h2 : 0 ≤ n / g := Int.ediv_nonneg n0 (by omega)
  omega
theorem lt_bits (n : Int) : n.natAbs < 2 ^ Builtin.Int.intBits n := by
  unfold Builtin.Int.intBits
  split
  · rename_i h
    have : n = 0 := by simpa using h
    subst this
    decide
  · exact Nat.lt_log2_self
/-- the first guess lies above the root -/
theorem guess_above {n : Int} (n0 : 0 ≤ n) {e : Nat} (he : Builtin.Int.intBits n ≤ 2 * e) : ∀ k, 0 ≤ k → k * k ≤ n → k ≤ (2 : Int) ^ e := by
  intro k k0 hk
  have h1 : n.natAbs < 2 ^ (2 * e) := Nat.lt_of_lt_of_le (lt_bits n) (Nat.pow_le_pow_right (by decide) he)
  have h2 : n < (2 : Int) ^ (2 * e) := by
    have : ((2 ^ (2 * e) : Nat) : Int) = (2 : Int) ^ (2 * e) := by norm_cast
    omega
  have h3 : (2 : Int) ^ (2 * e) = (2 : Int) ^ e * (2 : Int) ^ e := by rw [Nat.two_mul, Int.pow_add]
  apply Int.not_lt.mp
  intro c
  have := mul_self_lt (Int.le_of_lt (Int.pow_pos (show (0 : Int) < 2 by decide))) c
  omega
/-- n is 0 or more: the greatest whole number whose square is not above it -/
def spIsqrt : Sp := fun vs H Q _ => ∃ n : Int, vs = [.int n] ∧ 0 ≤ n ∧ Sm 16000 n ∧ ∀ g : Int, 0 ≤ g → g * g ≤ n → (∀ k, 0 ≤ k → k * k ≤ n → k ≤ g) → Q (.int g) H
def spSquare : Sp := fun vs H Q _ => ∃ n : Int, vs = [.int n] ∧ 0 ≤ n ∧ Sm 16000 n ∧ ∀ b : Bool, (b = true ↔ Sq n) → Q (.bl b) H
def spRoot (K : PySem.W.Frag) : Sp := fun vs H Q _ => ∃ (p : Addr) (t u : Int), vs = [.ref p] ∧ SqT K H p [.int t, .int u] ∧ 0 < u ∧ Sm 16000 t ∧ Sm 16000 u ∧
  (t < 0 ∨ ¬ Sq t ∨ ¬ Sq u → Q .non H) ∧ ∀ (a b : Int) (r : Addr) (H' : Hp), 0 ≤ a → 0 ≤ b → a * a = t → b * b = u → Same H H' → H' r = some (.tup [.int a, .int b]) → Q (.ref r) H'
theorem le_mul_self {a : Int} (h : 0 ≤ a) : a ≤ a * a := by
  by_cases c : a = 0
  · subst c; decide
  · have := Int.mul_le_mul_of_nonneg_left (show 1 ≤ a by omega) h
    omega
theorem root_sm {g n : Int} {k : Nat} (g0 : 0 ≤ g) (h : g * g ≤ n) (s : Sm k n) : Sm k g := s.le (by
  have := le_mul_self g0
  omega)
theorem root_gcd {a b t u : Int} (e1 : a * a = t) (e2 : b * b = u) (g : Int.gcd t u = 1) : Int.gcd a b = 1 := by
  have d1 : (Int.gcd a b : Int) ∣ t := e1 ▸ Int.dvd_mul_of_dvd_left (Int.gcd_dvd_left a b)
  have d2 : (Int.gcd a b : Int) ∣ u := e2 ▸ Int.dvd_mul_of_dvd_left (Int.gcd_dvd_right a b)
  have d3 := Int.dvd_coe_gcd d1 d2
  rw [g] at d3
  have := Int.natAbs_dvd_natAbs.mpr d3
  simpa using this
end Mb
namespace Mb
open PySem L2
/-! ### roots of rationals -/
theorem gcd_sq {a b : Int} (h : Int.gcd a b = 1) : Int.gcd (a * a) (b * b) = 1 := by
  have c : Nat.Coprime a.natAbs b.natAbs := h
  have := Nat.Coprime.mul_left (Nat.Coprime.mul_right c c) (Nat.Coprime.mul_right c c)
  show Nat.gcd (a * a).natAbs (b * b).natAbs = 1
  rw [Int.natAbs_mul, Int.natAbs_mul]
  exact this
theorem sq_parts {r q : Rat} (e : r * r = q) : q.num = r.num * r.num ∧ (q.den : Int) = r.den * r.den := by
  rw [mul_dv] at e
  have hd : (r.den : Int) * r.den ≠ 0 := Int.mul_ne_zero (den_ne r) (den_ne r)
  rw [← Rat.num_divInt_den q] at e
  have c := (Rat.divInt_eq_divInt_iff hd (den_ne q)).mp e
  refine frac_unique (den_pos q) (Int.mul_pos (den_pos r) (den_pos r)) q.reduced (gcd_sq r.reduced) ?_
  exact c.symm
def spRootQ (K : PySem.W.Frag) : Sp := fun vs H Q _ => ∃ (v : V) (q : Rat), vs = [v] ∧ Fq K H v q ∧ Sz 16000 q ∧
  ((¬ ∃ r : Rat, r * r = q) → Q .non H) ∧ ∀ r : Rat, 0 ≤ r → r * r = q → ∀ (o : V) (H' : Hp), Same H H' → Fq K H' o r → Q o H'
theorem rootQ_of {K : PySem.W.Frag} {vs : List V} {H : Hp} {Q : VK} {E : XK} (h : spRootQ K vs H Q E) : spRoot K vs H Q E := by
  obtain ⟨_, q, rfl, ⟨p, rfl, hp⟩, sz, h0, h1⟩ := h
  refine ⟨p, _, _, rfl, hp, den_pos q, sz.t, sz.b, fun hn => h0 ?_, fun a b r H' a0 b0 e1 e2 g hr => ?_⟩
  · rintro ⟨r, e⟩
    obtain ⟨n1, n2⟩ := sq_parts e
    have habs : ∀ z : Int, ∃ a : Int, 0 ≤ a ∧ a * a = z * z := fun z => ⟨z.natAbs, by omega, by
      rcases (show z = (z.natAbs : Int) ∨ z = -(z.natAbs : Int) by omega) with h | h
      · rw [← h]
      · generalize (z.natAbs : Int) = w at h
        rw [h, Int.neg_mul_neg]⟩
    rcases hn with h | h | h
    · have := sq_nn r.num
      omega
    · exact h (by obtain ⟨a, h1, h2⟩ := habs r.num; exact ⟨a, h1, by rw [h2, n1]⟩)
    · exact h (by obtain ⟨a, h1, h2⟩ := habs (r.den : Int); exact ⟨a, h1, by rw [h2, n2]⟩)
  · have bp : 0 < b := by
      have := den_pos q
      by_cases z : b = 0
      · subst z; simp at e2; omega
      · omega
    have gc := root_gcd e1 e2 q.reduced
    obtain ⟨f1, f2⟩ := low_rat (t := a) (show b ≠ 0 by omega)
    obtain ⟨f3, f4⟩ := low_eq (a := a) (b := b) (show b ≠ 0 by omega) bp gc rfl
    have en : (Rat.divInt a b).num = a := by rw [← f1, f3]
    have ed : ((Rat.divInt a b).den : Int) = b := by rw [← f2, f4]
    refine h1 (Rat.divInt a b) ?_ ?_ _ _ g ⟨r, rfl, tupOf (by rw [en, ed]; exact hr)⟩
    · rw [← Rat.num_nonneg, en]
      exact a0
    · rw [mul_dv, en, ed, e1, e2, Rat.num_divInt_den]
/-! ### slices, tuples with lists -/
section
variable {K : PySem.W.Frag} {σ : St} {H : Hp} {Q : VK}
theorem r_slC {v : V} {x y s : Rat} (h : Cq K H v x y s) (k : ∀ (p : Addr) (H' : Hp), Same H H' → Pq K H' (.ref p) x y → Q (.ref p) H') : rSlT K v none (some 2) H Q := by
  obtain ⟨a, f, g, z, rfl, t, h1, h2, h3⟩ := h
  refine ⟨a, _, rfl, t, ?_, fun p hp => ?_⟩
  · rintro ⟨_, z⟩
    exact absurd (show (2 : Nat) = 3 from z) (by decide)
  · have sn := same_new hp (.tup (cutV [f, g, z] none (some 2)))
    exact k p _ sn ⟨p, f, g, rfl, tupOf upd_same, h1.up sn, h2.up sn⟩
theorem r_sl {r : V → Option Int → Option Int → Hp → VK → Prop} {te : TE} {tl th : TO} (q : te σ H fun x H1 => tl σ H1 fun l H2 => th σ H2 fun u H3 => r x l u H3 Q) : tSl r te tl th σ H Q := q
theorem r_noP {Q : Option Int → Hp → Prop} (q : Q none H) : tNoPart σ H Q := q
theorem r_part {te : TE} {Q : Option Int → Hp → Prop} (q : te σ H fun x H1 => ∃ i, x = .int i ∧ Q (some i) H1) : tPart te σ H Q := q
theorem r_if {c : TT} {ta tb : TE} (q : c σ H fun b H1 => if b = true then ta σ H1 Q else tb σ H1 Q) : tIf c ta tb σ H Q := q
end
/-- a word and an empty list; a word and two places -/
def Ct0 (K : PySem.W.Frag) (H : Hp) (v : V) (w : Str) (l : Addr) : Prop := ∃ o, v = .ref o ∧ SqT K H o [.str w, .ref l] ∧ H l = some (.lst [])
def Ct2 (K : PySem.W.Frag) (H : Hp) (v : V) (l : Addr) (x y x' y' : Rat) : Prop := ∃ o f g, v = .ref o ∧ SqT K H o [.str "at", .ref l] ∧ H l = some (.lst [f, g]) ∧ Pq K H f x y ∧ Pq K H g x' y'
theorem Ct0.up {K : PySem.W.Frag} {H H' : Hp} {v : V} {w : Str} {l : Addr} (h : Ct0 K H v w l) (s : Same H H') : Ct0 K H' v w l := by
  obtain ⟨o, rfl, t, e⟩ := h
  exact ⟨o, rfl, s.tp t, s _ _ e⟩
theorem Ct2.up {K : PySem.W.Frag} {H H' : Hp} {v : V} {l : Addr} {x y x' y' : Rat} (h : Ct2 K H v l x y x' y') (s : Same H H') : Ct2 K H' v l x y x' y' := by
  obtain ⟨o, f, g, rfl, t, e, h1, h2⟩ := h
  exact ⟨o, f, g, rfl, s.tp t, s _ _ e, h1.up s, h2.up s⟩
def dct0 (w : Str) : PyData := .tuple [.str w, .list []]
def dct2 (x y x' y' : Rat) : PyData := .tuple [.str "at", .list [dpl x y, dpl x' y']]
theorem Ct0.dp {K : PySem.W.Frag} {H : Hp} {v : V} {w : Str} {l : Addr} (h : Ct0 K H v w l) : Dp K H v (dct0 w) := by
  obtain ⟨o, rfl, t, e⟩ := h
  exact .tup t (.cons (.str _) (.cons (.lst (lstOf e) .nil) .nil))
theorem Ct2.dp {K : PySem.W.Frag} {H : Hp} {v : V} {l : Addr} {x y x' y' : Rat} (h : Ct2 K H v l x y x' y') : Dp K H v (dct2 x y x' y') := by
  obtain ⟨o, f, g, rfl, t, e, h1, h2⟩ := h
  exact .tup t (.cons (.str _) (.cons (.lst (lstOf e) (.cons h1.dp (.cons h2.dp .nil))) .nil))
/-- what a line and a circle have in common -/
structure Cd (a b c : Int) (x y s d : Rat) : Prop where
  e : d = s * ((a : Rat) * a + b * b) - (c - a * x - b * y) * (c - a * x - b * y)
/-- the place one way along the line -/
def cX (a b c : Int) (x y r : Rat) : Rat := x + ((a : Rat) * (c - a * x - b * y) + b * r) / ((a : Rat) * a + b * b)
def cY (a b c : Int) (x y r : Rat) : Rat := y + ((b : Rat) * (c - a * x - b * y) - a * r) / ((a : Rat) * a + b * b)
def spCuts (K : PySem.W.Frag) : Sp := fun vs H Q _ => ∃ (v w : V) (a b c : Int) (x y s d : Rat), vs = [v, w] ∧ Lq K H v a b c ∧ Ln a b c ∧ Cq K H w x y s ∧ Sm 2300 a ∧ Sm 2300 b ∧ Sm 2300 c ∧ Sz 211 x ∧ Sz 211 y ∧ Sz 211 s ∧ Cd a b c x y s d ∧
  (d < 0 → ∀ (r : V) (l : Addr) (H' : Hp), Same H H' → H l = none → Ct0 K H' r "miss" l → Q r H') ∧
  (0 ≤ d → (¬ ∃ r : Rat, r * r = d) → ∀ (r : V) (l : Addr) (H' : Hp), Same H H' → H l = none → Ct0 K H' r "root" l → Q r H') ∧
  (∀ t : Rat, 0 ≤ t → t * t = d → ∀ (r : V) (l : Addr) (H' : Hp) (u : Rat), Same H H' → H l = none → (u = if 0 < b then -t else t) → Ct2 K H' r l (cX a b c x y u) (cY a b c x y u) (cX a b c x y (-u)) (cY a b c x y (-u)) → Sz 8000 (cX a b c x y u) → Sz 8000 (cY a b c x y u) → Sz 8000 (cX a b c x y (-u)) → Sz 8000 (cY a b c x y (-u)) → Q r H')
def spReached (K : PySem.W.Frag) : Sp := fun vs H Q _ => ∃ (v w u : V) (a b c X Y W e : Int) (t : Rat), vs = [v, w, .int e, u] ∧ Lq K H v a b c ∧ Lq K H w X Y W ∧ Fq K H u t ∧ 0 < a * a + b * b ∧ 0 < W ∧ Sm 2300 a ∧ Sm 2300 b ∧ Sm 422 X ∧ Sm 422 Y ∧ Sm 422 W ∧ Sm 2724 e ∧ Sm 5660 t.num ∧ Sm 5660 (t.den : Int) ∧ Sm 211 (t.den : Int) ∧
  ∀ (r : V) (H' : Hp) (x y : Rat), Same H H' → Pq K H' r x y → x = (((a : Rat) * a + b * b) * X + a * e + b * t) / (W * ((a : Rat) * a + b * b)) → y = (((a : Rat) * a + b * b) * Y + b * e - a * t) / (W * ((a : Rat) * a + b * b)) → Sz 8000 x → Sz 8000 y → Q r H'
end Mb
namespace Mb
open PySem L2
theorem num_lt {q : Rat} : q.num < 0 ↔ q < 0 := by
  have h := Rat.num_nonneg (q := q)
  constructor
  · intro z
    apply Rat.not_le.mp
    intro y
    have := h.mpr y
    omega
  · intro z
    have : ¬ 0 ≤ q := Rat.not_le.mpr z
    have : ¬ 0 ≤ q.num := fun y => this (h.mp y)
    omega
theorem Sz.dvd {n : Nat} {q : Rat} {t b : Int} (hb : b ≠ 0) (e : q = Rat.divInt t b) (s : Sm n b) : Sm n (q.den : Int) := by
  obtain ⟨_, e2⟩ := low_rat (t := t) hb
  rw [e, ← e2]
  exact s.le (lowB_le hb)
theorem root_sz {r q : Rat} {n m : Nat} (r0 : 0 ≤ r) (e : r * r = q) (s1 : Sm n q.num) (s2 : Sm m (q.den : Int)) : Sm n r.num ∧ Sm m (r.den : Int) := by
  obtain ⟨e1, e2⟩ := sq_parts e
  constructor
  · exact root_sm (Rat.num_nonneg.mpr r0) (by omega) s1
  · exact root_sm (by omega) (by omega) s2
theorem Fq.neg {K : PySem.W.Frag} {H : Hp} {p : Addr} {r : Rat} (h : H p = some (.tup [.int (-r.num), .int r.den])) : Fq K H (.ref p) (-r) := ⟨p, rfl, tupOf (by rw [Rat.neg_num, Rat.neg_den]; exact h)⟩
theorem mul_nn {a b : Rat} (h : 0 ≤ a) (k : 0 ≤ b) : 0 ≤ a * b := Rat.mul_nonneg h k
theorem sq_nnR (a : Rat) : 0 ≤ a * a := by
  rcases (Rat.le_total : 0 ≤ a ∨ a ≤ 0) with h | h
  · exact Rat.mul_nonneg h h
  · have h2 : 0 ≤ -a := by grind
    have := Rat.mul_nonneg h2 h2
    grind
theorem pos_int {W : Int} (h : 0 < W) : (0 : Rat) < (W : Rat) := by
  have : (0 : Rat) ≤ (W : Rat) := by
    rw [← Rat.num_nonneg]
    show 0 ≤ W
    omega
  have n := ratz (show W ≠ 0 by omega)
  grind
theorem Ct0.mk {K : PySem.W.Frag} {H : Hp} {o l : Addr} {w : Str} (h : H o = some (.tup [.str w, .ref l])) (k : H l = some (.lst [])) : Ct0 K H (.ref o) w l := ⟨o, rfl, tupOf h, k⟩
theorem Ct2.mk {K : PySem.W.Frag} {H : Hp} {o l : Addr} {f g : V} {x y x' y' : Rat} (h : H o = some (.tup [.str "at", .ref l])) (k : H l = some (.lst [f, g])) (h1 : Pq K H f x y) (h2 : Pq K H g x' y') : Ct2 K H (.ref o) l x y x' y' := ⟨o, f, g, rfl, tupOf h, k, h1, h2⟩
end Mb
namespace Mb
theorem reach_x {n W x a b e t : Rat} (hn : n ≠ 0) (hW : W ≠ 0) : (n * (x * W) + a * (e * W) + b * (t * W)) / (W * n) = x + (a * e + b * t) / n := by
  have h : W * n ≠ 0 := fun z => by rcases Rat.mul_eq_zero.mp z with z | z <;> contradiction
  have e1 : (n * (x * W) + a * (e * W) + b * (t * W)) = (x * n + (a * e + b * t)) * W := by grind
  rw [e1]
  grind
theorem reach_y {n W x a b e t : Rat} (hn : n ≠ 0) (hW : W ≠ 0) : (n * (x * W) + b * (e * W) - a * (t * W)) / (W * n) = x + (b * e - a * t) / n := by
  have h : W * n ≠ 0 := fun z => by rcases Rat.mul_eq_zero.mp z with z | z <;> contradiction
  have e1 : (n * (x * W) + b * (e * W) - a * (t * W)) = (x * n + (b * e - a * t)) * W := by grind
  rw [e1]
  grind
end Mb
namespace Mb
open PySem L2
theorem sq_iff (q : Rat) : (Sq q.num ∧ Sq (q.den : Int)) ↔ ∃ r : Rat, r * r = q := by
  constructor
  · rintro ⟨⟨a, a0, e1⟩, b, b0, e2⟩
    have bp : 0 < b := by
      have := den_pos q
      by_cases z : b = 0
      · subst z; simp at e2; omega
      · omega
    have gc := root_gcd e1 e2 q.reduced
    obtain ⟨f1, f2⟩ := low_rat (t := a) (show b ≠ 0 by omega)
    obtain ⟨f3, f4⟩ := low_eq (a := a) (b := b) (show b ≠ 0 by omega) bp gc rfl
    have en : (Rat.divInt a b).num = a := by rw [← f1, f3]
    have ed : ((Rat.divInt a b).den : Int) = b := by rw [← f2, f4]
    exact ⟨Rat.divInt a b, by rw [mul_dv, en, ed, e1, e2, Rat.num_divInt_den]⟩
  · rintro ⟨r, e⟩
    obtain ⟨n1, n2⟩ := sq_parts e
    have habs : ∀ z : Int, ∃ a : Int, 0 ≤ a ∧ a * a = z * z := fun z => ⟨z.natAbs, by omega, by
      rcases (show z = (z.natAbs : Int) ∨ z = -(z.natAbs : Int) by omega) with h | h
      · rw [← h]
      · generalize (z.natAbs : Int) = w at h
        rw [h, Int.neg_mul_neg]⟩
    constructor
    · obtain ⟨a, h1, h2⟩ := habs r.num
      exact ⟨a, h1, by rw [h2, n1]⟩
    · obtain ⟨a, h1, h2⟩ := habs (r.den : Int)
      exact ⟨a, h1, by rw [h2, n2]⟩
def spIsSq (K : PySem.W.Frag) : Sp := fun vs H Q _ => ∃ (v : V) (d : Rat), vs = [v] ∧ Fq K H v d ∧ 0 ≤ d.num ∧ Sz 16000 d ∧ ∀ b : Bool, (b = true ↔ ∃ r : Rat, r * r = d) → Q (.bl b) H
theorem sub_sign (x x' : Rat) : (x'.num * x.den - x.num * x'.den = 0 ↔ x = x') ∧ (0 < x'.num * x.den - x.num * x'.den ↔ x < x') := by
  have e : ((x'.num * x.den - x.num * x'.den : Int) : Rat) = (x' - x) * ((x'.den * x.den : Int) : Rat) := by
    have h1 := hden x
    have h2 := hden x'
    simp only [Rat.intCast_sub, Rat.intCast_mul]
    grind
  have p : 0 < x'.den * x.den := Nat.mul_pos (Nat.pos_of_ne_zero x'.den_nz) (Nat.pos_of_ne_zero x.den_nz)
  have pw : (0 : Rat) < ((x'.den * x.den : Int) : Rat) := pos_int (Int.mul_pos (den_pos x') (den_pos x))
  have nw : ((x'.den * x.den : Int) : Rat) ≠ 0 := by grind
  generalize ((x'.den * x.den : Int) : Rat) = B at *
  generalize x'.num * (x.den : Int) - x.num * (x'.den : Int) = t at *
  constructor
  · constructor
    · rintro rfl
      have : (x' - x) * B = 0 := by rw [← e]; rfl
      rcases Rat.mul_eq_zero.mp this with z | z
      · grind
      · exact absurd z nw
    · intro z
      refine cast_inj ?_
      rw [e, z]
      grind
  · constructor
    · intro z
      have tp := pos_int z
      rw [e] at tp
      apply Rat.not_le.mp
      intro y
      have : 0 ≤ (x - x') := by grind
      have := mul_nn this (Rat.le_of_lt pw)
      grind
    · intro z
      have : 0 ≤ x' - x := by grind
      have h := mul_nn this (Rat.le_of_lt pw)
      rw [← e] at h
      have h2 : (0 : Int) ≤ t := by
        have := Rat.num_nonneg.mpr h
        exact this
      by_cases y : t = 0
      · subst y
        have : (x' - x) * B = 0 := by rw [← e]; rfl
        rcases Rat.mul_eq_zero.mp this with z | z
        · grind
        · exact absurd z nw
      · omega
def spAhead (K : PySem.W.Frag) : Sp := fun vs H Q _ => ∃ (v w : V) (x y x' y' : Rat), vs = [v, w] ∧ Pq K H v x y ∧ Pq K H w x' y' ∧ Sz 8000 x ∧ Sz 8000 y ∧ Sz 8000 x' ∧ Sz 8000 y' ∧ ∀ H', Same H H' → Q (.bl (decide (x < x' ∨ (x = x' ∧ y < y')))) H'
inductive GoodC (K : PySem.W.Frag) (H : Hp) (v : V) (d x y s : Rat) : Prop
  | miss (l : Addr) : d < 0 → Ct0 K H v "miss" l → GoodC K H v d x y s
  | root (l : Addr) : 0 ≤ d → (¬ ∃ r : Rat, r * r = d) → Ct0 K H v "root" l → GoodC K H v d x y s
  | at_ (l : Addr) (x1 y1 x2 y2 : Rat) : 0 ≤ d → (∃ r : Rat, r * r = d) → Ct2 K H v l x1 y1 x2 y2 → (x1 - x) * (x1 - x) + (y1 - y) * (y1 - y) = s → (x2 - x) * (x2 - x) + (y2 - y) * (y2 - y) = s → (d = 0 → x1 = x2 ∧ y1 = y2) → (d ≠ 0 → x1 < x2 ∨ (x1 = x2 ∧ y1 < y2)) → Sz 8000 x1 → Sz 8000 y1 → Sz 8000 x2 → Sz 8000 y2 → GoodC K H v d x y s
theorem GoodC.pre {K : PySem.W.Frag} {H : Hp} {v : V} {d x y s : Rat} (h : GoodC K H v d x y s) : ∃ o l w xs, v = .ref o ∧ SqT K H o [.str w, .ref l] ∧ H l = some (.lst xs) := by
  cases h with
  | miss l _ h => obtain ⟨o, rfl, t, e⟩ := h; exact ⟨o, l, _, _, rfl, t, e⟩
  | root l _ _ h => obtain ⟨o, rfl, t, e⟩ := h; exact ⟨o, l, _, _, rfl, t, e⟩
  | at_ l x1 y1 x2 y2 _ _ h => obtain ⟨o, f, g, rfl, t, e, _⟩ := h; exact ⟨o, l, _, _, rfl, t, e⟩
def spGoodC (K : PySem.W.Frag) : Sp := fun vs H Q _ => ∃ (v w u : V) (d x y s : Rat), vs = [v, w, u] ∧ GoodC K H v d x y s ∧ Fq K H w d ∧ Cq K H u x y s ∧ Sz 16000 d ∧ Sz 211 x ∧ Sz 211 y ∧ Sz 211 s ∧ ∀ H', Same H H' → Q (.bl true) H'
def spRadius (K : PySem.W.Frag) : Sp := fun vs H Q _ => ∃ (p : Addr) (n m : Int) (w : V) (e : Rat), vs = [.ref p, w, .int m] ∧ Sr H p n ∧ n ≤ 60000 ∧ Fq K H w e ∧ Sz 54 e ∧ 0 < m ∧ Sm 21 m ∧ ∀ (v : V) (s : Rat) (H' : Hp), But p H H' → Sr H' p (n + 100) → Fq K H' v s → Sz 211 s → Q v H'
end Mb
namespace Mb
open PySem L2
theorem ok_miss : PyData.canLay0 (dct0 "miss") = true := by decide +kernel
theorem ok_rootw : PyData.canLay0 (dct0 "root") = true := by decide +kernel
theorem ok_centre : PyData.canLay0 (dct0 "centre") = true := by decide +kernel
theorem ok_at (x y x' y' : Rat) : PyData.canLay0 (dct2 x y x' y') = true := by
  have h : PyData.canLay0 (.str "at") = true := by decide +kernel
  simp only [dct2, dpl, dq, PyData.canLay0, PyData.canLayAll0, Bool.and_true] at h ⊢
  exact h
theorem shp {d : PyData} (h : PyData.canLay0 d = true) (k : decide (d.depth ≤ 64) = true) : SeqAt.shaped d = true := by
  show (d.canLay0 && decide (d.depth ≤ 64)) = true
  rw [h, k]
  rfl
section
variable {K : PySem.W.Frag} {H : Hp} {Q : VK}
theorem r_eqC0 {v v' : V} {w : Str} {l l' : Addr} (h1 : Ct0 K H v w l) (h2 : Ct0 K H v' w l') (ok : PyData.canLay0 (dct0 w) = true) (k : Q (.bl true) H) : rEqD K v v' H Q := r_eqTrue h1.dp h2.dp (shp ok rfl) ok k
theorem r_neC0 {v v' : V} {w : Str} {l l' : Addr} (h1 : Ct0 K H v w l) (h2 : Ct0 K H v' w l') (ok : PyData.canLay0 (dct0 w) = true) (k : Q (.bl false) H) : rNeD K v v' H Q := r_neTrue h1.dp h2.dp (shp ok rfl) ok k
theorem r_eqC2 {v v' : V} {l l' : Addr} {x y x' y' X Y X' Y' : Rat} (h1 : Ct2 K H v l x y x' y') (h2 : Ct2 K H v' l' X Y X' Y') (e : x = X ∧ y = Y ∧ x' = X' ∧ y' = Y') (k : Q (.bl true) H) : rEqD K v v' H Q := by
  obtain ⟨rfl, rfl, rfl, rfl⟩ := e
  exact r_eqTrue h1.dp h2.dp (shp (ok_at _ _ _ _) rfl) (ok_at _ _ _ _) k
theorem r_neS0 {w w' : Str} (e : w = w') (k : Q (.bl false) H) : rNe (.str w) (.str w') H Q := by
  subst e
  refine ⟨rfl, ?_⟩
  rw [decide_eq_true rfl]
  exact k
end
end Mb
namespace Mb
open PySem L2
theorem Rq.sz {K : PySem.W.Frag} {H : Hp} {v : V} {x : Rat} {n : Nat} (h : Rq K H v x n) : Sz n x := by
  obtain ⟨p, t, b, rfl, h1, nz, rfl, s1, s2⟩ := h
  exact Sz.divInt nz s1 s2
theorem Rq.mono {K : PySem.W.Frag} {H : Hp} {v : V} {x : Rat} {n m : Nat} (h : Rq K H v x n) (l : n ≤ m) : Rq K H v x m := by
  obtain ⟨p, t, b, rfl, h1, nz, e, s1, s2⟩ := h
  exact ⟨p, t, b, rfl, h1, nz, e, s1.mono l, s2.mono l⟩
end Mb
namespace Mb
open PySem L2
theorem r_radius {K : PySem.W.Frag} {H : Hp} {Q : VK} {E : XK} {p : Addr} {n m : Int} {w : V} {e : Rat} {k : Nat} (hp : Sr H p n) (hn : n ≤ 60000) (h : Fq K H w e) (se : Sz k e) (l : Nat.ble k 54 = true) (m0 : 0 < m) (sm : Sm 21 m) (q : ∀ (v : V) (s : Rat) (H' : Hp), But p H H' → Sr H' p (n + 100) → Fq K H' v s → Sz 211 s → Q v H') : spRadius K ([.ref p, w, .int m] ++ []) H Q E :=
  ⟨p, n, m, w, e, rfl, hp, hn, h, se.mono (Nat.le_of_ble_eq_true l), m0, sm, q⟩
theorem r_goodC {K : PySem.W.Frag} {H : Hp} {Q : VK} {E : XK} {v w u : V} {d x y s : Rat} {n : Nat} (hG : GoodC K H v d x y s) (h2 : Fq K H w d) (h3 : Cq K H u x y s) (sd : Sz n d) (l : Nat.ble n 16000 = true) (s1 : Sz 211 x) (s2 : Sz 211 y) (s3 : Sz 211 s) (q : ∀ H', Same H H' → Q (.bl true) H') : spGoodC K ([v, w, u] ++ []) H Q E :=
  ⟨v, w, u, d, x, y, s, rfl, hG, h2, h3, sd.mono (Nat.le_of_ble_eq_true l), s1, s2, s3, q⟩
/-- what line_cuts told, as the law judges it -/
theorem cut_on {a b c : Int} {x y u : Rat} (hl : Ln a b c) : (a : Rat) * cX a b c x y u + b * cY a b c x y u = c := by
  have n := ratz (show a * a + b * b ≠ 0 by have := hl.sq; omega)
  simp only [Rat.intCast_add, Rat.intCast_mul] at n
  unfold cX cY
  grind
theorem cut_ring {a b c : Int} {x y s d u : Rat} (hl : Ln a b c) (hd : Cd a b c x y s d) (e : u * u = d) : (cX a b c x y u - x) * (cX a b c x y u - x) + (cY a b c x y u - y) * (cY a b c x y u - y) = s := by
  have n := ratz (show a * a + b * b ≠ 0 by have := hl.sq; omega)
  simp only [Rat.intCast_add, Rat.intCast_mul] at n
  obtain ⟨ed⟩ := hd
  unfold cX cY
  generalize hn : (a : Rat) * a + b * b = N at *
  generalize he : (c : Rat) - a * x - b * y = E at *
  have e1 : (x + ((a : Rat) * E + b * u) / N - x) * (x + ((a : Rat) * E + b * u) / N - x) + (y + ((b : Rat) * E - a * u) / N - y) * (y + ((b : Rat) * E - a * u) / N - y) = (((a : Rat) * E + b * u) * ((a : Rat) * E + b * u) + ((b : Rat) * E - a * u) * ((b : Rat) * E - a * u)) / (N * N) := by grind
  rw [e1]
  have e2 : ((a : Rat) * E + b * u) * ((a : Rat) * E + b * u) + ((b : Rat) * E - a * u) * ((b : Rat) * E - a * u) = N * (E * E + u * u) := by rw [← hn]; grind
  rw [e2, e, ed]
  grind
theorem cut_order {a b c : Int} {x y t u : Rat} (hl : Ln a b c) (t0 : 0 ≤ t) (tn : t ≠ 0) (hu : u = if 0 < b then -t else t) : cX a b c x y u < cX a b c x y (-u) ∨ (cX a b c x y u = cX a b c x y (-u) ∧ cY a b c x y u < cY a b c x y (-u)) := by
  have np := pos_int hl.sq
  have n := ratz (show a * a + b * b ≠ 0 by have := hl.sq; omega)
  simp only [Rat.intCast_add, Rat.intCast_mul] at n np
  have ex : cX a b c x y (-u) - cX a b c x y u = -2 * (b * u) / ((a : Rat) * a + b * b) := by unfold cX; grind
  have ey : cY a b c x y (-u) - cY a b c x y u = 2 * (a * u) / ((a : Rat) * a + b * b) := by unfold cY; grind
  have tp : 0 < t := by grind
  have ip : 0 < ((a : Rat) * a + b * b)⁻¹ := Rat.inv_pos.mpr np
  have pos : ∀ p q : Rat, 0 < p → 0 < q → 0 < p * q := fun p q h k => Rat.mul_pos h k
  by_cases hb : 0 < b
  · rw [if_pos hb] at hu
    left
    have bp := pos_int hb
    have : 0 < 2 * (b * t) / ((a : Rat) * a + b * b) := by
      rw [Rat.div_def]
      exact pos _ _ (by have := pos _ _ bp tp; grind) ip
    rw [hu] at ex ⊢
    grind
  · rw [if_neg hb] at hu
    by_cases hb0 : b = 0
    · have ap : 0 < a := by have := hl.sg; omega
      have ap' := pos_int ap
      right
      subst hb0
      rw [hu] at ex ey ⊢
      have e0 : cX a 0 c x y (-t) - cX a 0 c x y t = 0 := by rw [ex]; grind
      refine ⟨by grind, ?_⟩
      have : 0 < 2 * (a * t) / ((a : Rat) * a + ((0 : Int) : Rat) * ((0 : Int) : Rat)) := by
        rw [Rat.div_def]
        exact pos _ _ (by have := pos _ _ ap' tp; grind) ip
      grind
    · left
      have bn : 0 < -b := by omega
      have bp := pos_int bn
      rw [Rat.intCast_neg] at bp
      have : 0 < 2 * (-(b : Rat) * t) / ((a : Rat) * a + b * b) := by
        rw [Rat.div_def]
        exact pos _ _ (by have := pos _ _ bp tp; grind) ip
      rw [hu] at ex ⊢
      grind
end Mb
namespace Mb
open PySem L2
section
variable {K : PySem.W.Frag} {H : Hp} {Q : VK} {E : XK} {v w : V} {a b c : Int} {x y s d : Rat} {n1 n2 n3 : Nat}
theorem r_cutM (h1 : Lq K H v a b c) (hl : Ln a b c) (h2 : Cq K H w x y s) (s1 : Sm n1 a) (s2 : Sm n2 b) (s3 : Sm n3 c) (l : Nat.ble (max n1 (max n2 n3)) 2300 = true) (s4 : Sz 211 x) (s5 : Sz 211 y) (s6 : Sz 211 s) (hd : Cd a b c x y s d) (dn : d < 0)
    (k : ∀ (r : V) (l : Addr) (H' : Hp), Same H H' → H l = none → Ct0 K H' r "miss" l → Q r H') : spCuts K ([v, w] ++ []) H Q E := by
  have := Nat.le_of_ble_eq_true l
  refine ⟨v, w, a, b, c, x, y, s, d, rfl, h1, hl, h2, s1.mono (by omega), s2.mono (by omega), s3.mono (by omega), s4, s5, s6, hd, fun _ => k, fun z => absurd dn (Rat.not_lt.mpr z), fun t t0 tt => ?_⟩
  have := sq_nnR t
  rw [tt] at this
  exact absurd dn (Rat.not_lt.mpr this)
theorem r_cutR (h1 : Lq K H v a b c) (hl : Ln a b c) (h2 : Cq K H w x y s) (s1 : Sm n1 a) (s2 : Sm n2 b) (s3 : Sm n3 c) (l : Nat.ble (max n1 (max n2 n3)) 2300 = true) (s4 : Sz 211 x) (s5 : Sz 211 y) (s6 : Sz 211 s) (hd : Cd a b c x y s d) (dp : 0 ≤ d) (no : ¬ ∃ r : Rat, r * r = d)
    (k : ∀ (r : V) (l : Addr) (H' : Hp), Same H H' → H l = none → Ct0 K H' r "root" l → Q r H') : spCuts K ([v, w] ++ []) H Q E := by
  have := Nat.le_of_ble_eq_true l
  exact ⟨v, w, a, b, c, x, y, s, d, rfl, h1, hl, h2, s1.mono (by omega), s2.mono (by omega), s3.mono (by omega), s4, s5, s6, hd, fun z => absurd z (Rat.not_lt.mpr dp), fun _ _ => k, fun t _ tt => absurd ⟨t, tt⟩ no⟩
theorem r_cutA {t u : Rat} (h1 : Lq K H v a b c) (hl : Ln a b c) (h2 : Cq K H w x y s) (s1 : Sm n1 a) (s2 : Sm n2 b) (s3 : Sm n3 c) (l : Nat.ble (max n1 (max n2 n3)) 2300 = true) (s4 : Sz 211 x) (s5 : Sz 211 y) (s6 : Sz 211 s) (hd : Cd a b c x y s d) (t0 : 0 ≤ t) (tt : t * t = d) (hu : u = if 0 < b then -t else t)
    (k : ∀ (r : V) (l : Addr) (H' : Hp), Same H H' → H l = none → Ct2 K H' r l (cX a b c x y u) (cY a b c x y u) (cX a b c x y (-u)) (cY a b c x y (-u)) → Sz 8000 (cX a b c x y u) → Sz 8000 (cY a b c x y u) → Sz 8000 (cX a b c x y (-u)) → Sz 8000 (cY a b c x y (-u)) → Q r H') : spCuts K ([v, w] ++ []) H Q E := by
  have := Nat.le_of_ble_eq_true l
  have dp : 0 ≤ d := by rw [← tt]; exact sq_nnR t
  refine ⟨v, w, a, b, c, x, y, s, d, rfl, h1, hl, h2, s1.mono (by omega), s2.mono (by omega), s3.mono (by omega), s4, s5, s6, hd, fun z => absurd z (Rat.not_lt.mpr dp), fun _ no => absurd ⟨t, tt⟩ no, fun t' t0' tt' r l' H' u' g n hu' k2 z1 z2 z3 z4 => ?_⟩
  have e : t' = t := by
    have f : (t' - t) * (t' + t) = 0 := by grind
    rcases Rat.mul_eq_zero.mp f with z | z
    · grind
    · grind
  subst e
  have eu : u' = u := by rw [hu, hu']
  subst eu
  exact k r l' H' g n k2 z1 z2 z3 z4
end
theorem Lq.but {K : PySem.W.Frag} {H H' : Hp} {v : V} {a b c : Int} {p : Addr} {xs : List V} (h : Lq K H v a b c) (hp : H p = some (.lst xs)) (s : But p H H') : Lq K H' v a b c := by
  obtain ⟨q, rfl, t⟩ := h
  exact ⟨q, rfl, s.tup hp t⟩
theorem Cq.but {K : PySem.W.Frag} {H H' : Hp} {v : V} {x y s : Rat} {p : Addr} {xs : List V} (h : Cq K H v x y s) (hp : H p = some (.lst xs)) (e : But p H H') : Cq K H' v x y s := by
  obtain ⟨a, f, g, k, rfl, t, h1, h2, h3⟩ := h
  exact ⟨a, f, g, k, rfl, e.tup hp t, h1.but hp e, h2.but hp e, h3.but hp e⟩
theorem Ct0.but {K : PySem.W.Frag} {H H' : Hp} {v : V} {w : Str} {l p : Addr} {xs : List V} (h : Ct0 K H v w l) (n : l ≠ p) (hp : H p = some (.lst xs)) (s : But p H H') : Ct0 K H' v w l := by
  obtain ⟨o, rfl, t, e⟩ := h
  exact ⟨o, rfl, s.tup hp t, s _ _ n e⟩
theorem Ct2.but {K : PySem.W.Frag} {H H' : Hp} {v : V} {l p : Addr} {xs : List V} {x y x' y' : Rat} (h : Ct2 K H v l x y x' y') (n : l ≠ p) (hp : H p = some (.lst xs)) (s : But p H H') : Ct2 K H' v l x y x' y' := by
  obtain ⟨o, f, g, rfl, t, e, h1, h2⟩ := h
  exact ⟨o, f, g, rfl, s.tup hp t, s _ _ n e, h1.but hp s, h2.but hp s⟩
theorem r_cut9 {t1 t2 t3 t4 t5 t6 t7 t8 t9 u : TS} {D : Ends} {σ : St} {H : Hp} (R : St → Hp → Prop) (k : ∀ σ1 H1, R σ1 H1 → u D σ1 H1) (h : ∀ N : St → Hp → Prop, (∀ σ1 H1, R σ1 H1 → N σ1 H1) → tSeq t1 (tSeq t2 (tSeq t3 (tSeq t4 (tSeq t5 (tSeq t6 (tSeq t7 (tSeq t8 (tSeq t9 (fun _ => N))))))))) D σ H) : tSeq t1 (tSeq t2 (tSeq t3 (tSeq t4 (tSeq t5 (tSeq t6 (tSeq t7 (tSeq t8 (tSeq t9 u)))))))) D σ H := h (u D) k
end Mb
namespace Mb
open PySem L2
theorem r_bm {K : PySem.W.Frag} {T : String} {r : V → List V → Hp → VK → Prop} {to : TE} {t : TA} {σ : St} {H : Hp} {Q : VK} (q : to σ H fun x H1 => tyV K T x H1 ∧ t σ H1 fun xs H2 => r x xs H2 Q) : tBM K T r to t σ H Q := q
end Mb
namespace Mb
open PySem L2
/-! ### two circles -/
def Eq4 (K : PySem.W.Frag) (H : Hp) (v : V) (m g h k : Int) : Prop := ∃ p, v = .ref p ∧ SqT K H p [.int m, .int g, .int h, .int k]
def spEquation (K : PySem.W.Frag) : Sp := fun vs H Q _ => ∃ (v : V) (x y s : Rat), vs = [v] ∧ Cq K H v x y s ∧ Sz 211 x ∧ Sz 211 y ∧ Sz 211 s ∧
  ∀ (r : V) (H' : Hp) (m g h k : Int), Same H H' → Eq4 K H' r m g h k → 0 < m → (g : Rat) = 2 * x * m → (h : Rat) = 2 * y * m → (k : Rat) = (s - x * x - y * y) * m → Sm 1056 m → Sm 1120 g → Sm 1120 h → Sm 1120 k → Q r H'
def spCommon (K : PySem.W.Frag) : Sp := fun vs H Q _ => ∃ (v w : V) (x y s x' y' s' : Rat), vs = [v, w] ∧ Cq K H v x y s ∧ Cq K H w x' y' s' ∧ ¬ (x = x' ∧ y = y') ∧ Sz 211 x ∧ Sz 211 y ∧ Sz 211 s ∧ Sz 211 x' ∧ Sz 211 y' ∧ Sz 211 s' ∧
  ∀ (r : V) (H' : Hp) (a b c : Int) (g : Rat), Same H H' → Lq K H' r a b c → Ln a b c → g ≠ 0 → g * a = 2 * (x' - x) → g * b = 2 * (y' - y) → g * c = (s - x * x - y * y) - (s' - x' * x' - y' * y') → Sm 2300 a → Sm 2300 b → Sm 2300 c → Q r H'
theorem r_gE {K : PySem.W.Frag} {σ : St} {H : Hp} {Q : St → Hp → Prop} {t : TGs} {v : V} {m g h k : Int} {n : Nat} (e : Eq4 K H v m g h k) (l : 4 = n) (q : t [.int m, .int g, .int h, .int k] σ H Q) : gTup K n t v σ H Q := by
  obtain ⟨p, rfl, e⟩ := e
  exact ⟨p, _, rfl, e, l, q⟩
def spRing (K : PySem.W.Frag) : Sp := fun vs H Q _ => ∃ (v w : V) (x y s x' y' s' : Rat), vs = [v, w] ∧ Cq K H v x y s ∧ Cq K H w x' y' s' ∧ Sz 211 x ∧ Sz 211 y ∧ Sz 211 s ∧ Sz 211 x' ∧ Sz 211 y' ∧ Sz 211 s' ∧
  (x = x' ∧ y = y' → ∀ (r : V) (l : Addr) (H' : Hp), Same H H' → H l = none → Ct0 K H' r "centre" l → Q r H') ∧
  (¬ (x = x' ∧ y = y') → ∀ (a b c : Int) (g d : Rat), Ln a b c → g ≠ 0 → g * a = 2 * (x' - x) → g * b = 2 * (y' - y) → g * c = (s - x * x - y * y) - (s' - x' * x' - y' * y') → Cd a b c x y s d →
    (d < 0 → ∀ (r : V) (l : Addr) (H' : Hp), Same H H' → H l = none → Ct0 K H' r "miss" l → Q r H') ∧
    (0 ≤ d → (¬ ∃ r : Rat, r * r = d) → ∀ (r : V) (l : Addr) (H' : Hp), Same H H' → H l = none → Ct0 K H' r "root" l → Q r H') ∧
    (∀ t : Rat, 0 ≤ t → t * t = d → ∀ (r : V) (l : Addr) (H' : Hp) (u : Rat), Same H H' → H l = none → (u = if 0 < b then -t else t) → Ct2 K H' r l (cX a b c x y u) (cY a b c x y u) (cX a b c x y (-u)) (cY a b c x y (-u)) → Sz 8000 (cX a b c x y u) → Sz 8000 (cY a b c x y u) → Sz 8000 (cX a b c x y (-u)) → Sz 8000 (cY a b c x y (-u)) → Q r H'))
end Mb
namespace Mb
open PySem L2
/-- the law's own d of two circles -/
def dBetw (x y s x' y' s' : Rat) : Rat := s * ((2 * (x' - x)) * (2 * (x' - x)) + (2 * (y' - y)) * (2 * (y' - y))) - (((s - (x * x + y * y)) - (s' - (x' * x' + y' * y'))) - ((2 * (x' - x)) * x + (2 * (y' - y)) * y)) * (((s - (x * x + y * y)) - (s' - (x' * x' + y' * y'))) - ((2 * (x' - x)) * x + (2 * (y' - y)) * y))
def spBetw (K : PySem.W.Frag) : Sp := fun vs H Q _ => ∃ (v w : V) (x y s x' y' s' : Rat), vs = [v, w] ∧ Cq K H v x y s ∧ Cq K H w x' y' s' ∧ Sz 200 x ∧ Sz 200 y ∧ Sz 200 s ∧ Sz 200 x' ∧ Sz 200 y' ∧ Sz 200 s' ∧
  ∀ (r : V) (H' : Hp), Same H H' → Fq K H' r (dBetw x y s x' y' s') → Sz 16000 (dBetw x y s x' y' s') → Q r H'
def spSqOf (K : PySem.W.Frag) : Sp := fun vs H Q _ => ∃ (p : Addr) (n : Int) (v w u : V) (x y x' y' s : Rat), vs = [.ref p, v, w, u] ∧ Sr H p n ∧ n ≤ 60000 ∧ Pq K H v x y ∧ Pq K H w x' y' ∧ Fq K H u s ∧ Sz 11 x ∧ Sz 11 y ∧ Sz 11 x' ∧ Sz 11 y' ∧ Sz 200 s ∧
  ∀ (r : V) (t : Rat) (H' : Hp), But p H H' → Sr H' p (n + 100) → Fq K H' r t → Sz 200 t → Q r H'
def spRings (K : PySem.W.Frag) : Sp := fun vs H Q _ => ∃ (a : Addr) (ns : List Int), vs = [.ref a] ∧ SqL K H a (ns.map V.int) ∧ ns.length ≤ 63 ∧
  ∀ (o : Addr) (v w : V) (x y s x' y' s' : Rat) (H' : Hp), Same H H' → SqT K H' o [v, w] → Cq K H' v x y s → Cq K H' w x' y' s' → Sz 200 x → Sz 200 y → Sz 200 s → Sz 200 x' → Sz 200 y' → Sz 200 s' → Q (.ref o) H'
theorem r_sqOf {K : PySem.W.Frag} {H : Hp} {Q : VK} {E : XK} {p : Addr} {n : Int} {v w u : V} {x y x' y' s : Rat} (hp : Sr H p n) (hn : n ≤ 60000) (h1 : Pq K H v x y) (h2 : Pq K H w x' y') (h3 : Fq K H u s) (s1 : Sz 11 x) (s2 : Sz 11 y) (s3 : Sz 11 x') (s4 : Sz 11 y') (s5 : Sz 200 s) (q : ∀ (r : V) (t : Rat) (H' : Hp), But p H H' → Sr H' p (n + 100) → Fq K H' r t → Sz 200 t → Q r H') : spSqOf K ([.ref p, v, w, u] ++ []) H Q E :=
  ⟨p, n, v, w, u, x, y, x', y', s, rfl, hp, hn, h1, h2, h3, s1, s2, s3, s4, s5, q⟩
theorem r_rings {K : PySem.W.Frag} {H : Hp} {Q : VK} {E : XK} {a : Addr} {ns : List Int} (hS : SqL K H a (ns.map V.int)) (hl : ns.length ≤ 63) (c : ∀ (o : Addr) (v w : V) (x y s x' y' s' : Rat) (H' : Hp), Same H H' → SqT K H' o [v, w] → Cq K H' v x y s → Cq K H' w x' y' s' → Sz 200 x → Sz 200 y → Sz 200 s → Sz 200 x' → Sz 200 y' → Sz 200 s' → Q (.ref o) H') : spRings K ([.ref a] ++ []) H Q E := ⟨a, ns, rfl, hS, hl, c⟩
theorem max_abs {j : Int} {n : Nat} (h : Sm n j) (l : 10 ≤ n) : ∃ z : Int, (if (if j < 0 then -j else j) > 1 then (if j < 0 then -j else j) else 1) = z ∧ 0 < z ∧ Sm n z := by
  refine ⟨_, rfl, ?_, ?_⟩
  · split <;> omega
  · have : Sm n (if j < 0 then -j else j) := by
      split
      · exact h.neg
      · exact h
    generalize (if j < 0 then -j else j) = zz at this
    split
    · exact this
    · exact (show Sm 10 1 by decide).mono l
end Mb
namespace Mb
open PySem L2
/-- the line of the places whose squared distances differ as the circles' s do -/
structure Rad (a b c : Int) (g x y s x' y' s' : Rat) : Prop where
  ln : Ln a b c
  nz : g ≠ 0
  ea : g * a = 2 * (x' - x)
  eb : g * b = 2 * (y' - y)
  ec : g * c = (s - x * x - y * y) - (s' - x' * x' - y' * y')
theorem Rad.swap {a b c : Int} {g x y s x' y' s' : Rat} (h : Rad a b c g x y s x' y' s') : Rad a b c (-g) x' y' s' x y s := by
  obtain ⟨l, n, h1, h2, h3⟩ := h
  exact ⟨l, fun z => n (by grind), by grind, by grind, by grind⟩
theorem Rad.one {a b c a2 b2 c2 : Int} {g g2 x y s x' y' s' : Rat} (h : Rad a b c g x y s x' y' s') (k : Rad a2 b2 c2 g2 x y s x' y' s') : a = a2 ∧ b = b2 ∧ c = c2 := by
  obtain ⟨l, n, h1, h2, h3⟩ := h
  obtain ⟨l2, n2, k1, k2, k3⟩ := k
  have gg : g * g2 ≠ 0 := fun z => by rcases Rat.mul_eq_zero.mp z with z | z <;> contradiction
  have e1 : (g * g2) * ((a : Rat) * b2 - b * a2) = 0 := by grind
  have e2 : (g * g2) * ((a : Rat) * c2 - c * a2) = 0 := by grind
  have e3 : (g * g2) * ((b : Rat) * c2 - c * b2) = 0 := by grind
  refine line_unique l l2 (cast_inj ?_) (cast_inj ?_) (cast_inj ?_)
  · rw [Rat.intCast_mul, Rat.intCast_mul]
    rcases Rat.mul_eq_zero.mp e1 with z | z
    · contradiction
    · grind
  · rw [Rat.intCast_mul, Rat.intCast_mul]
    rcases Rat.mul_eq_zero.mp e2 with z | z
    · contradiction
    · grind
  · rw [Rat.intCast_mul, Rat.intCast_mul]
    rcases Rat.mul_eq_zero.mp e3 with z | z
    · contradiction
    · grind
theorem Rad.cd {a b c : Int} {g x y s x' y' s' d : Rat} (h : Rad a b c g x y s x' y' s') (k : Cd a b c x y s d) : Cd a b c x' y' s' d := by
  obtain ⟨l, n, h1, h2, h3⟩ := h
  obtain ⟨ed⟩ := k
  have ex : x' = x + g * a / 2 := by grind
  have ey : y' = y + g * b / 2 := by grind
  refine ⟨?_⟩
  have es : s' = s - g * (c - a * x - b * y) + g * g * ((a : Rat) * a + b * b) / 4 := by
    subst ex ey
    grind
  rw [ed, es, ex, ey]
  grind
theorem Rad.dB {a b c : Int} {g x y s x' y' s' d : Rat} (h : Rad a b c g x y s x' y' s') (k : Cd a b c x y s d) : dBetw x y s x' y' s' = g * g * d := by
  obtain ⟨l, n, h1, h2, h3⟩ := h
  obtain ⟨ed⟩ := k
  unfold dBetw
  rw [← h1, ← h2, ed]
  have : (s - (x * x + y * y) - (s' - (x' * x' + y' * y'))) = g * c := by grind
  rw [this]
  grind
theorem Rad.cut {a b c : Int} {g x y s x' y' s' u : Rat} (h : Rad a b c g x y s x' y' s') : cX a b c x' y' u = cX a b c x y u ∧ cY a b c x' y' u = cY a b c x y u := by
  obtain ⟨l, n, h1, h2, h3⟩ := h
  have nn := ratz (show a * a + b * b ≠ 0 by have := l.sq; omega)
  simp only [Rat.intCast_add, Rat.intCast_mul] at nn
  have ex : x' = x + g * a / 2 := by grind
  have ey : y' = y + g * b / 2 := by grind
  unfold cX cY
  rw [ex, ey]
  constructor
  · grind
  · grind
theorem Rad.other {a b c : Int} {g x y s x' y' s' X Y : Rat} (h : Rad a b c g x y s x' y' s') (on : (a : Rat) * X + b * Y = c) (e : (X - x) * (X - x) + (Y - y) * (Y - y) = s) : (X - x') * (X - x') + (Y - y') * (Y - y') = s' := by
  obtain ⟨l, n, h1, h2, h3⟩ := h
  have : 2 * (x' - x) * X + 2 * (y' - y) * Y = (s - x * x - y * y) - (s' - x' * x' - y' * y') := by
    rw [← h1, ← h2, ← h3, ← on]
    grind
  grind
end Mb
namespace Mb
open PySem L2
section
variable {K : PySem.W.Frag} {H : Hp} {Q : VK} {E : XK} {v w : V} {x y s x' y' s' d g : Rat} {a b c : Int}
theorem r_ring0 (c1 : Cq K H v x y s) (c2 : Cq K H w x' y' s') (z1 : Sz 200 x) (z2 : Sz 200 y) (z3 : Sz 200 s) (z4 : Sz 200 x') (z5 : Sz 200 y') (z6 : Sz 200 s') (e : x = x' ∧ y = y')
    (k : ∀ (r : V) (l : Addr) (H' : Hp), Same H H' → H l = none → Ct0 K H' r "centre" l → Q r H') : spRing K ([v, w] ++ []) H Q E :=
  ⟨v, w, x, y, s, x', y', s', rfl, c1, c2, z1.mono (by decide), z2.mono (by decide), z3.mono (by decide), z4.mono (by decide), z5.mono (by decide), z6.mono (by decide), fun _ => k, fun z => absurd e z⟩
theorem r_ring1 (c1 : Cq K H v x y s) (c2 : Cq K H w x' y' s') (z1 : Sz 200 x) (z2 : Sz 200 y) (z3 : Sz 200 s) (z4 : Sz 200 x') (z5 : Sz 200 y') (z6 : Sz 200 s') (ne : ¬ (x = x' ∧ y = y'))
    (k : ∀ (a b c : Int) (g d : Rat), Rad a b c g x y s x' y' s' → Cd a b c x y s d →
    (d < 0 → ∀ (r : V) (l : Addr) (H' : Hp), Same H H' → H l = none → Ct0 K H' r "miss" l → Q r H') ∧
    (0 ≤ d → (¬ ∃ r : Rat, r * r = d) → ∀ (r : V) (l : Addr) (H' : Hp), Same H H' → H l = none → Ct0 K H' r "root" l → Q r H') ∧
    (∀ t : Rat, 0 ≤ t → t * t = d → ∀ (r : V) (l : Addr) (H' : Hp) (u : Rat), Same H H' → H l = none → (u = if 0 < b then -t else t) → Ct2 K H' r l (cX a b c x y u) (cY a b c x y u) (cX a b c x y (-u)) (cY a b c x y (-u)) → Sz 8000 (cX a b c x y u) → Sz 8000 (cY a b c x y u) → Sz 8000 (cX a b c x y (-u)) → Sz 8000 (cY a b c x y (-u)) → Q r H')) : spRing K ([v, w] ++ []) H Q E :=
  ⟨v, w, x, y, s, x', y', s', rfl, c1, c2, z1.mono (by decide), z2.mono (by decide), z3.mono (by decide), z4.mono (by decide), z5.mono (by decide), z6.mono (by decide), fun z => absurd z ne, fun _ a b c g d hL gn e1 e2 e3 hd => k a b c g d ⟨hL, gn, e1, e2, e3⟩ hd⟩
theorem r_ringM (c1 : Cq K H v x y s) (c2 : Cq K H w x' y' s') (z1 : Sz 200 x) (z2 : Sz 200 y) (z3 : Sz 200 s) (z4 : Sz 200 x') (z5 : Sz 200 y') (z6 : Sz 200 s') (ne : ¬ (x = x' ∧ y = y')) (h : Rad a b c g x y s x' y' s') (hd : Cd a b c x y s d) (dn : d < 0)
    (k : ∀ (r : V) (l : Addr) (H' : Hp), Same H H' → H l = none → Ct0 K H' r "miss" l → Q r H') : spRing K ([v, w] ++ []) H Q E := by
  refine r_ring1 c1 c2 z1 z2 z3 z4 z5 z6 ne (fun a2 b2 c2 g2 d2 h2 hd2 => ?_)
  obtain ⟨rfl, rfl, rfl⟩ := h.one h2
  have e : d2 = d := by rw [hd.e, hd2.e]
  subst e
  refine ⟨fun _ => k, fun z => absurd dn (Rat.not_lt.mpr z), fun t t0 tt => ?_⟩
  have := sq_nnR t
  rw [tt] at this
  exact absurd dn (Rat.not_lt.mpr this)
theorem r_ringR (c1 : Cq K H v x y s) (c2 : Cq K H w x' y' s') (z1 : Sz 200 x) (z2 : Sz 200 y) (z3 : Sz 200 s) (z4 : Sz 200 x') (z5 : Sz 200 y') (z6 : Sz 200 s') (ne : ¬ (x = x' ∧ y = y')) (h : Rad a b c g x y s x' y' s') (hd : Cd a b c x y s d) (dp : 0 ≤ d) (no : ¬ ∃ r : Rat, r * r = d)
    (k : ∀ (r : V) (l : Addr) (H' : Hp), Same H H' → H l = none → Ct0 K H' r "root" l → Q r H') : spRing K ([v, w] ++ []) H Q E := by
  refine r_ring1 c1 c2 z1 z2 z3 z4 z5 z6 ne (fun a2 b2 c2 g2 d2 h2 hd2 => ?_)
  obtain ⟨rfl, rfl, rfl⟩ := h.one h2
  have e : d2 = d := by rw [hd.e, hd2.e]
  subst e
  exact ⟨fun z => absurd z (Rat.not_lt.mpr dp), fun _ _ => k, fun t _ tt => absurd ⟨t, tt⟩ no⟩
theorem r_ringA {t u : Rat} (c1 : Cq K H v x y s) (c2 : Cq K H w x' y' s') (z1 : Sz 200 x) (z2 : Sz 200 y) (z3 : Sz 200 s) (z4 : Sz 200 x') (z5 : Sz 200 y') (z6 : Sz 200 s') (ne : ¬ (x = x' ∧ y = y')) (h : Rad a b c g x y s x' y' s') (hd : Cd a b c x y s d) (t0 : 0 ≤ t) (tt : t * t = d) (hu : u = if 0 < b then -t else t)
    (k : ∀ (r : V) (l : Addr) (H' : Hp), Same H H' → H l = none → Ct2 K H' r l (cX a b c x y u) (cY a b c x y u) (cX a b c x y (-u)) (cY a b c x y (-u)) → Q r H') : spRing K ([v, w] ++ []) H Q E := by
  refine r_ring1 c1 c2 z1 z2 z3 z4 z5 z6 ne (fun a2 b2 c2 g2 d2 h2 hd2 => ?_)
  obtain ⟨rfl, rfl, rfl⟩ := h.one h2
  have e : d2 = d := by rw [hd.e, hd2.e]
  subst e
  have dp : 0 ≤ d2 := by rw [← tt]; exact sq_nnR t
  refine ⟨fun z => absurd z (Rat.not_lt.mpr dp), fun _ no => absurd ⟨t, tt⟩ no, fun t' t0' tt' r l' H' u' g n hu' k2 _ _ _ _ => ?_⟩
  have e : t' = t := by
    have f : (t' - t) * (t' + t) = 0 := by grind
    rcases Rat.mul_eq_zero.mp f with z | z
    · grind
    · grind
  subst e
  have eu : u' = u := by rw [hu, hu']
  subst eu
  exact k r l' H' g n k2
theorem r_eqFd {p q : Rat} (h1 : Fq K H v p) (h2 : Fq K H w q) (k : Q (.bl (decide (p = q))) H) : rEqD K v w H Q := by
  refine ⟨_, _, h1.dp, h2.dp, rfl, rfl, ?_⟩
  rw [eqv_dq]
  exact k
theorem gg_lt {g d : Rat} (n : g ≠ 0) : g * g * d < 0 ↔ d < 0 := by
  have p := sq_nnR g
  have pp : 0 < g * g := by
    have : g * g ≠ 0 := fun z => by rcases Rat.mul_eq_zero.mp z with z | z <;> contradiction
    grind
  constructor
  · intro z
    apply Rat.not_le.mp
    intro y
    have := mul_nn p y
    grind
  · intro z
    have h1 : 0 < -d := by grind
    have := Rat.mul_pos pp h1
    grind
theorem gg_sq {g d : Rat} (n : g ≠ 0) : (∃ r : Rat, r * r = g * g * d) ↔ ∃ r : Rat, r * r = d := by
  constructor
  · rintro ⟨r, e⟩
    exact ⟨r / g, by grind⟩
  · rintro ⟨r, e⟩
    exact ⟨g * r, by grind⟩
end
end Mb
namespace Mb
theorem GoodC.up {K : PySem.W.Frag} {H H' : L2.Hp} {v : L2.V} {d x y s : Rat} (h : GoodC K H v d x y s) (g : L2.Same H H') : GoodC K H' v d x y s := by
  cases h with
  | miss l h1 h => exact .miss l h1 (h.up g)
  | root l h1 h2 h => exact .root l h1 h2 (h.up g)
  | at_ l x1 y1 x2 y2 h1 h2 h h3 h4 h5 h6 z1 z2 z3 z4 => exact .at_ l x1 y1 x2 y2 h1 h2 (h.up g) h3 h4 h5 h6 z1 z2 z3 z4
end Mb
namespace Mb
open PySem L2
/-! ### small places, lists of places, four places judged -/
def spSmall (K : PySem.W.Frag) : Sp := fun vs H Q _ => ∃ (p : Addr) (n : Int), vs = [.ref p] ∧ Sr H p n ∧ n ≤ 80000 ∧
  ∀ (v : V) (q : Rat) (H' : Hp), But p H H' → Sr H' p (n + 10) → Fq K H' v q → Sz 8 q → Q v H'
def spSmallP (K : PySem.W.Frag) : Sp := fun vs H Q _ => ∃ (p : Addr) (n : Int), vs = [.ref p] ∧ Sr H p n ∧ n ≤ 70000 ∧
  ∀ (v : V) (x y : Rat) (H' : Hp), But p H H' → Sr H' p (n + 20) → Pq K H' v x y → Sz 8 x → Sz 8 y → Q v H'
def spSmallN (K : PySem.W.Frag) : Sp := fun vs H Q _ => ∃ (p : Addr) (n : Int) (w : V) (x y : Rat), vs = [.ref p, w] ∧ Sr H p n ∧ n ≤ 60000 ∧ Pq K H w x y ∧ Sz 8 x ∧ Sz 8 y ∧
  ∀ (v : V) (x y : Rat) (H' : Hp), But p H H' → Sr H' p (n + 40) → Pq K H' v x y → Sz 8 x → Sz 8 y → Q v H'
def spRolled (K : PySem.W.Frag) : Sp := fun vs H Q _ => ∃ (v w u : V) (x y x' y' t : Rat), vs = [v, w, u] ∧ Pq K H v x y ∧ Pq K H w x' y' ∧ Fq K H u t ∧ Sz 8 x ∧ Sz 8 y ∧ Sz 8 x' ∧ Sz 8 y' ∧ Sz 8 t ∧
  ∀ (r : V) (x y : Rat) (H' : Hp), Same H H' → Pq K H' r x y → Sz 200 x → Sz 200 y → Q r H'
/-- a list of places at D -/
def Ps (K : PySem.W.Frag) (H : Hp) (D : Addr) (n : Nat) (vs : List V) : Prop := H D = some (.lst vs) ∧ ∀ v ∈ vs, ∃ x y : Rat, Pq K H v x y ∧ Sz n x ∧ Sz n y
theorem Ps.same {K : PySem.W.Frag} {H H' : Hp} {D : Addr} {n : Nat} {vs : List V} (h : Ps K H D n vs) (s : Same H H') : Ps K H' D n vs :=
  ⟨s _ _ h.1, fun v hv => by obtain ⟨x, y, p, sx, sy⟩ := h.2 v hv; exact ⟨x, y, p.up s, sx, sy⟩⟩
theorem Ps.but {K : PySem.W.Frag} {H H' : Hp} {D p : Addr} {n : Nat} {b : Int} {vs : List V} (h : Ps K H D n vs) (hp : Sr H p b) (nD : D ≠ p) (s : But p H H') : Ps K H' D n vs :=
  ⟨s _ _ nD h.1, fun v hv => by obtain ⟨x, y, q, sx, sy⟩ := h.2 v hv; exact ⟨x, y, q.upB s hp, sx, sy⟩⟩
theorem Ps.mono {K : PySem.W.Frag} {H : Hp} {D : Addr} {n m : Nat} {vs : List V} (h : Ps K H D n vs) (l : n ≤ m) : Ps K H D m vs :=
  ⟨h.1, fun v hv => by obtain ⟨x, y, q, sx, sy⟩ := h.2 v hv; exact ⟨x, y, q, sx.mono l, sy.mono l⟩⟩
theorem Ps.turn {K : PySem.W.Frag} {H : Hp} {D : Addr} {n : Nat} {vs ws : List V} (h : Ps K H D n vs) (k : ∀ v ∈ ws, v ∈ vs ∨ ∃ x y : Rat, Pq K H v x y ∧ Sz n x ∧ Sz n y) : Ps K (upd H D (.lst ws)) D n ws := by
  have b := But.upd D H (.lst ws)
  refine ⟨upd_same, fun v hv => ?_⟩
  have : ∃ x y : Rat, Pq K H v x y ∧ Sz n x ∧ Sz n y := by
    rcases k v hv with z | z
    · exact h.2 v z
    · exact z
  obtain ⟨x, y, q, sx, sy⟩ := this
  exact ⟨x, y, q.but h.1 b, sx, sy⟩
theorem Ps.push {K : PySem.W.Frag} {H : Hp} {D : Addr} {n : Nat} {vs : List V} {v : V} {x y : Rat} (h : Ps K H D n vs) (hv : Pq K H v x y) (sx : Sz n x) (sy : Sz n y) : Ps K (upd H D (.lst (vs ++ [v]))) D n (vs ++ [v]) :=
  h.turn fun u hu => by
    rcases List.mem_append.mp hu with z | z
    · exact .inl z
    · rw [List.mem_singleton.mp z]
      exact .inr ⟨x, y, hv, sx, sy⟩
theorem Ps.set {K : PySem.W.Frag} {H : Hp} {D : Addr} {n i : Nat} {vs : List V} {v : V} {x y : Rat} (h : Ps K H D n vs) (hv : Pq K H v x y) (sx : Sz n x) (sy : Sz n y) : Ps K (upd H D (.lst (vs.set i v))) D n (vs.set i v) :=
  h.turn fun u hu => by
    rcases List.mem_or_eq_of_mem_set hu with z | z
    · exact .inl z
    · subst z
      exact .inr ⟨x, y, hv, sx, sy⟩
theorem Sr.upd {H : Hp} {p D : Addr} {b : Int} {o : HO} (h : Sr H p b) (n : p ≠ D) : Sr (upd H D o) p b := h.but n (But.upd D H o)
theorem Pq.updL {K : PySem.W.Frag} {H : Hp} {D : Addr} {vs : List V} {o : HO} {v : V} {x y : Rat} (h : Pq K H v x y) (hD : H D = some (.lst vs)) : Pq K (upd H D o) v x y := h.but hD (But.upd D H o)
theorem but_updN {p D : Addr} {H H' : Hp} {o : HO} (h : But p H H') (n : H D = none) : But p H (upd H' D o) := fun b o' ne hb => by
  have : b ≠ D := fun z => by rw [z, n] at hb; cases hb
  rw [upd_ne this]
  exact h b o' ne hb
theorem four_of {α : Type} {xs : List α} (h : xs.length = 4) : ∃ a b c d, xs = [a, b, c, d] := match xs, h with
  | [a, b, c, d], _ => ⟨a, b, c, d, rfl⟩
def spFour (K : PySem.W.Frag) : Sp := fun vs H Q _ => ∃ (p : Addr) (v w : V) (x y x' y' : Rat), vs = [.ref p, v, w] ∧ Sr H p 0 ∧ Pq K H v x y ∧ Pq K H w x' y' ∧ Sz 8 x ∧ Sz 8 y ∧ Sz 8 x' ∧ Sz 8 y' ∧
  ∀ (D : Addr) (us : List V) (H' : Hp), But p H H' → us.length = 4 → Ps K H' D 220 us → Q (.ref D) H'
def detQ (x1 y1 x2 y2 x3 y3 x4 y4 : Rat) : Rat := ((x1 - x4) * (x1 - x4) + (y1 - y4) * (y1 - y4)) * ((x2 - x4) * (y3 - y4) - (y2 - y4) * (x3 - x4)) + (((x2 - x4) * (x2 - x4) + (y2 - y4) * (y2 - y4)) * ((x3 - x4) * (y1 - y4) - (y3 - y4) * (x1 - x4)) + ((x3 - x4) * (x3 - x4) + (y3 - y4) * (y3 - y4)) * ((x1 - x4) * (y2 - y4) - (y1 - y4) * (x2 - x4)))
theorem det_key (x1 y1 x2 y2 x3 y3 x4 y4 a b c : Rat) : ((x2 - x1) * a) * (((y3 - y1) * b) * (((x4 - x1) * (x4 - x1) + (y4 - y1) * (y4 - y1)) * c) - (((x3 - x1) * (x3 - x1) + (y3 - y1) * (y3 - y1)) * b) * ((y4 - y1) * c)) + ((y2 - y1) * a) * ((((x3 - x1) * (x3 - x1) + (y3 - y1) * (y3 - y1)) * b) * ((x4 - x1) * c) - ((x3 - x1) * b) * (((x4 - x1) * (x4 - x1) + (y4 - y1) * (y4 - y1)) * c)) + (((x2 - x1) * (x2 - x1) + (y2 - y1) * (y2 - y1)) * a) * (((x3 - x1) * b) * ((y4 - y1) * c) - ((y3 - y1) * b) * ((x4 - x1) * c)) = (-1) * (a * b * c) * detQ x1 y1 x2 y2 x3 y3 x4 y4 := by
  unfold detQ
  grind
def spCrossS (K : PySem.W.Frag) : Sp := fun vs H Q _ => ∃ (v w u : V) (x y x' y' x2 y2 : Rat), vs = [v, w, u] ∧ Pq K H v x y ∧ Pq K H w x' y' ∧ Pq K H u x2 y2 ∧ Sz 220 x ∧ Sz 220 y ∧ Sz 220 x' ∧ Sz 220 y' ∧ Sz 220 x2 ∧ Sz 220 y2 ∧
  ∀ (r : V) (H' : Hp), Same H H' → Rq K H' r ((x - x2) * (y' - y2) - (y - y2) * (x' - x2)) 1767 → Q r H'
theorem r_crossS {K : PySem.W.Frag} {H : Hp} {Q : VK} {E : XK} {v w u : V} {x y x' y' x2 y2 : Rat} (h1 : Pq K H v x y) (h2 : Pq K H w x' y') (h3 : Pq K H u x2 y2) (s1 : Sz 220 x) (s2 : Sz 220 y) (s3 : Sz 220 x') (s4 : Sz 220 y') (s5 : Sz 220 x2) (s6 : Sz 220 y2)
    (c : ∀ (r : V) (H' : Hp), Same H H' → Rq K H' r ((x - x2) * (y' - y2) - (y - y2) * (x' - x2)) 1767 → Q r H') : spCrossS K ([v, w, u] ++ []) H Q E := ⟨v, w, u, x, y, x', y', x2, y2, rfl, h1, h2, h3, s1, s2, s3, s4, s5, s6, c⟩
def spDet (K : PySem.W.Frag) : Sp := fun vs H Q _ => ∃ (v1 v2 v3 v4 : V) (x1 y1 x2 y2 x3 y3 x4 y4 : Rat), vs = [v1, v2, v3, v4] ∧ Pq K H v1 x1 y1 ∧ Pq K H v2 x2 y2 ∧ Pq K H v3 x3 y3 ∧ Pq K H v4 x4 y4 ∧ Sz 220 x1 ∧ Sz 220 y1 ∧ Sz 220 x2 ∧ Sz 220 y2 ∧ Sz 220 x3 ∧ Sz 220 y3 ∧ Sz 220 x4 ∧ Sz 220 y4 ∧
  ∀ (t : Int) (H' : Hp), Same H H' → (t = 0 ↔ detQ x1 y1 x2 y2 x3 y3 x4 y4 = 0) → Q (.int t) H'
def spLast (K : PySem.W.Frag) : Sp := fun vs H Q _ => ∃ (p : Addr) (v1 v2 v3 : V) (x1 y1 x2 y2 x3 y3 : Rat), vs = [.ref p, v1, v2, v3] ∧ Sr H p 0 ∧ Pq K H v1 x1 y1 ∧ Pq K H v2 x2 y2 ∧ Pq K H v3 x3 y3 ∧ Sz 8 x1 ∧ Sz 8 y1 ∧ Sz 8 x2 ∧ Sz 8 y2 ∧ Sz 8 x3 ∧ Sz 8 y3 ∧
  ∀ (v : V) (x y : Rat) (H' : Hp), But p H H' → Pq K H' v x y → Sz 220 x → Sz 220 y → Q v H'
def spLifted (K : PySem.W.Frag) : Sp := fun vs H Q _ => ∃ (v w : V) (x y x' y' : Rat) (n : Nat), vs = [v, w] ∧ Pq K H v x y ∧ Pq K H w x' y' ∧ Sz n x ∧ Sz n y ∧ Sz n x' ∧ Sz n y' ∧ n ≤ 3800 ∧
  ∀ (r : V) (H' : Hp) (X Y Z W : Int), Same H H' → Lq K H' r X Y Z → 0 < W → (X : Rat) = (x' - x) * ((W : Rat) * W) → (Y : Rat) = (y' - y) * ((W : Rat) * W) → (Z : Rat) = ((x' - x) * (x' - x) + (y' - y) * (y' - y)) * ((W : Rat) * W) → Sm (8 * n + 1) X → Sm (8 * n + 1) Y → Sm (8 * n + 3) Z → Q r H'
def spRound (K : PySem.W.Frag) : Sp := fun vs H Q _ => ∃ (v1 v2 v3 v4 : V) (x1 y1 x2 y2 x3 y3 x4 y4 : Rat) (n : Nat), vs = [v1, v2, v3, v4] ∧ Pq K H v1 x1 y1 ∧ Pq K H v2 x2 y2 ∧ Pq K H v3 x3 y3 ∧ Pq K H v4 x4 y4 ∧ Sz n x1 ∧ Sz n y1 ∧ Sz n x2 ∧ Sz n y2 ∧ Sz n x3 ∧ Sz n y3 ∧ Sz n x4 ∧ Sz n y4 ∧ n ≤ 3800 ∧
  ∀ (b : Bool) (H' : Hp), Same H H' → (b = true ↔ detQ x1 y1 x2 y2 x3 y3 x4 y4 = 0) → Q (.bl b) H'
def spAsFar (K : PySem.W.Frag) : Sp := fun vs H Q _ => ∃ (v1 v2 v3 v4 : V) (x1 y1 x2 y2 x3 y3 x4 y4 : Rat) (n : Nat), vs = [v1, v2, v3, v4] ∧ Pq K H v1 x1 y1 ∧ Pq K H v2 x2 y2 ∧ Pq K H v3 x3 y3 ∧ Pq K H v4 x4 y4 ∧ Sz n x1 ∧ Sz n y1 ∧ Sz n x2 ∧ Sz n y2 ∧ Sz n x3 ∧ Sz n y3 ∧ Sz n x4 ∧ Sz n y4 ∧ n ≤ 3800 ∧
  ∀ (b : Bool) (H' : Hp), Same H H' → (b = true ↔ (x1 - x2) * (x1 - x2) + (y1 - y2) * (y1 - y2) = (x3 - x4) * (x3 - x4) + (y3 - y4) * (y3 - y4)) → Q (.bl b) H'
theorem r_yesT {σ : St} {H : Hp} {Q : Bool → Hp → Prop} (q : Q true H) : tYes σ H Q := q
theorem r_keep {A B : Prop} (h : A) : if true = true then A else B := by rw [if_pos rfl]; exact h
theorem r_gLst {K : PySem.W.Frag} {σ : St} {H : Hp} {Q : St → Hp → Prop} {t : TGs} {a : Addr} {xs : List V} {n : Nat} (h : SqL K H a xs) (l : xs.length = n) (q : t xs σ H Q) : gLst K n t (.ref a) σ H Q := ⟨a, xs, rfl, h, l, q⟩
theorem r_four {K : PySem.W.Frag} {H : Hp} {Q : VK} {E : XK} {p : Addr} {v w : V} {x y x' y' : Rat} (hp : Sr H p 0) (h1 : Pq K H v x y) (h2 : Pq K H w x' y') (s1 : Sz 8 x) (s2 : Sz 8 y) (s3 : Sz 8 x') (s4 : Sz 8 y')
    (c : ∀ (D : Addr) (a b c d : V) (xa ya xb yb xc yc xd yd : Rat) (H' : Hp), But p H H' → SqL K H' D [a, b, c, d] → Pq K H' a xa ya → Pq K H' b xb yb → Pq K H' c xc yc → Pq K H' d xd yd → Sz 220 xa → Sz 220 ya → Sz 220 xb → Sz 220 yb → Sz 220 xc → Sz 220 yc → Sz 220 xd → Sz 220 yd → Q (.ref D) H') : spFour K ([.ref p, v, w] ++ []) H Q E := by
  refine ⟨p, v, w, x, y, x', y', rfl, hp, h1, h2, s1, s2, s3, s4, fun D us H' b e ps => ?_⟩
  obtain ⟨ua, ub, uc, ud, rfl⟩ := four_of e
  obtain ⟨xa, ya, pa, ta, tb⟩ := ps.2 ua (by simp)
  obtain ⟨xb, yb, pb, tc, td⟩ := ps.2 ub (by simp)
  obtain ⟨xc, yc, pc, te, tf⟩ := ps.2 uc (by simp)
  obtain ⟨xd, yd, pd, tg, th⟩ := ps.2 ud (by simp)
  exact c D ua ub uc ud _ _ _ _ _ _ _ _ H' b (lstOf ps.1) pa pb pc pd ta tb tc td te tf tg th
theorem r_last {K : PySem.W.Frag} {H : Hp} {Q : VK} {E : XK} {p : Addr} {v1 v2 v3 : V} {x1 y1 x2 y2 x3 y3 : Rat} (hp : Sr H p 0) (h1 : Pq K H v1 x1 y1) (h2 : Pq K H v2 x2 y2) (h3 : Pq K H v3 x3 y3) (s1 : Sz 8 x1) (s2 : Sz 8 y1) (s3 : Sz 8 x2) (s4 : Sz 8 y2) (s5 : Sz 8 x3) (s6 : Sz 8 y3)
    (c : ∀ (v : V) (x y : Rat) (H' : Hp), But p H H' → Pq K H' v x y → Sz 220 x → Sz 220 y → Q v H') : spLast K ([.ref p, v1, v2, v3] ++ []) H Q E := ⟨p, v1, v2, v3, x1, y1, x2, y2, x3, y3, rfl, hp, h1, h2, h3, s1, s2, s3, s4, s5, s6, c⟩
theorem beq_of {b : Bool} {p q : Prop} [Decidable p] (h1 : b = true ↔ q) (h2 : p ↔ q) : (b == decide p) = true := by
  cases b
  · have : ¬ p := fun z => by have := h1.mpr (h2.mp z); cases this
    rw [decide_eq_false this]; rfl
  · rw [decide_eq_true (h2.mpr (h1.mp rfl))]; rfl
theorem _root_.Rat.neg_eq_zero_iff' {a : Rat} : -a = 0 ↔ a = 0 := by constructor <;> intro h <;> grind
theorem det_perm (x1 y1 x2 y2 x3 y3 x4 y4 : Rat) : detQ x3 y3 x4 y4 x2 y2 x1 y1 = -detQ x1 y1 x2 y2 x3 y3 x4 y4 := by
  unfold detQ
  grind
section
variable {K : PySem.W.Frag} {H : Hp} {Q : VK} {E : XK}
theorem r_small {p : Addr} {n : Int} (hp : Sr H p n) (l : n ≤ 80000) (c : ∀ (v : V) (q : Rat) (H' : Hp), But p H H' → Sr H' p (n + 10) → Fq K H' v q → Sz 8 q → Q v H') : spSmall K ([.ref p] ++ []) H Q E := ⟨p, n, rfl, hp, l, c⟩
theorem r_smallP {p : Addr} {n : Int} (hp : Sr H p n) (l : n ≤ 70000) (c : ∀ (v : V) (x y : Rat) (H' : Hp), But p H H' → Sr H' p (n + 20) → Pq K H' v x y → Sz 8 x → Sz 8 y → Q v H') : spSmallP K ([.ref p] ++ []) H Q E := ⟨p, n, rfl, hp, l, c⟩
theorem r_smallN {p : Addr} {n : Int} {w : V} {x y : Rat} (hp : Sr H p n) (l : n ≤ 60000) (hw : Pq K H w x y) (sx : Sz 8 x) (sy : Sz 8 y) (c : ∀ (v : V) (x y : Rat) (H' : Hp), But p H H' → Sr H' p (n + 40) → Pq K H' v x y → Sz 8 x → Sz 8 y → Q v H') : spSmallN K ([.ref p, w] ++ []) H Q E := ⟨p, n, w, x, y, rfl, hp, l, hw, sx, sy, c⟩
theorem r_rolled {v w u : V} {x y x' y' t : Rat} (h1 : Pq K H v x y) (h2 : Pq K H w x' y') (h3 : Fq K H u t) (s1 : Sz 8 x) (s2 : Sz 8 y) (s3 : Sz 8 x') (s4 : Sz 8 y') (s5 : Sz 8 t) (c : ∀ (r : V) (x y : Rat) (H' : Hp), Same H H' → Pq K H' r x y → Sz 200 x → Sz 200 y → Q r H') : spRolled K ([v, w, u] ++ []) H Q E := ⟨v, w, u, x, y, x', y', t, rfl, h1, h2, h3, s1, s2, s3, s4, s5, c⟩
theorem r_det {v1 v2 v3 v4 : V} {x1 y1 x2 y2 x3 y3 x4 y4 : Rat} (h1 : Pq K H v1 x1 y1) (h2 : Pq K H v2 x2 y2) (h3 : Pq K H v3 x3 y3) (h4 : Pq K H v4 x4 y4) (s1 : Sz 220 x1) (s2 : Sz 220 y1) (s3 : Sz 220 x2) (s4 : Sz 220 y2) (s5 : Sz 220 x3) (s6 : Sz 220 y3) (s7 : Sz 220 x4) (s8 : Sz 220 y4)
    (c : ∀ (t : Int) (H' : Hp), Same H H' → (t = 0 ↔ detQ x1 y1 x2 y2 x3 y3 x4 y4 = 0) → Q (.int t) H') : spDet K ([v1, v2, v3, v4] ++ []) H Q E := ⟨v1, v2, v3, v4, x1, y1, x2, y2, x3, y3, x4, y4, rfl, h1, h2, h3, h4, s1, s2, s3, s4, s5, s6, s7, s8, c⟩
theorem r_round {v1 v2 v3 v4 : V} {x1 y1 x2 y2 x3 y3 x4 y4 : Rat} {n1 n2 n3 n4 n5 n6 n7 n8 : Nat} (h1 : Pq K H v1 x1 y1) (h2 : Pq K H v2 x2 y2) (h3 : Pq K H v3 x3 y3) (h4 : Pq K H v4 x4 y4) (s1 : Sz n1 x1) (s2 : Sz n2 y1) (s3 : Sz n3 x2) (s4 : Sz n4 y2) (s5 : Sz n5 x3) (s6 : Sz n6 y3) (s7 : Sz n7 x4) (s8 : Sz n8 y4)
    (l : Nat.ble (max (max (max n1 n2) (max n3 n4)) (max (max n5 n6) (max n7 n8))) 3800 = true) (c : ∀ (b : Bool) (H' : Hp), Same H H' → (b = true ↔ detQ x1 y1 x2 y2 x3 y3 x4 y4 = 0) → Q (.bl b) H') : spRound K ([v1, v2, v3, v4] ++ []) H Q E :=
  ⟨v1, v2, v3, v4, x1, y1, x2, y2, x3, y3, x4, y4, _, rfl, h1, h2, h3, h4, s1.mono (by omega), s2.mono (by omega), s3.mono (by omega), s4.mono (by omega), s5.mono (by omega), s6.mono (by omega), s7.mono (by omega), s8.mono (by omega), Nat.le_of_ble_eq_true l, c⟩
theorem r_asFar {v1 v2 v3 v4 : V} {x1 y1 x2 y2 x3 y3 x4 y4 : Rat} {n1 n2 n3 n4 n5 n6 n7 n8 : Nat} (h1 : Pq K H v1 x1 y1) (h2 : Pq K H v2 x2 y2) (h3 : Pq K H v3 x3 y3) (h4 : Pq K H v4 x4 y4) (s1 : Sz n1 x1) (s2 : Sz n2 y1) (s3 : Sz n3 x2) (s4 : Sz n4 y2) (s5 : Sz n5 x3) (s6 : Sz n6 y3) (s7 : Sz n7 x4) (s8 : Sz n8 y4)
    (l : Nat.ble (max (max (max n1 n2) (max n3 n4)) (max (max n5 n6) (max n7 n8))) 3800 = true) (c : ∀ (b : Bool) (H' : Hp), Same H H' → (b = true ↔ (x1 - x2) * (x1 - x2) + (y1 - y2) * (y1 - y2) = (x3 - x4) * (x3 - x4) + (y3 - y4) * (y3 - y4)) → Q (.bl b) H') : spAsFar K ([v1, v2, v3, v4] ++ []) H Q E :=
  ⟨v1, v2, v3, v4, x1, y1, x2, y2, x3, y3, x4, y4, _, rfl, h1, h2, h3, h4, s1.mono (by omega), s2.mono (by omega), s3.mono (by omega), s4.mono (by omega), s5.mono (by omega), s6.mono (by omega), s7.mono (by omega), s8.mono (by omega), Nat.le_of_ble_eq_true l, c⟩
end
end Mb
namespace Mb
open PySem L2
/-! ### known places on a line and a circle -/
theorem cut_at {a b c : Int} {x y px py : Rat} (hl : Ln a b c) (on : (a : Rat) * px + b * py = c) : cX a b c x y (b * (px - x) - a * (py - y)) = px ∧ cY a b c x y (b * (px - x) - a * (py - y)) = py := by
  have n := ratz (show a * a + b * b ≠ 0 by have := hl.sq; omega)
  simp only [Rat.intCast_add, Rat.intCast_mul] at n
  unfold cX cY
  rw [← on]
  constructor <;> grind
theorem cut_u {a b c : Int} {x y s d px py : Rat} (on : (a : Rat) * px + b * py = c) (rg : (px - x) * (px - x) + (py - y) * (py - y) = s) (hd : Cd a b c x y s d) : (b * (px - x) - a * (py - y)) * (b * (px - x) - a * (py - y)) = d := by
  obtain ⟨e⟩ := hd
  rw [e, ← on, ← rg]
  grind
theorem cut_two {a b c : Int} {x y s d px py qx qy : Rat} (hl : Ln a b c) (hd : Cd a b c x y s d) (onp : (a : Rat) * px + b * py = c) (onq : (a : Rat) * qx + b * qy = c) (rp : (px - x) * (px - x) + (py - y) * (py - y) = s) (rq : (qx - x) * (qx - x) + (qy - y) * (qy - y) = s) (ne : ¬ (px = qx ∧ py = qy)) :
    ∃ t : Rat, 0 ≤ t ∧ t * t = d ∧ ∀ u : Rat, (u = if 0 < b then -t else t) → (cX a b c x y u = px ∧ cY a b c x y u = py ∧ cX a b c x y (-u) = qx ∧ cY a b c x y (-u) = qy ∧ (px < qx ∨ (px = qx ∧ py < qy))) ∨ (cX a b c x y u = qx ∧ cY a b c x y u = qy ∧ cX a b c x y (-u) = px ∧ cY a b c x y (-u) = py ∧ (qx < px ∨ (qx = px ∧ qy < py))) := by
  have ep := cut_at (x := x) (y := y) hl onp
  have eq := cut_at (x := x) (y := y) hl onq
  have up := cut_u onp rp hd
  have uq := cut_u onq rq hd
  generalize (b : Rat) * (px - x) - a * (py - y) = u1 at ep up
  generalize (b : Rat) * (qx - x) - a * (qy - y) = u2 at eq uq
  have opp : u2 = -u1 := by
    have z : (u2 - u1) * (u2 + u1) = 0 := by grind
    rcases Rat.mul_eq_zero.mp z with z | z
    · have : u2 = u1 := by grind
      rw [this] at eq
      exact absurd ⟨ep.1.symm.trans eq.1, ep.2.symm.trans eq.2⟩ ne
    · grind
  subst opp
  have nz : u1 ≠ 0 := fun z => by
    subst z
    rw [show (-0 : Rat) = 0 from rfl] at eq
    exact ne ⟨ep.1.symm.trans eq.1, ep.2.symm.trans eq.2⟩
  obtain ⟨t, t0, tt, ht⟩ : ∃ t : Rat, 0 ≤ t ∧ t * t = d ∧ (t = u1 ∨ t = -u1) := by
    rcases (Rat.le_total : 0 ≤ u1 ∨ u1 ≤ 0) with h | h
    · exact ⟨u1, h, up, .inl rfl⟩
    · exact ⟨-u1, by grind, by grind, .inr rfl⟩
  have tn : t ≠ 0 := fun z => nz (by rcases ht with e | e <;> grind)
  refine ⟨t, t0, tt, fun u hu => ?_⟩
  have ord := cut_order (x := x) (y := y) hl t0 tn hu
  have uc : u = u1 ∨ u = -u1 := by
    rw [hu]
    split <;> rcases ht with e | e
    · exact .inr (by rw [e])
    · exact .inl (by rw [e]; grind)
    · exact .inl e
    · exact .inr e
  rcases uc with e | e
  · rw [e] at ord ⊢
    rw [ep.1, ep.2, eq.1, eq.2] at ord ⊢
    exact .inl ⟨rfl, rfl, rfl, rfl, ord⟩
  · rw [e] at ord ⊢
    rw [show - -u1 = u1 by grind] at ord ⊢
    rw [ep.1, ep.2, eq.1, eq.2] at ord ⊢
    exact .inr ⟨rfl, rfl, rfl, rfl, ord⟩
theorem ahead_not {x y x' y' : Rat} (h : x < x' ∨ (x = x' ∧ y < y')) : ¬ (x' < x ∨ (x' = x ∧ y' < y)) := by
  rintro (k | ⟨k, k'⟩) <;> rcases h with z | ⟨z, z'⟩ <;> grind
def spLThru (K : PySem.W.Frag) : Sp := fun vs H Q _ => ∃ (v w : V) (x y x' y' : Rat), vs = [v, w] ∧ Pq K H v x y ∧ Pq K H w x' y' ∧ Sz 100 x ∧ Sz 100 y ∧ Sz 100 x' ∧ Sz 100 y' ∧ ¬ (x = x' ∧ y = y') ∧
  ∀ (r : V) (H' : Hp) (a b c : Int), Same H H' → Lq K H' r a b c → Ln a b c → (a : Rat) * x + b * y = c → (a : Rat) * x' + b * y' = c → Sm 401 a → Sm 401 b → Sm 401 c → Q r H'
def spBeside (K : PySem.W.Frag) : Sp := fun vs H Q _ => ∃ (v w u : V) (x y x' y' t : Rat), vs = [v, w, u] ∧ Pq K H v x y ∧ Pq K H w x' y' ∧ Fq K H u t ∧ Sz 50 x ∧ Sz 50 y ∧ Sz 50 x' ∧ Sz 50 y' ∧ Sz 50 t ∧
  ∀ (r : V) (H' : Hp), Same H H' → Pq K H' r ((x + x') / 2 - t * (y' - y)) ((y + y') / 2 + t * (x' - x)) → Q r H'
/-- a tuple that begins with two whole numbers -/
def Iv (K : PySem.W.Frag) (H : Hp) (v : V) (m n : Int) : Prop := ∃ (a : Addr) (r : List V), v = .ref a ∧ SqT K H a (.int m :: .int n :: r)
theorem Iv.up {K : PySem.W.Frag} {H H' : Hp} {v : V} {m n : Int} (h : Iv K H v m n) (s : Same H H') : Iv K H' v m n := by
  obtain ⟨a, r, rfl, t⟩ := h
  exact ⟨a, r, rfl, s.tp t⟩
theorem Lq.iv {K : PySem.W.Frag} {H : Hp} {v : V} {a b c : Int} (h : Lq K H v a b c) : Iv K H v a b := by
  obtain ⟨p, rfl, t⟩ := h
  exact ⟨p, _, rfl, t⟩
theorem Iv.mk {K : PySem.W.Frag} {H : Hp} {a : Addr} {m n : Int} (h : H a = some (.tup [.int m, .int n])) : Iv K H (.ref a) m n := ⟨a, [], rfl, tupOf h⟩
def spWideNearI (K : PySem.W.Frag) : Sp := fun vs H Q _ => ∃ (p : Addr) (n i : Int) (m : Nat) (w : V) (x y : Int), vs = [.ref p, .int i, w] ∧ Sr H p n ∧ n ≤ 70000 ∧ 0 < i ∧ i.natAbs ≤ 2 ^ m ∧ Pq K H w (x : Rat) (y : Rat) ∧ Sm m x ∧ Sm m y ∧
  ∀ (v : V) (x y : Int) (H' : Hp), But p H H' → Sr H' p (n + 50) → Pq K H' v (x : Rat) (y : Rat) → Sm m x → Sm m y → Q v H'
theorem r_wideNearI {K : PySem.W.Frag} {H : Hp} {Q : VK} {E : XK} {p : Addr} {n i : Int} {m : Nat} {w : V} {x y : Int} (hp : Sr H p n) (l : n ≤ 70000) (i0 : 0 < i) (im : i.natAbs ≤ 2 ^ m) (hw : Pq K H w (x : Rat) (y : Rat)) (sx : Sm m x) (sy : Sm m y)
    (c : ∀ (v : V) (x y : Int) (H' : Hp), But p H H' → Sr H' p (n + 50) → Pq K H' v (x : Rat) (y : Rat) → Sm m x → Sm m y → Q v H') : spWideNearI K ([.ref p, .int i, w] ++ []) H Q E := ⟨p, n, i, m, w, x, y, rfl, hp, l, i0, im, hw, sx, sy, c⟩
theorem sz_half {k i j l m : Int} (h1 : Sm 47 k) (h2 : Sm 47 i) (h3 : Sm 47 j) (h4 : Sm 47 l) (h5 : Sm 47 m) : Sz 150 (((i : Rat) + j) / 2 - (k : Rat) * ((m : Rat) - l)) := by
  have tw : Sm 2 (2 : Int) := by decide
  have e : ((i : Rat) + j) / 2 - (k : Rat) * ((m : Rat) - l) = Rat.divInt (i + j - 2 * k * (m - l)) 2 := by
    rw [Rat.divInt_eq_div]
    simp only [Rat.intCast_sub, Rat.intCast_add, Rat.intCast_mul]
    grind
  rw [e]
  exact Sz.divInt (by decide) ((Sm.subm (Sm.addm h2 h3) (Sm.mul (Sm.mul tw h1) (Sm.subm h5 h4))).mono (by decide)) (tw.mono (by decide))
theorem sz_half' {k i j l m : Int} (h1 : Sm 47 k) (h2 : Sm 47 i) (h3 : Sm 47 j) (h4 : Sm 47 l) (h5 : Sm 47 m) : Sz 150 (((i : Rat) + j) / 2 + (k : Rat) * ((m : Rat) - l)) := by
  have tw : Sm 2 (2 : Int) := by decide
  have e : ((i : Rat) + j) / 2 + (k : Rat) * ((m : Rat) - l) = Rat.divInt (i + j + 2 * k * (m - l)) 2 := by
    rw [Rat.divInt_eq_div]
    simp only [Rat.intCast_sub, Rat.intCast_add, Rat.intCast_mul]
    grind
  rw [e]
  exact Sz.divInt (by decide) ((Sm.addm (Sm.addm h2 h3) (Sm.mul (Sm.mul tw h1) (Sm.subm h5 h4))).mono (by decide)) (tw.mono (by decide))
theorem sz_rad {k i j l m : Int} (h1 : Sm 47 k) (h2 : Sm 47 i) (h3 : Sm 47 j) (h4 : Sm 47 l) (h5 : Sm 47 m) : Sz 200 ((((j : Rat) - i) * ((j : Rat) - i) + ((m : Rat) - l) * ((m : Rat) - l)) * (1 / 4 + (k : Rat) * k)) := by
  have fo : Sm 3 (4 : Int) := by decide
  have on : Sm 3 (1 : Int) := by decide
  have e : (((j : Rat) - i) * ((j : Rat) - i) + ((m : Rat) - l) * ((m : Rat) - l)) * (1 / 4 + (k : Rat) * k) = Rat.divInt (((j - i) * (j - i) + (m - l) * (m - l)) * (1 + 4 * k * k)) 4 := by
    rw [Rat.divInt_eq_div]
    simp only [Rat.intCast_sub, Rat.intCast_add, Rat.intCast_mul]
    grind
  rw [e]
  exact Sz.divInt (by decide) ((Sm.mul (Sm.addm (Sm.mul (Sm.subm h3 h2) (Sm.subm h3 h2)) (Sm.mul (Sm.subm h5 h4) (Sm.subm h5 h4))) (Sm.addm on (Sm.mul (Sm.mul fo h1) h1))).mono (by decide)) (fo.mono (by decide))
def spOff (K : PySem.W.Frag) : Sp := fun vs H Q _ => ∃ (v w u : V) (x y t : Rat) (m n : Int), vs = [v, w, u] ∧ Pq K H v x y ∧ Iv K H w m n ∧ Fq K H u t ∧ Sz 50 x ∧ Sz 50 y ∧ Sz 50 t ∧ Sm 20 m ∧ Sm 20 n ∧
  ∀ (r : V) (H' : Hp), Same H H' → Pq K H' r (x + t * m) (y + t * n) → Q r H'
def spLAbout (K : PySem.W.Frag) : Sp := fun vs H Q _ => ∃ (v w : V) (x y x' y' : Rat), vs = [v, w] ∧ Pq K H v x y ∧ Pq K H w x' y' ∧ Sz 211 x ∧ Sz 211 y ∧ Sz 211 x' ∧ Sz 211 y' ∧
  ∀ (r : V) (H' : Hp), Same H H' → Cq K H' r x y ((x - x') * (x - x') + (y - y') * (y - y')) → Q r H'
def spInOrder (K : PySem.W.Frag) : Sp := fun vs H Q _ => ∃ (v w : V) (x y x' y' : Rat), vs = [v, w] ∧ Pq K H v x y ∧ Pq K H w x' y' ∧ Sz 8000 x ∧ Sz 8000 y ∧ Sz 8000 x' ∧ Sz 8000 y' ∧
  ∀ (l : Addr) (H' : Hp) (f g : V), Same H H' → H' l = some (.lst [f, g]) → ((¬ (x' < x ∨ (x' = x ∧ y' < y)) ∧ f = v ∧ g = w) ∨ ((x' < x ∨ (x' = x ∧ y' < y)) ∧ f = w ∧ g = v)) → Q (.ref l) H'
section
variable {K : PySem.W.Frag} {H : Hp} {Q : VK} {E : XK}
theorem r_lthru {v w : V} {x y x' y' : Rat} {n1 n2 n3 n4 : Nat} (h1 : Pq K H v x y) (h2 : Pq K H w x' y') (s1 : Sz n1 x) (s2 : Sz n2 y) (s3 : Sz n3 x') (s4 : Sz n4 y') (l : Nat.ble (max (max n1 n2) (max n3 n4)) 100 = true) (ne : ¬ (x = x' ∧ y = y'))
    (c : ∀ (r : V) (H' : Hp) (a b c : Int), Same H H' → Lq K H' r a b c → Ln a b c → (a : Rat) * x + b * y = c → (a : Rat) * x' + b * y' = c → Sm 401 a → Sm 401 b → Sm 401 c → Q r H') : spLThru K ([v, w] ++ []) H Q E := by
  have := Nat.le_of_ble_eq_true l
  exact ⟨v, w, x, y, x', y', rfl, h1, h2, s1.mono (by omega), s2.mono (by omega), s3.mono (by omega), s4.mono (by omega), ne, c⟩
theorem r_beside {v w u : V} {x y x' y' t : Rat} (h1 : Pq K H v x y) (h2 : Pq K H w x' y') (h3 : Fq K H u t) (s1 : Sz 50 x) (s2 : Sz 50 y) (s3 : Sz 50 x') (s4 : Sz 50 y') (s5 : Sz 50 t)
    (c : ∀ (r : V) (H' : Hp), Same H H' → Pq K H' r ((x + x') / 2 - t * (y' - y)) ((y + y') / 2 + t * (x' - x)) → Q r H') : spBeside K ([v, w, u] ++ []) H Q E := ⟨v, w, u, x, y, x', y', t, rfl, h1, h2, h3, s1, s2, s3, s4, s5, c⟩
theorem r_off {v w u : V} {x y t : Rat} {m n : Int} {n1 n2 n3 n4 n5 : Nat} (h1 : Pq K H v x y) (h2 : Iv K H w m n) (h3 : Fq K H u t) (s1 : Sz n1 x) (s2 : Sz n2 y) (s3 : Sz n3 t) (l : Nat.ble (max n1 (max n2 n3)) 50 = true) (s4 : Sm n4 m) (s5 : Sm n5 n) (l2 : Nat.ble (max n4 n5) 20 = true)
    (c : ∀ (r : V) (H' : Hp), Same H H' → Pq K H' r (x + t * m) (y + t * n) → Q r H') : spOff K ([v, w, u] ++ []) H Q E := by
  have := Nat.le_of_ble_eq_true l
  have := Nat.le_of_ble_eq_true l2
  exact ⟨v, w, u, x, y, t, m, n, rfl, h1, h2, h3, s1.mono (by omega), s2.mono (by omega), s3.mono (by omega), s4.mono (by omega), s5.mono (by omega), c⟩
theorem r_labout {v w : V} {x y x' y' : Rat} {n1 n2 n3 n4 : Nat} (h1 : Pq K H v x y) (h2 : Pq K H w x' y') (s1 : Sz n1 x) (s2 : Sz n2 y) (s3 : Sz n3 x') (s4 : Sz n4 y') (l : Nat.ble (max (max n1 n2) (max n3 n4)) 211 = true)
    (c : ∀ (r : V) (H' : Hp), Same H H' → Cq K H' r x y ((x - x') * (x - x') + (y - y') * (y - y')) → Q r H') : spLAbout K ([v, w] ++ []) H Q E := by
  have := Nat.le_of_ble_eq_true l
  exact ⟨v, w, x, y, x', y', rfl, h1, h2, s1.mono (by omega), s2.mono (by omega), s3.mono (by omega), s4.mono (by omega), c⟩
theorem r_ixI0 {v : V} {m n : Int} (h : Iv K H v m n) (k : Q (.int m) H) : rIxT K v (.int 0) H Q := by
  obtain ⟨a, r, rfl, t⟩ := h
  exact ⟨a, _, 0, _, rfl, rfl, t, by unfold atI ixN; rw [if_pos (by decide), if_pos (by simp only [List.length_cons]; omega)]; rfl, k⟩
theorem r_ixI1 {v : V} {m n : Int} (h : Iv K H v m n) (k : Q (.int n) H) : rIxT K v (.int 1) H Q := by
  obtain ⟨a, r, rfl, t⟩ := h
  exact ⟨a, _, 1, _, rfl, rfl, t, by unfold atI ixN; rw [if_pos (by decide), if_pos (by simp only [List.length_cons]; omega)]; rfl, k⟩
end
end Mb
namespace Mb
open PySem L2
/-! ### known places on two circles -/
def Dg (e n : Nat) (xp yp xq yq t : Rat) : Prop := (∃ i l j m k : Int, xp = i ∧ yp = l ∧ xq = j ∧ yq = m ∧ t = k ∧ Sm 47 i ∧ Sm 47 l ∧ Sm 47 j ∧ Sm 47 m ∧ Sm e k) ∨ (Sz 11 xp ∧ Sz 11 yp ∧ Sz 11 xq ∧ Sz 11 yq ∧ Sz n t)
theorem Dg.one {xp yp xq yq t : Rat} (h : Dg 47 11 xp yp xq yq t) : Dg 47 11 xp yp xq yq ((1 : Int) : Rat) := by
  rcases h with ⟨i, l, j, m, k, e1, e2, e3, e4, _, h1, h2, h3, h4, _⟩ | ⟨h1, h2, h3, h4, _⟩
  · exact .inl ⟨i, l, j, m, 1, e1, e2, e3, e4, rfl, h1, h2, h3, h4, by decide⟩
  · exact .inr ⟨h1, h2, h3, h4, Sz.int (n := 11) (i := 1) (by decide) (by decide)⟩
theorem Dg.up {xp yp xq yq t : Rat} (h : Dg 47 11 xp yp xq yq t) : Dg 48 23 xp yp xq yq t := by
  rcases h with ⟨i, l, j, m, k, e1, e2, e3, e4, e5, h1, h2, h3, h4, h5⟩ | ⟨h1, h2, h3, h4, h5⟩
  · exact .inl ⟨i, l, j, m, k, e1, e2, e3, e4, e5, h1, h2, h3, h4, h5.mono (by decide)⟩
  · exact .inr ⟨h1, h2, h3, h4, h5.mono (by decide)⟩
theorem Dg.dbl {xp yp xq yq t : Rat} (h : Dg 47 11 xp yp xq yq t) : Dg 48 23 xp yp xq yq (t + t) := by
  rcases h with ⟨i, l, j, m, k, e1, e2, e3, e4, rfl, h1, h2, h3, h4, h5⟩ | ⟨h1, h2, h3, h4, h5⟩
  · exact .inl ⟨i, l, j, m, k + k, e1, e2, e3, e4, by rw [Rat.intCast_add], h1, h2, h3, h4, (Sm.addm h5 h5).mono (by decide)⟩
  · exact .inr ⟨h1, h2, h3, h4, (h5.add h5).mono (by decide)⟩
theorem sz2_half {k i j l m : Int} (h1 : Sm 48 k) (h2 : Sm 47 i) (h3 : Sm 47 j) (h4 : Sm 47 l) (h5 : Sm 47 m) : Sz 200 (((i : Rat) + j) / 2 - (k : Rat) * ((m : Rat) - l)) := by
  have tw : Sm 2 (2 : Int) := by decide
  have e : ((i : Rat) + j) / 2 - (k : Rat) * ((m : Rat) - l) = Rat.divInt (i + j - 2 * k * (m - l)) 2 := by
    rw [Rat.divInt_eq_div]
    simp only [Rat.intCast_sub, Rat.intCast_add, Rat.intCast_mul]
    grind
  rw [e]
  exact Sz.divInt (by decide) ((Sm.subm (Sm.addm h2 h3) (Sm.mul (Sm.mul tw h1) (Sm.subm h5 h4))).mono (by decide)) (tw.mono (by decide))
theorem sz2_half' {k i j l m : Int} (h1 : Sm 48 k) (h2 : Sm 47 i) (h3 : Sm 47 j) (h4 : Sm 47 l) (h5 : Sm 47 m) : Sz 200 (((i : Rat) + j) / 2 + (k : Rat) * ((m : Rat) - l)) := by
  have tw : Sm 2 (2 : Int) := by decide
  have e : ((i : Rat) + j) / 2 + (k : Rat) * ((m : Rat) - l) = Rat.divInt (i + j + 2 * k * (m - l)) 2 := by
    rw [Rat.divInt_eq_div]
    simp only [Rat.intCast_sub, Rat.intCast_add, Rat.intCast_mul]
    grind
  rw [e]
  exact Sz.divInt (by decide) ((Sm.addm (Sm.addm h2 h3) (Sm.mul (Sm.mul tw h1) (Sm.subm h5 h4))).mono (by decide)) (tw.mono (by decide))
theorem sz2_rad {k i j l m : Int} (h1 : Sm 48 k) (h2 : Sm 47 i) (h3 : Sm 47 j) (h4 : Sm 47 l) (h5 : Sm 47 m) : Sz 200 ((((j : Rat) - i) * ((j : Rat) - i) + ((m : Rat) - l) * ((m : Rat) - l)) * (1 / 4 + (k : Rat) * k)) := by
  have fo : Sm 3 (4 : Int) := by decide
  have on : Sm 3 (1 : Int) := by decide
  have e : (((j : Rat) - i) * ((j : Rat) - i) + ((m : Rat) - l) * ((m : Rat) - l)) * (1 / 4 + (k : Rat) * k) = Rat.divInt (((j - i) * (j - i) + (m - l) * (m - l)) * (1 + 4 * k * k)) 4 := by
    rw [Rat.divInt_eq_div]
    simp only [Rat.intCast_sub, Rat.intCast_add, Rat.intCast_mul]
    grind
  rw [e]
  exact Sz.divInt (by decide) ((Sm.mul (Sm.addm (Sm.mul (Sm.subm h3 h2) (Sm.subm h3 h2)) (Sm.mul (Sm.subm h5 h4) (Sm.subm h5 h4))) (Sm.addm on (Sm.mul (Sm.mul fo h1) h1))).mono (by decide)) (fo.mono (by decide))
theorem Dg.sizes {xp yp xq yq t : Rat} (h : Dg 48 23 xp yp xq yq t) : Sz 200 ((xp + xq) / 2 - t * (yq - yp)) ∧ Sz 200 ((yp + yq) / 2 + t * (xq - xp)) ∧ Sz 200 (((xq - xp) * (xq - xp) + (yq - yp) * (yq - yp)) * (1 / 4 + t * t)) ∧ Sz 50 xp ∧ Sz 50 yp ∧ Sz 50 xq ∧ Sz 50 yq ∧ Sz 50 t := by
  rcases h with ⟨i, l, j, m, k, rfl, rfl, rfl, rfl, rfl, h1, h2, h3, h4, h5⟩ | ⟨h1, h2, h3, h4, h5⟩
  · exact ⟨sz2_half h5 h1 h3 h2 h4, sz2_half' h5 h2 h4 h1 h3, sz2_rad h5 h1 h3 h2 h4, Sz.mono (Sz.int h1 (by decide)) (by decide), Sz.mono (Sz.int h2 (by decide)) (by decide), Sz.mono (Sz.int h3 (by decide)) (by decide), Sz.mono (Sz.int h4 (by decide)) (by decide), Sz.mono (Sz.int h5 (by decide)) (by decide)⟩
  · have tw : Sz 8 (2 : Rat) := Sz.lit (by decide) (by decide)
    have qu : Sz 8 (1 / 4 : Rat) := Sz.lit (by decide +kernel) (by decide +kernel)
    exact ⟨Sz.mono (((h1.add h3).div tw (by decide)).sub (h5.mul (h4.sub h2))) (by decide), Sz.mono (((h2.add h4).div tw (by decide)).add (h5.mul (h3.sub h1))) (by decide), Sz.mono ((((h3.sub h1).mul (h3.sub h1)).add ((h4.sub h2).mul (h4.sub h2))).mul (qu.add (h5.mul h5))) (by decide), h1.mono (by decide), h2.mono (by decide), h3.mono (by decide), h4.mono (by decide), h5.mono (by decide)⟩
theorem rad_on {a b c : Int} {g x y s x' y' s' px py : Rat} (h : Rad a b c g x y s x' y' s') (rp : (px - x) * (px - x) + (py - y) * (py - y) = s) (rp' : (px - x') * (px - x') + (py - y') * (py - y') = s') : (a : Rat) * px + b * py = c := by
  have ea := h.ea
  have eb := h.eb
  have ec := h.ec
  have z : g * ((a : Rat) * px + b * py - c) = 0 := by
    have : g * ((a : Rat) * px + b * py - c) = (g * a) * px + (g * b) * py - g * c := by grind
    rw [this, ea, eb, ec, ← rp, ← rp']
    grind
  rcases Rat.mul_eq_zero.mp z with z | z
  · exact absurd z h.nz
  · grind
theorem ring_known {a b c : Int} {g x y s x' y' s' d px py qx qy : Rat} (h : Rad a b c g x y s x' y' s') (hd : Cd a b c x y s d) (rp : (px - x) * (px - x) + (py - y) * (py - y) = s) (rp' : (px - x') * (px - x') + (py - y') * (py - y') = s') (rq : (qx - x) * (qx - x) + (qy - y) * (qy - y) = s) (rq' : (qx - x') * (qx - x') + (qy - y') * (qy - y') = s')
    (cs : ¬ (px = qx ∧ py = qy) ∨ ((px = qx ∧ py = qy) ∧ (x' - x) * (py - y) = (y' - y) * (px - x))) :
    ∃ t : Rat, 0 ≤ t ∧ t * t = d ∧ ∀ u : Rat, (u = if 0 < b then -t else t) → (cX a b c x y u = px ∧ cY a b c x y u = py ∧ cX a b c x y (-u) = qx ∧ cY a b c x y (-u) = qy ∧ ¬ (qx < px ∨ (qx = px ∧ qy < py))) ∨ (cX a b c x y u = qx ∧ cY a b c x y u = qy ∧ cX a b c x y (-u) = px ∧ cY a b c x y (-u) = py ∧ (qx < px ∨ (qx = px ∧ qy < py))) := by
  have onp := rad_on h rp rp'
  have onq := rad_on h rq rq'
  rcases cs with ne | ⟨⟨rfl, rfl⟩, col⟩
  · obtain ⟨t, t0, tt, k⟩ := cut_two h.ln hd onp onq rp rq ne
    refine ⟨t, t0, tt, fun u hu => ?_⟩
    rcases k u hu with ⟨e1, e2, e3, e4, o⟩ | z
    · exact .inl ⟨e1, e2, e3, e4, ahead_not o⟩
    · exact .inr z
  · have uu := cut_u onp rp hd
    have ec := cut_at (x := x) (y := y) h.ln onp
    have ea := h.ea
    have eb := h.eb
    have e0 : (b : Rat) * (px - x) - a * (py - y) = 0 := by
      have z : g * ((b : Rat) * (px - x) - a * (py - y)) = 0 := by
        have : g * ((b : Rat) * (px - x) - a * (py - y)) = (g * b) * (px - x) - (g * a) * (py - y) := by grind
        rw [this, ea, eb]
        grind
      rcases Rat.mul_eq_zero.mp z with z | z
      · exact absurd z h.nz
      · exact z
    rw [e0] at uu ec
    refine ⟨0, Rat.le_refl, uu, fun u hu => ?_⟩
    have : u = 0 := by rw [hu]; split <;> rfl
    subst this
    rw [show (-0 : Rat) = 0 from rfl, ec.1, ec.2]
    exact .inl ⟨rfl, rfl, rfl, rfl, by grind⟩
theorem r_ringK {K : PySem.W.Frag} {H : Hp} {Q : VK} {E : XK} {v w : V} {x y s x' y' s' px py qx qy : Rat} (c1 : Cq K H v x y s) (c2 : Cq K H w x' y' s') (z1 : Sz 200 x) (z2 : Sz 200 y) (z3 : Sz 200 s) (z4 : Sz 200 x') (z5 : Sz 200 y') (z6 : Sz 200 s') (ne : ¬ (x = x' ∧ y = y'))
    (rp : (px - x) * (px - x) + (py - y) * (py - y) = s) (rp' : (px - x') * (px - x') + (py - y') * (py - y') = s') (rq : (qx - x) * (qx - x) + (qy - y) * (qy - y) = s) (rq' : (qx - x') * (qx - x') + (qy - y') * (qy - y') = s')
    (cs : ¬ (px = qx ∧ py = qy) ∨ ((px = qx ∧ py = qy) ∧ (x' - x) * (py - y) = (y' - y) * (px - x)))
    (k : ∀ (r : V) (l : Addr) (H' : Hp), Same H H' → (Ct2 K H' r l px py qx qy ∧ ¬ (qx < px ∨ (qx = px ∧ qy < py))) ∨ (Ct2 K H' r l qx qy px py ∧ (qx < px ∨ (qx = px ∧ qy < py))) → Q r H') : spRing K ([v, w] ++ []) H Q E := by
  refine r_ring1 c1 c2 z1 z2 z3 z4 z5 z6 ne (fun a b c g d h hd => ?_)
  obtain ⟨t, t0, tt, kk⟩ := ring_known h hd rp rp' rq rq' cs
  have dp : 0 ≤ d := by rw [← tt]; exact sq_nnR t
  refine ⟨fun z => absurd z (Rat.not_lt.mpr dp), fun _ no => absurd ⟨t, tt⟩ no, fun t' t0' tt' r l H' u gs _ hu kf _ _ _ _ => ?_⟩
  have e : t' = t := by
    have z : (t' - t) * (t' + t) = 0 := by grind
    rcases Rat.mul_eq_zero.mp z with z | z
    · grind
    · grind
  subst e
  refine k r l H' gs ?_
  rcases kk u hu with ⟨e1, e2, e3, e4, o⟩ | ⟨e1, e2, e3, e4, o⟩
  · rw [e1, e2, e3, e4] at kf
    exact .inl ⟨kf, o⟩
  · rw [e1, e2, e3, e4] at kf
    exact .inr ⟨kf, o⟩
end Mb
namespace Mb
open PySem L2
/-! ### circles that meet -/
theorem r_thruL {K : PySem.W.Frag} {H : Hp} {Q : VK} {E : XK} {v w : V} {x y x' y' : Rat} {n n2 m m2 : Nat} (h1 : Pq K H v x y) (h2 : Pq K H w x' y') (s1 : Sz n x) (s2 : Sz n2 y) (s3 : Sz m x') (s4 : Sz m2 y') (l : Nat.ble (max n n2 + max m m2) 3800 = true) (ne : ¬ (x = x' ∧ y = y'))
    (c : ∀ (r : V) (H' : Hp) (a b c : Int), Same H H' → Lq K H' r a b c → Ln a b c → (a : Rat) * x + b * y = c → (a : Rat) * x' + b * y' = c → Sm (max n n2 + max n n2 + (max m m2 + max m m2) + 1) a → Sm (max n n2 + max n n2 + (max m m2 + max m m2) + 1) b → Sm (max n n2 + max n n2 + (max m m2 + max m m2) + 1) c → Q r H') : spThruO K ([v, w] ++ []) H Q E := by
  refine r_thruO h1 h2 s1 s2 s3 s4 l (fun r H' g k z => ?_)
  obtain ⟨a, b, c9, e, t1, t2, t3⟩ := z ne
  rw [e] at k
  obtain ⟨_, hL, o1, o2⟩ := thr_spec e
  exact c r H' a b c9 g k hL o1 o2 t1 t2 t3
/-- three is no square -/
theorem no3 (m n : Nat) (h : m * m = 3 * (n * n)) : n = 0 := by
  induction n using Nat.strongRecOn generalizing m with
  | ind n ih =>
    by_cases z : n = 0
    · exact z
    have d : m % 3 = 0 := by
      have h3 : (m * m) % 3 = 0 := by omega
      rw [Nat.mul_mod] at h3
      have : m % 3 = 0 ∨ m % 3 = 1 ∨ m % 3 = 2 := by omega
      rcases this with e | e | e
      · exact e
      · rw [e] at h3; exact absurd h3 (by decide)
      · rw [e] at h3; exact absurd h3 (by decide)
    obtain ⟨k, rfl⟩ : ∃ k, m = 3 * k := ⟨m / 3, by omega⟩
    have e : n * n = 3 * (k * k) := by
      have : 3 * k * (3 * k) = 3 * (3 * (k * k)) := by
        rw [Nat.mul_assoc, Nat.mul_left_comm k 3 k]
      omega
    have d2 : n % 3 = 0 := by
      have h3 : (n * n) % 3 = 0 := by omega
      rw [Nat.mul_mod] at h3
      have : n % 3 = 0 ∨ n % 3 = 1 ∨ n % 3 = 2 := by omega
      rcases this with e | e | e
      · exact e
      · rw [e] at h3; exact absurd h3 (by decide)
      · rw [e] at h3; exact absurd h3 (by decide)
    obtain ⟨j, rfl⟩ : ∃ j, n = 3 * j := ⟨n / 3, by omega⟩
    have e2 : k * k = 3 * (j * j) := by
      have : 3 * j * (3 * j) = 3 * (3 * (j * j)) := by
        rw [Nat.mul_assoc, Nat.mul_left_comm j 3 j]
      omega
    have := ih j (by omega) k e2
    omega
theorem no3R (r k : Rat) (nz : k ≠ 0) (h : r * r = 3 * (k * k)) : False := by
  have hr := hden r
  have hk := hden k
  have dr := ratz (den_ne r)
  have dk := ratz (den_ne k)
  have e : ((r.num * k.den * (r.num * k.den) : Int) : Rat) = ((3 * ((k.num * r.den) * (k.num * r.den)) : Int) : Rat) := by
    simp only [Rat.intCast_mul]
    rw [← hr, ← hk]
    have : ((3 : Int) : Rat) = 3 := rfl
    rw [this]
    grind
  have e2 := cast_inj e
  have e3 : (r.num * k.den).natAbs * (r.num * k.den).natAbs = 3 * ((k.num * r.den).natAbs * (k.num * r.den).natAbs) := by
    have := congrArg Int.natAbs e2
    simp only [Int.natAbs_mul] at this ⊢
    exact this
  have z := no3 _ _ e3
  have z2 : k.num * r.den = 0 := Int.natAbs_eq_zero.mp z
  rcases Int.mul_eq_zero.mp z2 with z3 | z3
  · exact nz (Rat.num_eq_zero.mp z3)
  · exact den_ne r z3
theorem det_round {x1 y1 x2 y2 x3 y3 x4 y4 px py s : Rat} (h1 : (x1 - px) * (x1 - px) + (y1 - py) * (y1 - py) = s) (h2 : (x2 - px) * (x2 - px) + (y2 - py) * (y2 - py) = s) (h3 : (x3 - px) * (x3 - px) + (y3 - py) * (y3 - py) = s) (h4 : (x4 - px) * (x4 - px) + (y4 - py) * (y4 - py) = s) : detQ x1 y1 x2 y2 x3 y3 x4 y4 = 0 := by
  have : detQ x1 y1 x2 y2 x3 y3 x4 y4 = ((x1 - px) * (x1 - px) + (y1 - py) * (y1 - py) - s) * ((x2 - x4) * (y3 - y4) - (y2 - y4) * (x3 - x4)) + ((x2 - px) * (x2 - px) + (y2 - py) * (y2 - py) - s) * ((x3 - x4) * (y1 - y4) - (y3 - y4) * (x1 - x4)) + ((x3 - px) * (x3 - px) + (y3 - py) * (y3 - py) - s) * ((x1 - x4) * (y2 - y4) - (y1 - y4) * (x2 - x4)) - ((x4 - px) * (x4 - px) + (y4 - py) * (y4 - py) - s) * (((x2 - x4) * (y3 - y4) - (y2 - y4) * (x3 - x4)) + ((x3 - x4) * (y1 - y4) - (y3 - y4) * (x1 - x4)) + ((x1 - x4) * (y2 - y4) - (y1 - y4) * (x2 - x4))) := by
    unfold detQ
    grind
  rw [this, h1, h2, h3, h4]
  grind
def spTwo (K : PySem.W.Frag) : Sp := fun vs H Q _ => ∃ (f v w : V) (l : Addr) (x y x' y' : Rat), vs = [f, v, w] ∧ Pq K H v x y ∧ Pq K H w x' y' ∧ Sz 8000 x ∧ Sz 8000 y ∧ Sz 8000 x' ∧ Sz 8000 y' ∧
  ((Ct2 K H f l x y x' y' ∧ ¬ (x' < x ∨ (x' = x ∧ y' < y))) ∨ (Ct2 K H f l x' y' x y ∧ (x' < x ∨ (x' = x ∧ y' < y)))) ∧ ∀ H', Same H H' → Q (.bl true) H'
def spTouching (K : PySem.W.Frag) : Sp := fun vs H Q _ => ∃ (v w u : V) (x y x' y' s : Rat), vs = [v, w, u] ∧ Pq K H v x y ∧ Pq K H w x' y' ∧ Cq K H u x y s ∧ Sz 8 x ∧ Sz 8 y ∧ Sz 8 x' ∧ Sz 8 y' ∧ Sz 211 s ∧ ¬ (x = x' ∧ y = y') ∧ s = (x' - x) * (x' - x) + (y' - y) * (y' - y) ∧ ∀ H', Same H H' → Q (.bl true) H'
/-- a line upright on the way from one place to another -/
theorem up_wayK {a b A B C : Int} {x y x' y' : Rat} (hL : Ln A B C) (o1 : (A : Rat) * x + B * y = C) (o2 : (A : Rat) * x' + B * y' = C) (r : RUp a b A B) : (b : Rat) * (x' - x) = a * (y' - y) := by
  have n := hL.nz
  unfold RUp at r
  have e : (A : Rat) * (x' - x) + B * (y' - y) = 0 := by grind
  by_cases hA : A = 0
  · have hB : (B : Rat) ≠ 0 := ratz (fun z => n ⟨hA, z⟩)
    rw [hA] at e r
    have z0 : ((0 : Int) : Rat) = 0 := rfl
    rw [z0] at e r
    have y0 : (B : Rat) * (y' - y) = 0 := by grind
    have b0 : (B : Rat) * b = 0 := by grind
    have e1 : y' - y = 0 := by
      rcases Rat.mul_eq_zero.mp y0 with z | z
      · exact absurd z hB
      · exact z
    have e2 : (b : Rat) = 0 := by
      rcases Rat.mul_eq_zero.mp b0 with z | z
      · exact absurd z hB
      · exact z
    rw [e1, e2]
    grind
  · have hA' : (A : Rat) ≠ 0 := ratz hA
    have z : (A : Rat) * ((b : Rat) * (x' - x) - a * (y' - y)) = 0 := by grind
    rcases Rat.mul_eq_zero.mp z with z | z
    · exact absurd z hA'
    · grind
theorem way_nz {a b : Int} {c : Int} {x y x' y' : Rat} (hL : Ln a b c) (ne : ¬ (x = x' ∧ y = y')) (p : (b : Rat) * (x' - x) = a * (y' - y)) : (a : Rat) * (x' - x) + b * (y' - y) ≠ 0 := by
  intro z
  have n := ratz (show a * a + b * b ≠ 0 by have := hL.sq; omega)
  simp only [Rat.intCast_add, Rat.intCast_mul] at n
  have e1 : ((a : Rat) * a + b * b) * (x' - x) = 0 := by grind
  have e2 : ((a : Rat) * a + b * b) * (y' - y) = 0 := by grind
  refine ne ⟨?_, ?_⟩
  · rcases Rat.mul_eq_zero.mp e1 with z | z
    · exact absurd z n
    · grind
  · rcases Rat.mul_eq_zero.mp e2 with z | z
    · exact absurd z n
    · grind
/-- the square of the way, times a line's square, where the way is along its numbers -/
theorem way_sq {a b : Int} {x y x' y' : Rat} (p : (b : Rat) * (x' - x) = a * (y' - y)) : ((x' - x) * (x' - x) + (y' - y) * (y' - y)) * ((a : Rat) * a + b * b) = ((a : Rat) * (x' - x) + b * (y' - y)) * ((a : Rat) * (x' - x) + b * (y' - y)) := by
  have : ((x' - x) * (x' - x) + (y' - y) * (y' - y)) * ((a : Rat) * a + b * b) - ((a : Rat) * (x' - x) + b * (y' - y)) * ((a : Rat) * (x' - x) + b * (y' - y)) = ((b : Rat) * (x' - x) - a * (y' - y)) * ((b : Rat) * (x' - x) - a * (y' - y)) := by grind
  have z : (b : Rat) * (x' - x) - a * (y' - y) = 0 := by grind
  rw [z] at this
  grind
theorem r_cutK {K : PySem.W.Frag} {H : Hp} {Q : VK} {E : XK} {v w : V} {a b c : Int} {x y s px py qx qy : Rat} {n1 n2 n3 : Nat} (h1 : Lq K H v a b c) (hl : Ln a b c) (h2 : Cq K H w x y s) (s1 : Sm n1 a) (s2 : Sm n2 b) (s3 : Sm n3 c) (l : Nat.ble (max n1 (max n2 n3)) 2300 = true) (s4 : Sz 211 x) (s5 : Sz 211 y) (s6 : Sz 211 s)
    (onp : (a : Rat) * px + b * py = c) (onq : (a : Rat) * qx + b * qy = c) (rp : (px - x) * (px - x) + (py - y) * (py - y) = s) (rq : (qx - x) * (qx - x) + (qy - y) * (qy - y) = s) (cs : ¬ (px = qx ∧ py = qy) ∨ ((px = qx ∧ py = qy) ∧ (b : Rat) * (px - x) = a * (py - y)))
    (k : ∀ (r : V) (l : Addr) (H' : Hp), Same H H' → (Ct2 K H' r l px py qx qy ∧ ¬ (qx < px ∨ (qx = px ∧ qy < py))) ∨ (Ct2 K H' r l qx qy px py ∧ (qx < px ∨ (qx = px ∧ qy < py))) → Q r H') : spCuts K ([v, w] ++ []) H Q E := by
  obtain ⟨d, hd⟩ : ∃ d, Cd a b c x y s d := ⟨_, ⟨rfl⟩⟩
  rcases cs with ne | ⟨⟨rfl, rfl⟩, col⟩
  · obtain ⟨t, t0, tt, kk⟩ := cut_two hl hd onp onq rp rq ne
    refine r_cutA h1 hl h2 s1 s2 s3 l s4 s5 s6 hd t0 tt rfl (fun rf l Hf gf nf kf _ _ _ _ => ?_)
    rcases kk _ rfl with ⟨e1, e2, e3, e4, o⟩ | ⟨e1, e2, e3, e4, o⟩
    · rw [e1, e2, e3, e4] at kf
      exact k _ _ _ gf (.inl ⟨kf, ahead_not o⟩)
    · rw [e1, e2, e3, e4] at kf
      exact k _ _ _ gf (.inr ⟨kf, o⟩)
  · have uu := cut_u onp rp hd
    have ec := cut_at (x := x) (y := y) hl onp
    have e0 : (b : Rat) * (px - x) - a * (py - y) = 0 := by grind
    rw [e0] at uu ec
    refine r_cutA (t := 0) (u := 0) h1 hl h2 s1 s2 s3 l s4 s5 s6 hd (Rat.le_refl) uu (by split <;> rfl) (fun rf l Hf gf nf kf _ _ _ _ => ?_)
    rw [show (-0 : Rat) = 0 from rfl, ec.1, ec.2] at kf
    exact k _ _ _ gf (.inl ⟨kf, by grind⟩)
theorem beq_tt {b : Bool} (h : b = true) : (b == true) = true := by rw [h]; rfl
/-- a place mirrored in a line: where it lies -/
theorem mir_on {a1 b1 a b : Int} {c1 c : Int} {x y fx fy : Rat} (h1 : Ln a1 b1 c1) (r : RUp a1 b1 a b) (on : (a : Rat) * x + b * y = c) (sq : (b1 : Rat) * (fx - x) = a1 * (fy - y)) : (a : Rat) * (fx + fx - x) + b * (fy + fy - y) = c := by
  unfold RUp at r
  have n := ratz (show a1 * a1 + b1 * b1 ≠ 0 by have := h1.sq; omega)
  simp only [Rat.intCast_add, Rat.intCast_mul] at n
  have z : ((a1 : Rat) * a1 + b1 * b1) * ((a : Rat) * (fx - x) + b * (fy - y)) = 0 := by
    have : ((a1 : Rat) * a1 + b1 * b1) * ((a : Rat) * (fx - x) + b * (fy - y)) = ((a1 : Rat) * a + b1 * b) * ((a1 : Rat) * (fx - x) + b1 * (fy - y)) + ((b1 : Rat) * (fx - x) - a1 * (fy - y)) * (b1 * a - a1 * b) := by grind
    rw [this, r, sq]
    grind
  rcases Rat.mul_eq_zero.mp z with z | z
  · exact absurd z n
  · grind
/-- and how far it is from the line's places -/
theorem mir_far {a1 b1 : Int} {c1 : Int} {x y fx fy px py : Rat} (h1 : Ln a1 b1 c1) (onp : (a1 : Rat) * px + b1 * py = c1) (onf : (a1 : Rat) * fx + b1 * fy = c1) (sq : (b1 : Rat) * (fx - x) = a1 * (fy - y)) : (fx + fx - x - px) * (fx + fx - x - px) + (fy + fy - y - py) * (fy + fy - y - py) = (x - px) * (x - px) + (y - py) * (y - py) := by
  have n := ratz (show a1 * a1 + b1 * b1 ≠ 0 by have := h1.sq; omega)
  simp only [Rat.intCast_add, Rat.intCast_mul] at n
  have e : (a1 : Rat) * (fx - px) + b1 * (fy - py) = 0 := by grind
  have z : ((a1 : Rat) * a1 + b1 * b1) * ((fx - x) * (fx - px) + (fy - y) * (fy - py)) = 0 := by
    have : ((a1 : Rat) * a1 + b1 * b1) * ((fx - x) * (fx - px) + (fy - y) * (fy - py)) = ((a1 : Rat) * (fx - x) + b1 * (fy - y)) * ((a1 : Rat) * (fx - px) + b1 * (fy - py)) + ((b1 : Rat) * (fx - x) - a1 * (fy - y)) * (b1 * (fx - px) - a1 * (fy - py)) := by grind
    rw [this, e, sq]
    grind
  have z2 : (fx - x) * (fx - px) + (fy - y) * (fy - py) = 0 := by
    rcases Rat.mul_eq_zero.mp z with z | z
    · exact absurd z n
    · exact z
  have : (fx + fx - x - px) * (fx + fx - x - px) + (fy + fy - y - py) * (fy + fy - y - py) - ((x - px) * (x - px) + (y - py) * (y - py)) = 4 * ((fx - x) * (fx - px) + (fy - y) * (fy - py)) := by grind
  rw [z2] at this
  grind
/-- two ways that a line's numbers are square to are along one another -/
theorem par_of {a b : Int} {c : Int} {p q r s : Rat} (h : Ln a b c) (e1 : (a : Rat) * p + b * q = 0) (e2 : (a : Rat) * r + b * s = 0) : p * s = q * r := by
  have n := ratz (show a * a + b * b ≠ 0 by have := h.sq; omega)
  simp only [Rat.intCast_add, Rat.intCast_mul] at n
  have z : ((a : Rat) * a + b * b) * (p * s - q * r) = 0 := by
    have : ((a : Rat) * a + b * b) * (p * s - q * r) = ((a : Rat) * p + b * q) * (a * s - b * r) + ((a : Rat) * r + b * s) * (b * p - a * q) := by grind
    rw [this, e1, e2]
    grind
  rcases Rat.mul_eq_zero.mp z with z | z
  · exact absurd z n
  · grind
theorem r_twoK {K : PySem.W.Frag} {H : Hp} {Q : VK} {E : XK} {f v w : V} {l : Addr} {x y x' y' : Rat} (h1 : Pq K H v x y) (h2 : Pq K H w x' y') (s1 : Sz 8000 x) (s2 : Sz 8000 y) (s3 : Sz 8000 x') (s4 : Sz 8000 y') (cs : (Ct2 K H f l x y x' y' ∧ ¬ (x' < x ∨ (x' = x ∧ y' < y))) ∨ (Ct2 K H f l x' y' x y ∧ (x' < x ∨ (x' = x ∧ y' < y)))) (q : ∀ H', Same H H' → Q (.bl true) H') : spTwo K ([f, v, w] ++ []) H Q E := ⟨f, v, w, l, x, y, x', y', rfl, h1, h2, s1, s2, s3, s4, cs, q⟩
theorem r_touch {K : PySem.W.Frag} {H : Hp} {Q : VK} {E : XK} {v w u : V} {x y x' y' s : Rat} (h1 : Pq K H v x y) (h2 : Pq K H w x' y') (h3 : Cq K H u x y s) (s1 : Sz 8 x) (s2 : Sz 8 y) (s3 : Sz 8 x') (s4 : Sz 8 y') (s5 : Sz 211 s) (ne : ¬ (x = x' ∧ y = y')) (es : s = (x' - x) * (x' - x) + (y' - y) * (y' - y)) (q : ∀ H', Same H H' → Q (.bl true) H') : spTouching K ([v, w, u] ++ []) H Q E := ⟨v, w, u, x, y, x', y', s, rfl, h1, h2, h3, s1, s2, s3, s4, s5, ne, es, q⟩
end Mb
namespace Mb
open PySem L2
/-! ### what is told of four places, and of four places moved -/
theorem para {u v p q r s : Rat} (nz : ¬ (u = 0 ∧ v = 0)) (e1 : u * p + v * q = 0) (e2 : u * r + v * s = 0) : p * s = q * r := by
  have n : u * u + v * v ≠ 0 := by
    intro z
    have hu := sq_nnR u
    have hv := sq_nnR v
    have zu : u * u = 0 := Rat.le_antisymm (by grind) hu
    have zv : v * v = 0 := Rat.le_antisymm (by grind) hv
    refine nz ⟨?_, ?_⟩
    · rcases Rat.mul_eq_zero.mp zu with z | z <;> exact z
    · rcases Rat.mul_eq_zero.mp zv with z | z <;> exact z
  have z : (u * u + v * v) * (p * s - q * r) = 0 := by
    have : (u * u + v * v) * (p * s - q * r) = (u * p + v * q) * (u * s - v * r) + (u * r + v * s) * (v * p - u * q) := by grind
    rw [this, e1, e2]
    grind
  rcases Rat.mul_eq_zero.mp z with z | z
  · exact absurd z n
  · grind
theorem sq2_nz {u v : Rat} (nz : ¬ (u = 0 ∧ v = 0)) : u * u + v * v ≠ 0 := by
  intro z
  have hu := sq_nnR u
  have hv := sq_nnR v
  have zu : u * u = 0 := Rat.le_antisymm (by grind) hu
  have zv : v * v = 0 := Rat.le_antisymm (by grind) hv
  refine nz ⟨?_, ?_⟩
  · rcases Rat.mul_eq_zero.mp zu with z | z <;> exact z
  · rcases Rat.mul_eq_zero.mp zv with z | z <;> exact z
/-- what is square to a way is a share of the way turned -/
theorem perp {a b dx dy : Rat} (nz : ¬ (dx = 0 ∧ dy = 0)) (e : a * dx + b * dy = 0) : ∃ k : Rat, a = k * dy ∧ b = -(k * dx) := by
  have n := sq2_nz nz
  refine ⟨(a * dy - b * dx) / (dx * dx + dy * dy), ?_, ?_⟩
  · have : a * (dx * dx + dy * dy) = (a * dy - b * dx) * dy := by grind
    grind
  · have : b * (dx * dx + dy * dy) = -((a * dy - b * dx) * dx) := by grind
    grind
def crs (x1 y1 x2 y2 x3 y3 x4 y4 : Rat) : Rat := (x2 - x1) * (y4 - y3) - (y2 - y1) * (x4 - x3)
def dtt (x1 y1 x2 y2 x3 y3 x4 y4 : Rat) : Rat := (x2 - x1) * (x4 - x3) + (y2 - y1) * (y4 - y3)
def tau (x1 y1 x2 y2 x3 y3 x4 y4 : Rat) : Rat := ((x3 - x1) * (y4 - y3) - (y3 - y1) * (x4 - x3)) / crs x1 y1 x2 y2 x3 y3 x4 y4
def sgm (x1 y1 x2 y2 x y : Rat) : Rat := ((x - x1) * (x2 - x1) + (y - y1) * (y2 - y1)) / ((x2 - x1) * (x2 - x1) + (y2 - y1) * (y2 - y1))
def ftX (x1 y1 x2 y2 x y : Rat) : Rat := x1 + sgm x1 y1 x2 y2 x y * (x2 - x1)
def ftY (x1 y1 x2 y2 x y : Rat) : Rat := y1 + sgm x1 y1 x2 y2 x y * (y2 - y1)
def oMeet (x1 y1 x2 y2 x3 y3 x4 y4 : Rat) : Option (Rat × Rat) := if crs x1 y1 x2 y2 x3 y3 x4 y4 = 0 then none else some (x1 + tau x1 y1 x2 y2 x3 y3 x4 y4 * (x2 - x1), y1 + tau x1 y1 x2 y2 x3 y3 x4 y4 * (y2 - y1))
theorem d_nz {x1 y1 x2 y2 : Rat} (ne : ¬ (x1 = x2 ∧ y1 = y2)) : ¬ (x2 - x1 = 0 ∧ y2 - y1 = 0) := fun z => ne ⟨by have := z.1; grind, by have := z.2; grind⟩
theorem k_nz {a b c : Int} {k dx dy : Rat} (h : Ln a b c) (e1 : (a : Rat) = k * dy) (e2 : (b : Rat) = -(k * dx)) : k ≠ 0 := by
  intro z
  rw [z] at e1 e2
  have ea : a = 0 := cast_inj (by rw [e1]; grind)
  have eb : b = 0 := cast_inj (by rw [e2]; grind)
  exact h.nz ⟨ea, eb⟩
theorem mul_iff {k m x : Rat} (hk : k ≠ 0) (hm : m ≠ 0) : k * m * x = 0 ↔ x = 0 := by
  constructor
  · intro z
    rcases Rat.mul_eq_zero.mp z with z | z
    · rcases Rat.mul_eq_zero.mp z with z | z <;> contradiction
    · exact z
  · intro z
    rw [z]
    grind
theorem int_cross {a b a' b' : Int} : a * b' = b * a' ↔ (a : Rat) * b' - b * a' = 0 := by
  constructor
  · intro z
    have := congrArg (Int.cast (R := Rat)) z
    simp only [Rat.intCast_mul] at this
    grind
  · intro z
    refine cast_inj ?_
    simp only [Rat.intCast_mul]
    grind
/-- where the lines through two and two places meet -/
theorem mt_two {a b c a' b' c' : Int} {x1 y1 x2 y2 x3 y3 x4 y4 : Rat} (h : Ln a b c) (h' : Ln a' b' c') (o1 : (a : Rat) * x1 + b * y1 = c) (o2 : (a : Rat) * x2 + b * y2 = c) (o3 : (a' : Rat) * x3 + b' * y3 = c') (o4 : (a' : Rat) * x4 + b' * y4 = c') (n1 : ¬ (x1 = x2 ∧ y1 = y2)) (n2 : ¬ (x3 = x4 ∧ y3 = y4)) :
    mt a b c a' b' c' = oMeet x1 y1 x2 y2 x3 y3 x4 y4 := by
  obtain ⟨k, e1, e2⟩ := perp (d_nz n1) (show (a : Rat) * (x2 - x1) + b * (y2 - y1) = 0 by grind)
  obtain ⟨k', e3, e4⟩ := perp (d_nz n2) (show (a' : Rat) * (x4 - x3) + b' * (y4 - y3) = 0 by grind)
  have kz := k_nz h e1 e2
  have kz' := k_nz h' e3 e4
  have cr : (a : Rat) * b' - b * a' = k * k' * crs x1 y1 x2 y2 x3 y3 x4 y4 := by
    rw [e1, e2, e3, e4]
    unfold crs
    grind
  have iff_ : a * b' = b * a' ↔ crs x1 y1 x2 y2 x3 y3 x4 y4 = 0 := by
    rw [int_cross, cr]
    exact mul_iff kz kz'
  by_cases z : crs x1 y1 x2 y2 x3 y3 x4 y4 = 0
  · unfold oMeet
    rw [mt_none (iff_.mpr z), if_pos z]
  · unfold oMeet
    rw [if_neg z]
    refine mt_some (fun y => z (iff_.mp y)) ?_ ?_
    · rw [← o1]
      have : (a : Rat) * (x2 - x1) + b * (y2 - y1) = 0 := by grind
      grind
    · have et : tau x1 y1 x2 y2 x3 y3 x4 y4 * crs x1 y1 x2 y2 x3 y3 x4 y4 = (x3 - x1) * (y4 - y3) - (y3 - y1) * (x4 - x3) := by unfold tau; grind
      generalize tau x1 y1 x2 y2 x3 y3 x4 y4 = t at et ⊢
      have d : (a' : Rat) * (x1 + t * (x2 - x1)) + b' * (y1 + t * (y2 - y1)) - c' = k' * (t * crs x1 y1 x2 y2 x3 y3 x4 y4 - ((x3 - x1) * (y4 - y3) - (y3 - y1) * (x4 - x3))) := by
        rw [← o3, e3, e4]
        unfold crs
        grind
      rw [et] at d
      grind
theorem ft_eq {a b c : Int} {x1 y1 x2 y2 x y fx fy : Rat} (h : Ln a b c) (o1 : (a : Rat) * x1 + b * y1 = c) (o2 : (a : Rat) * x2 + b * y2 = c) (n1 : ¬ (x1 = x2 ∧ y1 = y2)) (of : (a : Rat) * fx + b * fy = c) (sq : (b : Rat) * (fx - x) = a * (fy - y)) : fx = ftX x1 y1 x2 y2 x y ∧ fy = ftY x1 y1 x2 y2 x y := by
  obtain ⟨k, e1, e2⟩ := perp (d_nz n1) (show (a : Rat) * (x2 - x1) + b * (y2 - y1) = 0 by grind)
  have kz := k_nz h e1 e2
  have nn := sq2_nz (d_nz n1)
  have es : sgm x1 y1 x2 y2 x y * ((x2 - x1) * (x2 - x1) + (y2 - y1) * (y2 - y1)) = (x - x1) * (x2 - x1) + (y - y1) * (y2 - y1) := by unfold sgm; grind
  unfold ftX ftY
  generalize sgm x1 y1 x2 y2 x y = t at es ⊢
  have n := ratz (show a * a + b * b ≠ 0 by have := h.sq; omega)
  simp only [Rat.intCast_add, Rat.intCast_mul] at n
  have d1 : (a : Rat) * (fx - (x1 + t * (x2 - x1))) + b * (fy - (y1 + t * (y2 - y1))) = 0 := by grind
  have d2 : (b : Rat) * (fx - (x1 + t * (x2 - x1))) - a * (fy - (y1 + t * (y2 - y1))) = 0 := by
    have : (b : Rat) * (fx - (x1 + t * (x2 - x1))) - a * (fy - (y1 + t * (y2 - y1))) = k * (t * ((x2 - x1) * (x2 - x1) + (y2 - y1) * (y2 - y1)) - ((x - x1) * (x2 - x1) + (y - y1) * (y2 - y1))) := by
      have s2 : (b : Rat) * fx - a * fy = b * x - a * y := by grind
      have : (b : Rat) * (fx - (x1 + t * (x2 - x1))) - a * (fy - (y1 + t * (y2 - y1))) = ((b : Rat) * fx - a * fy) - b * (x1 + t * (x2 - x1)) + a * (y1 + t * (y2 - y1)) := by grind
      rw [this, s2, e1, e2]
      grind
    rw [this, es]
    grind
  obtain ⟨p, hp⟩ : ∃ p, p = fx - (x1 + t * (x2 - x1)) := ⟨_, rfl⟩
  obtain ⟨q, hq⟩ : ∃ q, q = fy - (y1 + t * (y2 - y1)) := ⟨_, rfl⟩
  rw [← hp, ← hq] at d1 d2
  have zp : ((a : Rat) * a + b * b) * p = 0 := by
    have : ((a : Rat) * a + b * b) * p = a * ((a : Rat) * p + b * q) + b * ((b : Rat) * p - a * q) := by grind
    rw [this, d1, d2]
    grind
  have zq : ((a : Rat) * a + b * b) * q = 0 := by
    have : ((a : Rat) * a + b * b) * q = b * ((a : Rat) * p + b * q) - a * ((b : Rat) * p - a * q) := by grind
    rw [this, d1, d2]
    grind
  have p0 : p = 0 := by
    rcases Rat.mul_eq_zero.mp zp with z | z
    · exact absurd z n
    · exact z
  have q0 : q = 0 := by
    rcases Rat.mul_eq_zero.mp zq with z | z
    · exact absurd z n
    · exact z
  exact ⟨by grind, by grind⟩
/-- the line along, and the other one -/
theorem mt_along {a b c a' b' c' A B C : Int} {x1 y1 x2 y2 x3 y3 x4 y4 : Rat} (h : Ln a b c) (h' : Ln a' b' c') (hA : Ln A B C) (o1 : (a : Rat) * x1 + b * y1 = c) (o2 : (a : Rat) * x2 + b * y2 = c) (o3 : (a' : Rat) * x3 + b' * y3 = c') (o4 : (a' : Rat) * x4 + b' * y4 = c') (n1 : ¬ (x1 = x2 ∧ y1 = y2)) (n2 : ¬ (x3 = x4 ∧ y3 = y4)) (on : (A : Rat) * x3 + B * y3 = C) (R : RAl A B a b) :
    mt A B C a' b' c' = if crs x1 y1 x2 y2 x3 y3 x4 y4 = 0 then none else some (x3, y3) := by
  obtain ⟨k, e1, e2⟩ := perp (d_nz n1) (show (a : Rat) * (x2 - x1) + b * (y2 - y1) = 0 by grind)
  obtain ⟨k', e3, e4⟩ := perp (d_nz n2) (show (a' : Rat) * (x4 - x3) + b' * (y4 - y3) = 0 by grind)
  have kz := k_nz h e1 e2
  have kz' := k_nz h' e3 e4
  unfold RAl at R
  have dA : (A : Rat) * (x2 - x1) + B * (y2 - y1) = 0 := by
    have : k * ((A : Rat) * (x2 - x1) + B * (y2 - y1)) = 0 := by
      have : k * ((A : Rat) * (x2 - x1) + B * (y2 - y1)) = -((A : Rat) * b - B * a) := by rw [e1, e2]; grind
      rw [this, R]
      grind
    rcases Rat.mul_eq_zero.mp this with z | z
    · exact absurd z kz
    · exact z
  obtain ⟨m, e5, e6⟩ := perp (d_nz n1) dA
  have mz := k_nz hA e5 e6
  have cr : (A : Rat) * b' - B * a' = m * k' * crs x1 y1 x2 y2 x3 y3 x4 y4 := by
    rw [e5, e6, e3, e4]
    unfold crs
    grind
  have iff_ : A * b' = B * a' ↔ crs x1 y1 x2 y2 x3 y3 x4 y4 = 0 := by
    rw [int_cross, cr]
    exact mul_iff mz kz'
  by_cases z : crs x1 y1 x2 y2 x3 y3 x4 y4 = 0
  · rw [mt_none (iff_.mpr z), if_pos z]
  · rw [if_neg z]
    exact mt_some (fun y => z (iff_.mp y)) on o3
/-- the line upright, and the other one -/
theorem mt_up {a b c a' b' c' A B C : Int} {x1 y1 x2 y2 x3 y3 x4 y4 : Rat} (h : Ln a b c) (h' : Ln a' b' c') (hA : Ln A B C) (o1 : (a : Rat) * x1 + b * y1 = c) (o2 : (a : Rat) * x2 + b * y2 = c) (o3 : (a' : Rat) * x3 + b' * y3 = c') (o4 : (a' : Rat) * x4 + b' * y4 = c') (n1 : ¬ (x1 = x2 ∧ y1 = y2)) (n2 : ¬ (x3 = x4 ∧ y3 = y4)) (on : (A : Rat) * x4 + B * y4 = C) (R : RUp A B a b) :
    mt a' b' c' A B C = if dtt x1 y1 x2 y2 x3 y3 x4 y4 = 0 then none else some (x4, y4) := by
  obtain ⟨k, e1, e2⟩ := perp (d_nz n1) (show (a : Rat) * (x2 - x1) + b * (y2 - y1) = 0 by grind)
  obtain ⟨k', e3, e4⟩ := perp (d_nz n2) (show (a' : Rat) * (x4 - x3) + b' * (y4 - y3) = 0 by grind)
  have kz := k_nz h e1 e2
  have kz' := k_nz h' e3 e4
  unfold RUp at R
  have dA : (A : Rat) * (y2 - y1) + B * (-(x2 - x1)) = 0 := by
    have : k * ((A : Rat) * (y2 - y1) + B * (-(x2 - x1))) = 0 := by
      have : k * ((A : Rat) * (y2 - y1) + B * (-(x2 - x1))) = (A : Rat) * a + B * b := by rw [e1, e2]; grind
      rw [this, R]
    rcases Rat.mul_eq_zero.mp this with z | z
    · exact absurd z kz
    · exact z
  obtain ⟨m, e5, e6⟩ := perp (a := (A : Rat)) (b := (B : Rat)) (dx := y2 - y1) (dy := -(x2 - x1)) (fun z => d_nz n1 ⟨by have := z.2; grind, z.1⟩) dA
  have mz := k_nz hA e5 e6
  have cr : (a' : Rat) * B - b' * A = -m * k' * dtt x1 y1 x2 y2 x3 y3 x4 y4 := by
    rw [e5, e6, e3, e4]
    unfold dtt
    grind
  have iff_ : a' * B = b' * A ↔ dtt x1 y1 x2 y2 x3 y3 x4 y4 = 0 := by
    rw [int_cross, cr]
    exact mul_iff (by grind) kz'
  by_cases z : dtt x1 y1 x2 y2 x3 y3 x4 y4 = 0
  · rw [mt_none (iff_.mpr z), if_pos z]
  · rw [if_neg z]
    exact mt_some (fun y => z (iff_.mp y)) o4 on
/-! the moving -/
def tX (w0 w1 b0 x y : Rat) : Rat := w0 * x - w1 * y + b0
def tY (w0 w1 b1 x y : Rat) : Rat := w0 * y + w1 * x + b1
section
variable {w0 w1 b0 b1 x1 y1 x2 y2 x3 y3 x4 y4 : Rat}
theorem t_crs : crs (tX w0 w1 b0 x1 y1) (tY w0 w1 b1 x1 y1) (tX w0 w1 b0 x2 y2) (tY w0 w1 b1 x2 y2) (tX w0 w1 b0 x3 y3) (tY w0 w1 b1 x3 y3) (tX w0 w1 b0 x4 y4) (tY w0 w1 b1 x4 y4) = (w0 * w0 + w1 * w1) * crs x1 y1 x2 y2 x3 y3 x4 y4 := by
  unfold crs tX tY
  grind
theorem t_dtt : dtt (tX w0 w1 b0 x1 y1) (tY w0 w1 b1 x1 y1) (tX w0 w1 b0 x2 y2) (tY w0 w1 b1 x2 y2) (tX w0 w1 b0 x3 y3) (tY w0 w1 b1 x3 y3) (tX w0 w1 b0 x4 y4) (tY w0 w1 b1 x4 y4) = (w0 * w0 + w1 * w1) * dtt x1 y1 x2 y2 x3 y3 x4 y4 := by
  unfold dtt tX tY
  grind
theorem div_same {n p q : Rat} (h : n ≠ 0) : (n * p) / (n * q) = p / q := by
  by_cases z : q = 0
  · rw [z, Rat.mul_zero, Rat.div_def, Rat.div_def, Rat.inv_zero, Rat.mul_zero, Rat.mul_zero]
  · have : n * q ≠ 0 := fun y => by rcases Rat.mul_eq_zero.mp y with y | y <;> contradiction
    grind
theorem t_tau (nz : ¬ (w0 = 0 ∧ w1 = 0)) : tau (tX w0 w1 b0 x1 y1) (tY w0 w1 b1 x1 y1) (tX w0 w1 b0 x2 y2) (tY w0 w1 b1 x2 y2) (tX w0 w1 b0 x3 y3) (tY w0 w1 b1 x3 y3) (tX w0 w1 b0 x4 y4) (tY w0 w1 b1 x4 y4) = tau x1 y1 x2 y2 x3 y3 x4 y4 := by
  unfold tau
  rw [t_crs, ← div_same (p := (x3 - x1) * (y4 - y3) - (y3 - y1) * (x4 - x3)) (sq2_nz nz)]
  congr 1
  unfold tX tY
  grind
theorem t_sgm {x y : Rat} (nz : ¬ (w0 = 0 ∧ w1 = 0)) : sgm (tX w0 w1 b0 x1 y1) (tY w0 w1 b1 x1 y1) (tX w0 w1 b0 x2 y2) (tY w0 w1 b1 x2 y2) (tX w0 w1 b0 x y) (tY w0 w1 b1 x y) = sgm x1 y1 x2 y2 x y := by
  unfold sgm
  rw [← div_same (p := (x - x1) * (x2 - x1) + (y - y1) * (y2 - y1)) (sq2_nz nz)]
  congr 1
  · unfold tX tY
    grind
  · unfold tX tY
    grind
theorem t_zero {n p : Rat} (h : n ≠ 0) : n * p = 0 ↔ p = 0 := by
  constructor
  · intro z
    rcases Rat.mul_eq_zero.mp z with z | z
    · exact absurd z h
    · exact z
  · intro z
    rw [z]
    grind
theorem t_same (nz : ¬ (w0 = 0 ∧ w1 = 0)) : (tX w0 w1 b0 x1 y1 = tX w0 w1 b0 x2 y2 ∧ tY w0 w1 b1 x1 y1 = tY w0 w1 b1 x2 y2) ↔ (x1 = x2 ∧ y1 = y2) := by
  constructor
  · rintro ⟨e1, e2⟩
    have n := sq2_nz nz
    unfold tX at e1
    unfold tY at e2
    have z1 : (w0 * w0 + w1 * w1) * (x1 - x2) = 0 := by grind
    have z2 : (w0 * w0 + w1 * w1) * (y1 - y2) = 0 := by grind
    have z1 := (t_zero n).mp z1
    have z2 := (t_zero n).mp z2
    exact ⟨by grind, by grind⟩
  · rintro ⟨rfl, rfl⟩
    exact ⟨rfl, rfl⟩
end
def tO (w0 w1 b0 b1 : Rat) : Option (Rat × Rat) → Option (Rat × Rat)
  | none => none
  | some (x, y) => some (tX w0 w1 b0 x y, tY w0 w1 b1 x y)
theorem t_meet {w0 w1 b0 b1 x1 y1 x2 y2 x3 y3 x4 y4 : Rat} (nz : ¬ (w0 = 0 ∧ w1 = 0)) : oMeet (tX w0 w1 b0 x1 y1) (tY w0 w1 b1 x1 y1) (tX w0 w1 b0 x2 y2) (tY w0 w1 b1 x2 y2) (tX w0 w1 b0 x3 y3) (tY w0 w1 b1 x3 y3) (tX w0 w1 b0 x4 y4) (tY w0 w1 b1 x4 y4) = tO w0 w1 b0 b1 (oMeet x1 y1 x2 y2 x3 y3 x4 y4) := by
  unfold oMeet
  rw [t_tau nz, t_crs]
  by_cases z : crs x1 y1 x2 y2 x3 y3 x4 y4 = 0
  · rw [if_pos ((t_zero (sq2_nz nz)).mpr z), if_pos z]
    rfl
  · rw [if_neg (fun y => z ((t_zero (sq2_nz nz)).mp y)), if_neg z]
    generalize tau x1 y1 x2 y2 x3 y3 x4 y4 = t
    simp only [tO, Option.some.injEq, Prod.mk.injEq]
    unfold tX tY
    constructor <;> grind
theorem t_ft {w0 w1 b0 b1 x1 y1 x2 y2 x y : Rat} (nz : ¬ (w0 = 0 ∧ w1 = 0)) : ftX (tX w0 w1 b0 x1 y1) (tY w0 w1 b1 x1 y1) (tX w0 w1 b0 x2 y2) (tY w0 w1 b1 x2 y2) (tX w0 w1 b0 x y) (tY w0 w1 b1 x y) = tX w0 w1 b0 (ftX x1 y1 x2 y2 x y) (ftY x1 y1 x2 y2 x y) ∧ ftY (tX w0 w1 b0 x1 y1) (tY w0 w1 b1 x1 y1) (tX w0 w1 b0 x2 y2) (tY w0 w1 b1 x2 y2) (tX w0 w1 b0 x y) (tY w0 w1 b1 x y) = tY w0 w1 b1 (ftX x1 y1 x2 y2 x y) (ftY x1 y1 x2 y2 x y) := by
  unfold ftX ftY
  rw [t_sgm nz]
  generalize sgm x1 y1 x2 y2 x y = t
  unfold tX tY
  constructor <;> grind
def Pz (K : PySem.W.Frag) (H : Hp) (v : V) (x y : Rat) : Prop := Pq K H v x y ∧ Sz 1000 x ∧ Sz 1000 y
def Oz (K : PySem.W.Frag) (H : Hp) (v : V) : Option (Rat × Rat) → Prop
  | none => v = .non
  | some (x, y) => Pz K H v x y
theorem Pz.up {K : PySem.W.Frag} {H H' : Hp} {v : V} {x y : Rat} (h : Pz K H v x y) (s : Same H H') : Pz K H' v x y := ⟨h.1.up s, h.2⟩
theorem Oz.up {K : PySem.W.Frag} {H H' : Hp} {v : V} {o : Option (Rat × Rat)} (h : Oz K H v o) (s : Same H H') : Oz K H' v o := by
  match o, h with
  | none, h => exact h
  | some (x, y), h => exact Pz.up h s
theorem oz_of {K : PySem.W.Frag} {H : Hp} {v : V} {a b c a' b' c' : Int} {o : Option (Rat × Rat)} {n : Nat} (k : Po K H v (mt a b c a' b' c')) (z : a * b' ≠ b * a' → ∃ x y, mt a b c a' b' c' = some (x, y) ∧ (a : Rat) * x + b * y = c ∧ (a' : Rat) * x + b' * y = c' ∧ Sz n x ∧ Sz n y) (l : n ≤ 1000) (e : mt a b c a' b' c' = o) : Oz K H v o := by
  by_cases d : a * b' = b * a'
  · rw [mt_none d] at e k
    subst e
    exact k
  · obtain ⟨x, y, e', _, _, s1, s2⟩ := z d
    rw [e'] at e k
    subst e
    exact ⟨k, s1.mono l, s2.mono l⟩
def Told (K : PySem.W.Frag) (H : Hp) (us : List V) (x1 y1 x2 y2 x3 y3 x4 y4 t : Rat) : Prop := ∃ m1 m2 m3 m4 : V, Pz K H m1 ((x1 + x2) / 2) ((y1 + y2) / 2) ∧ Pz K H m2 (x3 + t * (x4 - x3)) (y3 + t * (y4 - y3)) ∧ Pz K H m3 (x3 + x3 - x2) (y3 + y3 - y2) ∧ Pz K H m4 (x4 - (y1 - y4)) (y4 + (x1 - x4)) ∧
  ((((x1 = x2 ∧ y1 = y2) ∨ (x3 = x4 ∧ y3 = y4)) ∧ us = [m1, m2, m3, m4, .bl (decide (x1 = x2 ∧ y1 = y2)), .bl (decide (x3 = x4 ∧ y3 = y4))]) ∨
   (¬ (x1 = x2 ∧ y1 = y2) ∧ ¬ (x3 = x4 ∧ y3 = y4) ∧ ∃ v5 v6 v7 v8 v9 : V, us = [m1, m2, m3, m4, v5, v6, v7, v8, v9] ∧ Oz K H v5 (oMeet x1 y1 x2 y2 x3 y3 x4 y4) ∧ Pz K H v6 (ftX x1 y1 x2 y2 x3 y3) (ftY x1 y1 x2 y2 x3 y3) ∧ Pz K H v7 (ftX x1 y1 x2 y2 x4 y4 + ftX x1 y1 x2 y2 x4 y4 - x4) (ftY x1 y1 x2 y2 x4 y4 + ftY x1 y1 x2 y2 x4 y4 - y4) ∧ Oz K H v8 (if crs x1 y1 x2 y2 x3 y3 x4 y4 = 0 then none else some (x3, y3)) ∧ Oz K H v9 (if dtt x1 y1 x2 y2 x3 y3 x4 y4 = 0 then none else some (x4, y4))))
theorem Told.up {K : PySem.W.Frag} {H H' : Hp} {us : List V} {x1 y1 x2 y2 x3 y3 x4 y4 t : Rat} (h : Told K H us x1 y1 x2 y2 x3 y3 x4 y4 t) (s : Same H H') : Told K H' us x1 y1 x2 y2 x3 y3 x4 y4 t := by
  obtain ⟨m1, m2, m3, m4, h1, h2, h3, h4, h5⟩ := h
  refine ⟨m1, m2, m3, m4, h1.up s, h2.up s, h3.up s, h4.up s, ?_⟩
  rcases h5 with h5 | ⟨h5, h6, v5, v6, v7, v8, v9, e, k5, k6, k7, k8, k9⟩
  · exact .inl h5
  · exact .inr ⟨h5, h6, v5, v6, v7, v8, v9, e, k5.up s, k6.up s, k7.up s, k8.up s, k9.up s⟩
def spTold (K : PySem.W.Frag) : Sp := fun vs H Q _ => ∃ (D : Addr) (v1 v2 v3 v4 u : V) (x1 y1 x2 y2 x3 y3 x4 y4 t : Rat), vs = [.ref D, u] ∧ H D = some (.lst [v1, v2, v3, v4]) ∧ Pq K H v1 x1 y1 ∧ Pq K H v2 x2 y2 ∧ Pq K H v3 x3 y3 ∧ Pq K H v4 x4 y4 ∧ Fq K H u t ∧ Sz 42 x1 ∧ Sz 42 y1 ∧ Sz 42 x2 ∧ Sz 42 y2 ∧ Sz 42 x3 ∧ Sz 42 y3 ∧ Sz 42 x4 ∧ Sz 42 y4 ∧ Sz 42 t ∧
  ∀ (l : Addr) (us : List V) (H' : Hp), Same H H' → H' l = some (.lst us) → Told K H' us x1 y1 x2 y2 x3 y3 x4 y4 t → Q (.ref l) H'
def spMoved (K : PySem.W.Frag) : Sp := fun vs H Q _ => ∃ (v w u : V) (x y w0 w1 b0 b1 : Rat), vs = [v, w, u] ∧ Pq K H v x y ∧ Pq K H w w0 w1 ∧ Pq K H u b0 b1 ∧ Sz 1000 x ∧ Sz 1000 y ∧ Sz 8 w0 ∧ Sz 8 w1 ∧ Sz 8 b0 ∧ Sz 8 b1 ∧
  ∀ (r : V) (H' : Hp), Same H H' → Pq K H' r (tX w0 w1 b0 x y) (tY w0 w1 b1 x y) → Q r H'
theorem r_moved {K : PySem.W.Frag} {H : Hp} {Q : VK} {E : XK} {v w u : V} {x y w0 w1 b0 b1 : Rat} (h1 : Pq K H v x y) (h2 : Pq K H w w0 w1) (h3 : Pq K H u b0 b1) (s1 : Sz 1000 x) (s2 : Sz 1000 y) (s3 : Sz 8 w0) (s4 : Sz 8 w1) (s5 : Sz 8 b0) (s6 : Sz 8 b1)
    (c : ∀ (r : V) (H' : Hp), Same H H' → Pq K H' r (tX w0 w1 b0 x y) (tY w0 w1 b1 x y) → Q r H') : spMoved K ([v, w, u] ++ []) H Q E := ⟨v, w, u, x, y, w0, w1, b0, b1, rfl, h1, h2, h3, s1, s2, s3, s4, s5, s6, c⟩
theorem r_thruN {K : PySem.W.Frag} {H : Hp} {Q : VK} {E : XK} {v w : V} {x y x' y' : Rat} {n n2 m m2 : Nat} (h1 : Pq K H v x y) (h2 : Pq K H w x' y') (s1 : Sz n x) (s2 : Sz n2 y) (s3 : Sz m x') (s4 : Sz m2 y') (l : Nat.ble (max n n2 + max m m2) 3800 = true) (e : x = x' ∧ y = y')
    (c : ∀ (H' : Hp), Same H H' → Q .non H') : spThruO K ([v, w] ++ []) H Q E := by
  refine r_thruO h1 h2 s1 s2 s3 s4 l (fun r H' g k _ => ?_)
  rw [thr_none e] at k
  have k : r = .non := k
  subst k
  exact c H' g
theorem r_told {K : PySem.W.Frag} {H : Hp} {Q : VK} {E : XK} {D : Addr} {v1 v2 v3 v4 u : V} {x1 y1 x2 y2 x3 y3 x4 y4 t : Rat} (hD : H D = some (.lst [v1, v2, v3, v4])) (h1 : Pq K H v1 x1 y1) (h2 : Pq K H v2 x2 y2) (h3 : Pq K H v3 x3 y3) (h4 : Pq K H v4 x4 y4) (h5 : Fq K H u t) (s1 : Sz 42 x1) (s2 : Sz 42 y1) (s3 : Sz 42 x2) (s4 : Sz 42 y2) (s5 : Sz 42 x3) (s6 : Sz 42 y3) (s7 : Sz 42 x4) (s8 : Sz 42 y4) (s9 : Sz 42 t)
    (c : ∀ (l : Addr) (us : List V) (H' : Hp), Same H H' → H' l = some (.lst us) → Told K H' us x1 y1 x2 y2 x3 y3 x4 y4 t → Q (.ref l) H') : spTold K ([.ref D, u] ++ []) H Q E := ⟨D, v1, v2, v3, v4, u, x1, y1, x2, y2, x3, y3, x4, y4, t, rfl, hD, h1, h2, h3, h4, h5, s1, s2, s3, s4, s5, s6, s7, s8, s9, c⟩
theorem r_cat {H : Hp} {Q : VK} {l b : Addr} {xs zs : List V} (h1 : H l = some (.lst xs)) (h2 : H b = some (.lst zs)) (s : xs.length + zs.length ≤ sizeLine) (k : ∀ (p : Addr) (H' : Hp), Same H H' → H' p = some (.lst (xs ++ zs)) → Q (.ref p) H') : rCat (.ref l) (.ref b) H Q := ⟨l, b, xs, zs, rfl, rfl, h1, h2, s, fun p hp => k p _ (same_new hp _) upd_same⟩
/-- of a pair: both none, one truth, or a place and the place moved -/
def Pr (K : PySem.W.Frag) (H : Hp) (w0 w1 b0 b1 : Rat) (a b : V) : Prop := (a = .non ∧ b = .non) ∨ (∃ c : Bool, a = .bl c ∧ b = .bl c) ∨ ∃ x y, Pz K H a x y ∧ Pq K H b (tX w0 w1 b0 x y) (tY w0 w1 b1 x y)
theorem Pr.up {K : PySem.W.Frag} {H H' : Hp} {w0 w1 b0 b1 : Rat} {a b : V} (h : Pr K H w0 w1 b0 b1 a b) (s : Same H H') : Pr K H' w0 w1 b0 b1 a b := by
  rcases h with h | h | ⟨x, y, h1, h2⟩
  · exact .inl h
  · exact .inr (.inl h)
  · exact .inr (.inr ⟨x, y, h1.up s, h2.up s⟩)
theorem Pr.of {K : PySem.W.Frag} {H : Hp} {w0 w1 b0 b1 x y X Y : Rat} {a b : V} (h1 : Pz K H a x y) (h2 : Pz K H b X Y) (e1 : X = tX w0 w1 b0 x y) (e2 : Y = tY w0 w1 b1 x y) : Pr K H w0 w1 b0 b1 a b := .inr (.inr ⟨x, y, h1, by rw [← e1, ← e2]; exact h2.1⟩)
theorem Pr.oo {K : PySem.W.Frag} {H : Hp} {w0 w1 b0 b1 : Rat} {a b : V} {o o' : Option (Rat × Rat)} (h1 : Oz K H a o) (h2 : Oz K H b o') (e : o' = tO w0 w1 b0 b1 o) : Pr K H w0 w1 b0 b1 a b := by
  subst e
  match o, h1, h2 with
  | none, h1, h2 => exact .inl ⟨h1, h2⟩
  | some (x, y), h1, h2 => exact .inr (.inr ⟨x, y, h1, h2.1⟩)
theorem told_pairs {K : PySem.W.Frag} {H : Hp} {us ws : List V} {x1 y1 x2 y2 x3 y3 x4 y4 t w0 w1 b0 b1 : Rat} (nz : ¬ (w0 = 0 ∧ w1 = 0)) (h : Told K H us x1 y1 x2 y2 x3 y3 x4 y4 t) (h' : Told K H ws (tX w0 w1 b0 x1 y1) (tY w0 w1 b1 x1 y1) (tX w0 w1 b0 x2 y2) (tY w0 w1 b1 x2 y2) (tX w0 w1 b0 x3 y3) (tY w0 w1 b1 x3 y3) (tX w0 w1 b0 x4 y4) (tY w0 w1 b1 x4 y4) t) :
    us.length = ws.length ∧ ∀ (i : Nat) (a b : V), us[i]? = some a → ws[i]? = some b → Pr K H w0 w1 b0 b1 a b := by
  obtain ⟨m1, m2, m3, m4, p1, p2, p3, p4, r⟩ := h
  obtain ⟨n1, n2, n3, n4, q1, q2, q3, q4, r'⟩ := h'
  have i1 := t_same (b0 := b0) (b1 := b1) (x1 := x1) (y1 := y1) (x2 := x2) (y2 := y2) nz
  have i2 := t_same (b0 := b0) (b1 := b1) (x1 := x3) (y1 := y3) (x2 := x4) (y2 := y4) nz
  have k1 : Pr K H w0 w1 b0 b1 m1 n1 := Pr.of p1 q1 (by unfold tX; grind) (by unfold tY; grind)
  have k2 : Pr K H w0 w1 b0 b1 m2 n2 := Pr.of p2 q2 (by unfold tX; grind) (by unfold tY; grind)
  have k3 : Pr K H w0 w1 b0 b1 m3 n3 := Pr.of p3 q3 (by unfold tX; grind) (by unfold tY; grind)
  have k4 : Pr K H w0 w1 b0 b1 m4 n4 := Pr.of p4 q4 (by unfold tX tY; grind) (by unfold tX tY; grind)
  rcases r with ⟨c, rfl⟩ | ⟨c1, c2, v5, v6, v7, v8, v9, rfl, k5, k6, k7, k8, k9⟩
  · rcases r' with ⟨c', rfl⟩ | ⟨c1', c2', _⟩
    · refine ⟨rfl, fun i a b ha hb => ?_⟩
      match i, ha, hb with
      | 0, ha, hb => cases ha; cases hb; exact k1
      | 1, ha, hb => cases ha; cases hb; exact k2
      | 2, ha, hb => cases ha; cases hb; exact k3
      | 3, ha, hb => cases ha; cases hb; exact k4
      | 4, ha, hb => cases ha; cases hb; exact .inr (.inl ⟨_, rfl, by rw [decide_eq_decide.mpr i1]⟩)
      | 5, ha, hb => cases ha; cases hb; exact .inr (.inl ⟨_, rfl, by rw [decide_eq_decide.mpr i2]⟩)
      | n + 6, ha, hb => cases ha
    · rcases c with c | c
      · exact absurd (i1.mpr c) c1'
      · exact absurd (i2.mpr c) c2'
  · rcases r' with ⟨c', _⟩ | ⟨c1', c2', u5, u6, u7, u8, u9, rfl, l5, l6, l7, l8, l9⟩
    · rcases c' with c | c
      · exact absurd (i1.mp c) c1
      · exact absurd (i2.mp c) c2
    · refine ⟨rfl, fun i a b ha hb => ?_⟩
      match i, ha, hb with
      | 0, ha, hb => cases ha; cases hb; exact k1
      | 1, ha, hb => cases ha; cases hb; exact k2
      | 2, ha, hb => cases ha; cases hb; exact k3
      | 3, ha, hb => cases ha; cases hb; exact k4
      | 4, ha, hb => cases ha; cases hb; exact Pr.oo k5 l5 (t_meet nz)
      | 5, ha, hb => cases ha; cases hb; exact Pr.of k6 l6 (t_ft nz).1 (t_ft nz).2
      | 6, ha, hb =>
        cases ha; cases hb
        refine Pr.of k7 l7 ?_ ?_
        · rw [(t_ft nz).1]; unfold tX; grind
        · rw [(t_ft nz).2]; unfold tY; grind
      | 7, ha, hb =>
        cases ha; cases hb
        refine Pr.oo k8 l8 ?_
        rw [t_crs]
        by_cases z : crs x1 y1 x2 y2 x3 y3 x4 y4 = 0
        · rw [if_pos ((t_zero (sq2_nz nz)).mpr z), if_pos z]; rfl
        · rw [if_neg (fun y => z ((t_zero (sq2_nz nz)).mp y)), if_neg z]; rfl
      | 8, ha, hb =>
        cases ha; cases hb
        refine Pr.oo k9 l9 ?_
        rw [t_dtt]
        by_cases z : dtt x1 y1 x2 y2 x3 y3 x4 y4 = 0
        · rw [if_pos ((t_zero (sq2_nz nz)).mpr z), if_pos z]; rfl
        · rw [if_neg (fun y => z ((t_zero (sq2_nz nz)).mp y)), if_neg z]; rfl
      | n + 9, ha, hb => cases ha
theorem r_neBl {K : PySem.W.Frag} {H : Hp} {Q : VK} {c : Bool} (k : Q (.bl false) H) : rNeD K (.bl c) (.bl c) H Q := by
  refine ⟨_, _, .bl c, .bl c, rfl, rfl, ?_⟩
  rw [SeqAt.eqv_refl _ rfl]
  exact k
theorem r_isNb {H : Hp} {Q : VK} {c : Bool} (k : Q (.bl false) H) : rIsNo (.bl c) .non H Q := ⟨rfl, k⟩
theorem r_isiP {K : PySem.W.Frag} {H : Hp} {Q : VK} {v : V} {x y : Rat} (h : Pq K H v x y) (k : Q (.bl false) H) : rIsi K [v, .ty "bool"] H Q := by
  obtain ⟨a, f, g, rfl, t, _⟩ := h
  exact r_isi (tyT t) rfl k
theorem r_forZ {K : PySem.W.Frag} {ta : TA} {g : TG} {tb : TS} {D : Ends} {σ : St} {H : Hp} {a b : Addr} {xs ys : List V} {H1 : Hp}
    (q : ∀ R : It → Hp → Prop, R (Itz K a b) H1 → iZip K ta σ H R) (w : ∃ W : Nat → Nat → St → Hp → Prop, (∃ m, W 0 m σ H1) ∧ ∀ i m σ H, W i m σ H → ((Itz K a b).stop i H ∧ D.nx σ H) ∨ ((Itz K a b).go i H ∧ ∃ N : St → Hp → Prop, (∀ σ' H', N σ' H' → ∃ m', m' < m ∧ W (i + 1) m' σ' H') ∧ ∀ v H', (Itz K a b).yld i H v H' → g v σ H' fun σ2 H2 => tb { D with nx := N, ct := N, bk := D.nx } σ2 H2)) : tFor (iZip K ta) g tb D σ H := q _ w
theorem same_updN {D : Addr} {H H' : Hp} {o : HO} (h : Same H H') (n : H D = none) : Same H (upd H' D o) := fun b o' hb => by
  have : b ≠ D := fun z => by rw [z, n] at hb; cases hb
  rw [upd_ne this]
  exact h b o' hb
theorem r_lcL {K : PySem.W.Frag} {tl : TE} {g : TG} {tt : TT} {te : TE} {vs : List Nat} {σ : St} {H : Hp} {Q : VK} (q : tl σ H fun x H1 => ∃ a, x = .ref a ∧ (∃ xs, SqL K H1 a xs) ∧ ∀ D, H1 D = none → ∃ W : Nat → Nat → Hp → Prop, (∃ m, W 0 m (upd H1 D (.lst []))) ∧ ∀ i m H, W i m H →
  ((Itl K a).stop i H ∧ Q (.ref D) H) ∨ ((Itl K a).go i H ∧ ∃ Nx : Hp → Prop, (∀ H', Nx H' → ∃ m', m' < m ∧ W (i + 1) m' H') ∧ ∀ x H', (Itl K a).yld i H x H' → g x (wipe σ vs) H' fun σ2 H2 => wipe σ2 vs = wipe σ vs ∧ tt σ2 H2 fun b H3 =>
    if b = true then te σ2 H3 fun y H4 => ∃ acc, H4 D = some (.lst acc) ∧ acc.length < sizeLine ∧ Nx (upd H4 D (.lst (acc ++ [y]))) else Nx H3)) : tLc (iList K tl) g tt te vs σ H Q := q
theorem sz_tX {w0 w1 b0 x y : Rat} (h1 : Sz 8 w0) (h2 : Sz 8 w1) (h3 : Sz 8 b0) (h4 : Sz 8 x) (h5 : Sz 8 y) : Sz 42 (tX w0 w1 b0 x y) := Sz.mono (((h1.mul h4).sub (h2.mul h5)).add h3) (by decide)
theorem sz_tY {w0 w1 b1 x y : Rat} (h1 : Sz 8 w0) (h2 : Sz 8 w1) (h3 : Sz 8 b1) (h4 : Sz 8 x) (h5 : Sz 8 y) : Sz 42 (tY w0 w1 b1 x y) := Sz.mono (((h1.mul h5).add (h2.mul h4)).add h3) (by decide)
end Mb
namespace Mb
open PySem L2
/-! ### the triangle -/
def crt (x1 y1 x2 y2 x3 y3 : Rat) : Rat := (x1 - x3) * (y2 - y3) - (y1 - y3) * (x2 - x3)
theorem circ_ex {x1 y1 x2 y2 x3 y3 : Rat} (h : crt x1 y1 x2 y2 x3 y3 ≠ 0) : ∃ X Y : Rat, (X - (x2 + x3) / 2) * (x3 - x2) + (Y - (y2 + y3) / 2) * (y3 - y2) = 0 ∧ (X - (x3 + x1) / 2) * (x1 - x3) + (Y - (y3 + y1) / 2) * (y1 - y3) = 0 ∧ (X - (x1 + x2) / 2) * (x2 - x1) + (Y - (y1 + y2) / 2) * (y2 - y1) = 0 := by
  refine ⟨((x1 * x1 + y1 * y1) * (y2 - y3) + (x2 * x2 + y2 * y2) * (y3 - y1) + (x3 * x3 + y3 * y3) * (y1 - y2)) / (2 * crt x1 y1 x2 y2 x3 y3), ((x1 * x1 + y1 * y1) * (x3 - x2) + (x2 * x2 + y2 * y2) * (x1 - x3) + (x3 * x3 + y3 * y3) * (x2 - x1)) / (2 * crt x1 y1 x2 y2 x3 y3), ?_⟩
  obtain ⟨d, hd⟩ : ∃ d, d = crt x1 y1 x2 y2 x3 y3 := ⟨_, rfl⟩
  rw [← hd] at h ⊢
  have e : d = (x1 - x3) * (y2 - y3) - (y1 - y3) * (x2 - x3) := hd
  obtain ⟨U, hU⟩ : ∃ U, U = (x1 * x1 + y1 * y1) * (y2 - y3) + (x2 * x2 + y2 * y2) * (y3 - y1) + (x3 * x3 + y3 * y3) * (y1 - y2) := ⟨_, rfl⟩
  obtain ⟨W, hW⟩ : ∃ W, W = (x1 * x1 + y1 * y1) * (x3 - x2) + (x2 * x2 + y2 * y2) * (x1 - x3) + (x3 * x3 + y3 * y3) * (x2 - x1) := ⟨_, rfl⟩
  rw [← hU, ← hW]
  have a1 : U * (x3 - x2) + W * (y3 - y2) = d * ((x3 * x3 + y3 * y3) - (x2 * x2 + y2 * y2)) := by rw [hU, hW, e]; grind
  have a2 : U * (x1 - x3) + W * (y1 - y3) = d * ((x1 * x1 + y1 * y1) - (x3 * x3 + y3 * y3)) := by rw [hU, hW, e]; grind
  have a3 : U * (x2 - x1) + W * (y2 - y1) = d * ((x2 * x2 + y2 * y2) - (x1 * x1 + y1 * y1)) := by rw [hU, hW, e]; grind
  have i : U / (2 * d) = U * (1 / (2 * d)) := by grind
  have j : W / (2 * d) = W * (1 / (2 * d)) := by grind
  have k : d * (1 / (2 * d)) = 1 / 2 := by grind
  rw [i, j]
  generalize 1 / (2 * d) = z at k ⊢
  refine ⟨?_, ?_, ?_⟩
  · have : U * z * (x3 - x2) + W * z * (y3 - y2) = z * (U * (x3 - x2) + W * (y3 - y2)) := by grind
    rw [a1] at this
    grind
  · have : U * z * (x1 - x3) + W * z * (y1 - y3) = z * (U * (x1 - x3) + W * (y1 - y3)) := by grind
    rw [a2] at this
    grind
  · have : U * z * (x2 - x1) + W * z * (y2 - y1) = z * (U * (x2 - x1) + W * (y2 - y1)) := by grind
    rw [a3] at this
    grind
/-- a place on the line that is upright on the line through two places -/
theorem up_at {a b c A B C : Int} {px py qx qy mx my X Y : Rat} (hL : Ln a b c) (o1 : (a : Rat) * px + b * py = c) (o2 : (a : Rat) * qx + b * qy = c) (ne : ¬ (px = qx ∧ py = qy)) (R : RUp A B a b) (on : (A : Rat) * mx + B * my = C) (d0 : (X - mx) * (qx - px) + (Y - my) * (qy - py) = 0) : (A : Rat) * X + B * Y = C := by
  have e := up_wayK hL o1 o2 R
  have z := para (u := qx - px) (v := qy - py) (p := X - mx) (q := Y - my) (r := (B : Rat)) (s := -(A : Rat)) (d_nz ne) (by grind) (by grind)
  grind
theorem up_crs {A B A' B' : Int} {dx dy ex ey : Rat} {C C' : Int} (h : Ln A B C) (h' : Ln A' B' C') (e1 : (B : Rat) * dx = A * dy) (e2 : (B' : Rat) * ex = A' * ey) (n : dx * ey - dy * ex ≠ 0) : A * B' ≠ B * A' := by
  intro z
  have nz : ¬ ((B : Rat) = 0 ∧ -(A : Rat) = 0) := fun y => h.nz ⟨cast_inj (by have := y.2; grind), cast_inj (by rw [y.1]; rfl)⟩
  have nz' : ¬ ((B' : Rat) = 0 ∧ -(A' : Rat) = 0) := fun y => h'.nz ⟨cast_inj (by have := y.2; grind), cast_inj (by rw [y.1]; rfl)⟩
  obtain ⟨k, a1, a2⟩ := perp (a := dx) (b := dy) nz (by grind)
  obtain ⟨k', b1, b2⟩ := perp (a := ex) (b := ey) nz' (by grind)
  have zr := int_cross.mp z
  refine n ?_
  rw [a1, a2, b1, b2]
  have : k * -(A : Rat) * -(k' * (B' : Rat)) - -(k * (B : Rat)) * (k' * -(A' : Rat)) = k * k' * ((A : Rat) * B' - B * A') := by grind
  rw [this, zr]
  grind
theorem on_crs {A B A' B' : Int} {dx dy ex ey : Rat} {C C' : Int} (h : Ln A B C) (h' : Ln A' B' C') (e1 : (A : Rat) * dx + B * dy = 0) (e2 : (A' : Rat) * ex + B' * ey = 0) (n : dx * ey - dy * ex ≠ 0) : A * B' ≠ B * A' := by
  intro z
  have nz : ¬ ((A : Rat) = 0 ∧ (B : Rat) = 0) := fun y => h.nz ⟨cast_inj (by rw [y.1]; rfl), cast_inj (by rw [y.2]; rfl)⟩
  have nz' : ¬ ((A' : Rat) = 0 ∧ (B' : Rat) = 0) := fun y => h'.nz ⟨cast_inj (by rw [y.1]; rfl), cast_inj (by rw [y.2]; rfl)⟩
  obtain ⟨k, a1, a2⟩ := perp (a := dx) (b := dy) nz (by grind)
  obtain ⟨k', b1, b2⟩ := perp (a := ex) (b := ey) nz' (by grind)
  have zr := int_cross.mp z
  refine n ?_
  rw [a1, a2, b1, b2]
  have : k * (B : Rat) * -(k' * (A' : Rat)) - -(k * (A : Rat)) * (k' * (B' : Rat)) = k * k' * ((A : Rat) * B' - B * A') := by grind
  rw [this, zr]
  grind
theorem mir_circ {a b c : Int} {px py qx qy tx ty X Y fx fy : Rat} (hL : Ln a b c) (o1 : (a : Rat) * px + b * py = c) (o2 : (a : Rat) * qx + b * qy = c) (ne : ¬ (px = qx ∧ py = qy)) (d0 : (X - (px + qx) / 2) * (qx - px) + (Y - (py + qy) / 2) * (qy - py) = 0) (of : (a : Rat) * fx + b * fy = c) (sq : (b : Rat) * (fx - (px + qx + tx - 2 * X)) = a * (fy - (py + qy + ty - 2 * Y))) :
    (fx + fx - (px + qx + tx - 2 * X) - X) * (fx + fx - (px + qx + tx - 2 * X) - X) + (fy + fy - (py + qy + ty - 2 * Y) - Y) * (fy + fy - (py + qy + ty - 2 * Y) - Y) = (tx - X) * (tx - X) + (ty - Y) * (ty - Y) := by
  obtain ⟨k, e1, e2⟩ := perp (d_nz ne) (show (a : Rat) * (qx - px) + b * (qy - py) = 0 by grind)
  have kz := k_nz hL e1 e2
  -- the parts: along the line, and square to it
  have c1 : (fx - (px + qx) / 2) * (qy - py) - (fy - (py + qy) / 2) * (qx - px) = 0 := by
    have : k * ((fx - (px + qx) / 2) * (qy - py) - (fy - (py + qy) / 2) * (qx - px)) = (a : Rat) * fx + b * fy - (((a : Rat) * px + b * py) + ((a : Rat) * qx + b * qy)) / 2 := by rw [e1, e2]; grind
    rw [of, o1, o2] at this
    have z : k * ((fx - (px + qx) / 2) * (qy - py) - (fy - (py + qy) / 2) * (qx - px)) = 0 := by grind
    rcases Rat.mul_eq_zero.mp z with z | z
    · exact absurd z kz
    · exact z
  have c2 : (fx - (px + qx + tx - 2 * X)) * (qx - px) + (fy - (py + qy + ty - 2 * Y)) * (qy - py) = 0 := by
    have : k * ((fx - (px + qx + tx - 2 * X)) * (qx - px) + (fy - (py + qy + ty - 2 * Y)) * (qy - py)) = (a : Rat) * (fy - (py + qy + ty - 2 * Y)) - b * (fx - (px + qx + tx - 2 * X)) := by rw [e1, e2]; grind
    rw [sq] at this
    have z : k * ((fx - (px + qx + tx - 2 * X)) * (qx - px) + (fy - (py + qy + ty - 2 * Y)) * (qy - py)) = 0 := by grind
    rcases Rat.mul_eq_zero.mp z with z | z
    · exact absurd z kz
    · exact z
  have dn := d_nz ne
  generalize hdx : qx - px = dx at *
  generalize hdy : qy - py = dy at *
  obtain ⟨u, hu⟩ : ∃ u, u = fx - (px + qx + tx - 2 * X) := ⟨_, rfl⟩
  obtain ⟨v, hv⟩ : ∃ v, v = fy - (py + qy + ty - 2 * Y) := ⟨_, rfl⟩
  obtain ⟨s, hs⟩ : ∃ s, s = fx - (px + qx) / 2 := ⟨_, rfl⟩
  obtain ⟨t, ht⟩ : ∃ t, t = fy - (py + qy) / 2 := ⟨_, rfl⟩
  obtain ⟨m, hm⟩ : ∃ m, m = X - (px + qx) / 2 := ⟨_, rfl⟩
  obtain ⟨n, hn⟩ : ∃ n, n = Y - (py + qy) / 2 := ⟨_, rfl⟩
  rw [← hs, ← ht] at c1
  rw [← hu, ← hv] at c2
  rw [← hm, ← hn] at d0
  have w1 : s * u + t * v = 0 := by
    have := para (u := dx) (v := dy) (p := u) (q := v) (r := t) (s := -s) dn (by grind) (by grind)
    grind
  have w2 : s * m + t * n = 0 := by
    have := para (u := dx) (v := dy) (p := m) (q := n) (r := t) (s := -s) dn (by grind) (by grind)
    grind
  have f1 : fx + fx - (px + qx + tx - 2 * X) - X = u + s - m := by rw [hu, hs, hm]; grind
  have f2 : fy + fy - (py + qy + ty - 2 * Y) - Y = v + t - n := by rw [hv, ht, hn]; grind
  have f3 : tx - X = s - u + m := by rw [hu, hs, hm]; grind
  have f4 : ty - Y = t - v + n := by rw [hv, ht, hn]; grind
  rw [f1, f2, f3, f4]
  have : (u + s - m) * (u + s - m) + (v + t - n) * (v + t - n) - ((s - u + m) * (s - u + m) + (t - v + n) * (t - v + n)) = 4 * (s * u + t * v) - 4 * (s * m + t * n) := by grind
  rw [w1, w2] at this
  grind
/-- the line along a side through one place has the other one -/
theorem al_at {a b c A B C : Int} {px py qx qy mx my X Y : Rat} (hL : Ln a b c) (o1 : (a : Rat) * px + b * py = c) (o2 : (a : Rat) * qx + b * qy = c) (ne : ¬ (px = qx ∧ py = qy)) (R : RAl A B a b) (on : (A : Rat) * mx + B * my = C) (d0 : (X - mx) * (qy - py) = (Y - my) * (qx - px)) : (A : Rat) * X + B * Y = C := by
  unfold RAl at R
  obtain ⟨k, e1, e2⟩ := perp (d_nz ne) (show (a : Rat) * (qx - px) + b * (qy - py) = 0 by grind)
  have kz := k_nz hL e1 e2
  have z0 : (A : Rat) * (qx - px) + B * (qy - py) = 0 := by
    have : k * ((A : Rat) * (qx - px) + B * (qy - py)) = -((A : Rat) * b - B * a) := by rw [e1, e2]; grind
    rw [R] at this
    have z : k * ((A : Rat) * (qx - px) + B * (qy - py)) = 0 := by grind
    rcases Rat.mul_eq_zero.mp z with z | z
    · exact absurd z kz
    · exact z
  have := para (u := qx - px) (v := qy - py) (p := (A : Rat)) (q := (B : Rat)) (r := Y - my) (s := -(X - mx)) (d_nz ne) (by grind) (by grind)
  grind
theorem r_meetK {K : PySem.W.Frag} {H : Hp} {Q : VK} {E : XK} {v w : V} {a b c a' b' c' : Int} {X Y : Rat} {n n2 n3 m m2 m3 : Nat} (h1 : Lq K H v a b c) (h2 : Lq K H w a' b' c') (s1 : Sm n a) (s2 : Sm n2 b) (s3 : Sm n3 c) (s4 : Sm m a') (s5 : Sm m2 b') (s6 : Sm m3 c') (l : Nat.ble (max n (max n2 n3) + max m (max m2 m3)) 7600 = true) (d : a * b' ≠ b * a') (o1 : (a : Rat) * X + b * Y = c) (o2 : (a' : Rat) * X + b' * Y = c')
    (k : ∀ (r : V) (H' : Hp), Same H H' → Pq K H' r X Y → Sz (max n (max n2 n3) + max m (max m2 m3) + 1) X → Sz (max n (max n2 n3) + max m (max m2 m3) + 1) Y → Q r H') : spMeetO K ([v, w] ++ []) H Q E := by
  refine r_meetO h1 h2 s1 s2 s3 s4 s5 s6 l (fun r H' g kp z => ?_)
  obtain ⟨x, y, e, _, _, z1, z2⟩ := z d
  have e2 := mt_some d o1 o2
  rw [e] at e2
  cases e2
  rw [e] at kp
  exact k r H' g kp z1 z2
def spOnePlace (K : PySem.W.Frag) : Sp := fun vs H Q _ => ∃ (D : Addr) (v0 v1 v2 : V) (a0 b0 c0 a1 b1 c1 a2 b2 c2 : Int) (X Y : Rat), vs = [.ref D] ∧ H D = some (.lst [v0, v1, v2]) ∧ Lq K H v0 a0 b0 c0 ∧ Lq K H v1 a1 b1 c1 ∧ Lq K H v2 a2 b2 c2 ∧ Sm 300 a0 ∧ Sm 300 b0 ∧ Sm 300 c0 ∧ Sm 300 a1 ∧ Sm 300 b1 ∧ Sm 300 c1 ∧ Sm 300 a2 ∧ Sm 300 b2 ∧ Sm 300 c2 ∧ (a0 : Rat) * X + b0 * Y = c0 ∧ (a1 : Rat) * X + b1 * Y = c1 ∧ (a2 : Rat) * X + b2 * Y = c2 ∧ a0 * b1 ≠ b0 * a1 ∧ a2 * b0 ≠ b2 * a0 ∧
  ∀ (r : V) (H' : Hp), Same H H' → Pq K H' r X Y → Sz 601 X → Sz 601 Y → Q r H'
theorem r_onePlace {K : PySem.W.Frag} {H : Hp} {Q : VK} {E : XK} {D : Addr} {v0 v1 v2 : V} {a0 b0 c0 a1 b1 c1 a2 b2 c2 : Int} {X Y : Rat} (hD : H D = some (.lst [v0, v1, v2])) (k0 : Lq K H v0 a0 b0 c0) (k1 : Lq K H v1 a1 b1 c1) (k2 : Lq K H v2 a2 b2 c2) (s1 : Sm 300 a0) (s2 : Sm 300 b0) (s3 : Sm 300 c0) (s4 : Sm 300 a1) (s5 : Sm 300 b1) (s6 : Sm 300 c1) (s7 : Sm 300 a2) (s8 : Sm 300 b2) (s9 : Sm 300 c2) (o0 : (a0 : Rat) * X + b0 * Y = c0) (o1 : (a1 : Rat) * X + b1 * Y = c1) (o2 : (a2 : Rat) * X + b2 * Y = c2) (d1 : a0 * b1 ≠ b0 * a1) (d2 : a2 * b0 ≠ b2 * a0)
    (c : ∀ (r : V) (H' : Hp), Same H H' → Pq K H' r X Y → Sz 601 X → Sz 601 Y → Q r H') : spOnePlace K ([.ref D] ++ []) H Q E := ⟨D, v0, v1, v2, a0, b0, c0, a1, b1, c1, a2, b2, c2, X, Y, rfl, hD, k0, k1, k2, s1, s2, s3, s4, s5, s6, s7, s8, s9, o0, o1, o2, d1, d2, c⟩
def spFlat (K : PySem.W.Frag) : Sp := fun vs H Q _ => ∃ (D E : Addr) (v0 v1 v2 w0 w1 w2 : V) (x1 y1 x2 y2 x3 y3 : Rat), vs = [.ref D, .ref E] ∧ H D = some (.lst [v0, v1, v2]) ∧ H E = some (.lst [w0, w1, w2]) ∧ Pq K H v0 x1 y1 ∧ Pq K H v1 x2 y2 ∧ Pq K H v2 x3 y3 ∧ Lo K H w0 (thr x2 y2 x3 y3) ∧ Lo K H w1 (thr x3 y3 x1 y1) ∧ Lo K H w2 (thr x1 y1 x2 y2) ∧ Sz 34 x1 ∧ Sz 34 y1 ∧ Sz 34 x2 ∧ Sz 34 y2 ∧ Sz 34 x3 ∧ Sz 34 y3 ∧
  (¬ (x2 = x3 ∧ y2 = y3) → ∃ a b c, thr x2 y2 x3 y3 = some (a, b, c) ∧ Sm 140 a ∧ Sm 140 b ∧ Sm 140 c) ∧ (¬ (x3 = x1 ∧ y3 = y1) → ∃ a b c, thr x3 y3 x1 y1 = some (a, b, c) ∧ Sm 140 a ∧ Sm 140 b ∧ Sm 140 c) ∧ (¬ (x1 = x2 ∧ y1 = y2) → ∃ a b c, thr x1 y1 x2 y2 = some (a, b, c) ∧ Sm 140 a ∧ Sm 140 b ∧ Sm 140 c) ∧ crt x1 y1 x2 y2 x3 y3 = 0 ∧ ∀ H', Same H H' → Q (.bl true) H'
theorem r_flat {K : PySem.W.Frag} {H : Hp} {Q : VK} {Ex : XK} {D E : Addr} {v0 v1 v2 w0 w1 w2 : V} {x1 y1 x2 y2 x3 y3 : Rat} (hD : H D = some (.lst [v0, v1, v2])) (hE : H E = some (.lst [w0, w1, w2])) (k0 : Pq K H v0 x1 y1) (k1 : Pq K H v1 x2 y2) (k2 : Pq K H v2 x3 y3) (l0 : Lo K H w0 (thr x2 y2 x3 y3)) (l1 : Lo K H w1 (thr x3 y3 x1 y1)) (l2 : Lo K H w2 (thr x1 y1 x2 y2)) (s1 : Sz 34 x1) (s2 : Sz 34 y1) (s3 : Sz 34 x2) (s4 : Sz 34 y2) (s5 : Sz 34 x3) (s6 : Sz 34 y3) (z0 : ¬ (x2 = x3 ∧ y2 = y3) → ∃ a b c, thr x2 y2 x3 y3 = some (a, b, c) ∧ Sm 140 a ∧ Sm 140 b ∧ Sm 140 c) (z1 : ¬ (x3 = x1 ∧ y3 = y1) → ∃ a b c, thr x3 y3 x1 y1 = some (a, b, c) ∧ Sm 140 a ∧ Sm 140 b ∧ Sm 140 c) (z2 : ¬ (x1 = x2 ∧ y1 = y2) → ∃ a b c, thr x1 y1 x2 y2 = some (a, b, c) ∧ Sm 140 a ∧ Sm 140 b ∧ Sm 140 c) (cr : crt x1 y1 x2 y2 x3 y3 = 0) (q : ∀ H', Same H H' → Q (.bl true) H') : spFlat K ([.ref D, .ref E] ++ []) H Q Ex := ⟨D, E, v0, v1, v2, w0, w1, w2, x1, y1, x2, y2, x3, y3, rfl, hD, hE, k0, k1, k2, l0, l1, l2, s1, s2, s3, s4, s5, s6, z0, z1, z2, cr, q⟩
theorem z_mono {x y x' y' : Rat} {n m : Nat} (l : n ≤ m) (z : ¬ (x = x' ∧ y = y') → ∃ a b c, thr x y x' y' = some (a, b, c) ∧ Sm n a ∧ Sm n b ∧ Sm n c) : ¬ (x = x' ∧ y = y') → ∃ a b c, thr x y x' y' = some (a, b, c) ∧ Sm m a ∧ Sm m b ∧ Sm m c := fun h => by
  obtain ⟨a, b, c, e, s1, s2, s3⟩ := z h
  exact ⟨a, b, c, e, s1.mono l, s2.mono l, s3.mono l⟩
theorem lo_lq {K : PySem.W.Frag} {H : Hp} {v : V} {x y x' y' : Rat} {n : Nat} (ne : ¬ (x = x' ∧ y = y')) (h : Lo K H v (thr x y x' y')) (z : ¬ (x = x' ∧ y = y') → ∃ a b c, thr x y x' y' = some (a, b, c) ∧ Sm n a ∧ Sm n b ∧ Sm n c) : ∃ a b c, Lq K H v a b c ∧ Ln a b c ∧ (a : Rat) * x + b * y = c ∧ (a : Rat) * x' + b * y' = c ∧ Sm n a ∧ Sm n b ∧ Sm n c := by
  obtain ⟨a, b, c, e, s1, s2, s3⟩ := z ne
  rw [e] at h
  obtain ⟨_, h1, h2, h3⟩ := thr_spec e
  exact ⟨a, b, c, h, h1, h2, h3, s1, s2, s3⟩
theorem lc3 {K : PySem.W.Frag} {te : TE} {σ : St} {H1 : Hp} {Q : VK} {j : Nat} (P : Nat → Int → Int → Int → Prop)
    (hw : ∀ x, wipe ((wipe σ [j]).set j x) [j] = wipe σ [j])
    (step : ∀ (i : Nat) (H' : Hp), i < 3 → Same H1 H' → ∀ N : VK, (∀ (y : V) (H4 : Hp) (A B C : Int), Same H' H4 → Lq K H4 y A B C → P i A B C → N y H4) → te ((wipe σ [j]).set j (some (.int (0 + i)))) H' N)
    (fin : ∀ (D : Addr) (v0 v1 v2 : V) (H' : Hp) (a0 b0 c0 a1 b1 c1 a2 b2 c2 : Int), Same H1 H' → H' D = some (.lst [v0, v1, v2]) → Lq K H' v0 a0 b0 c0 → Lq K H' v1 a1 b1 c1 → Lq K H' v2 a2 b2 c2 → P 0 a0 b0 c0 → P 1 a1 b1 c1 → P 2 a2 b2 c2 → Q (.ref D) H') : tLc (iRng1 (tCons (tC (.int 3)) tNil)) (gName j) tYes te [j] σ H1 Q := by
  refine ⟨_, rfl, by decide, by decide, fun D hD => lc_range (n := 3) (fun i H' => ∃ us : List V, us.length = i ∧ Same H1 H' ∧ H' D = some (.lst us) ∧ ∀ (k : Nat) (v : V), us[k]? = some v → ∃ A B C, Lq K H' v A B C ∧ P k A B C) ?_ ?_ ?_⟩
  · exact ⟨[], rfl, same_new hD _, upd_same, fun k v h => by cases h⟩
  · rintro i H' hi ⟨us, e, g, hD', mem⟩
    show wipe ((wipe σ [j]).set j _) [j] = _ ∧ _
    refine ⟨hw _, ?_⟩
    refine r_yesT ?_
    refine r_keep ?_
    refine step i H' hi g _ (fun y H4 A B C g4 kl p => ?_)
    have eD := g4 _ _ hD'
    have b4 := But.upd D H4 (.lst (us ++ [y]))
    refine ⟨us, eD, by rw [e]; exact Nat.lt_trans hi (by decide), us ++ [y], by simp [e], same_updN (g.trans g4) hD, upd_same, fun k v hk => ?_⟩
    by_cases hk2 : k < us.length
    · rw [List.getElem?_append_left hk2] at hk
      obtain ⟨A', B', C', k', p'⟩ := mem k v hk
      exact ⟨A', B', C', (k'.up g4).but eD b4, p'⟩
    · have : k = i := by
        have : k < (us ++ [y]).length := (List.getElem?_eq_some_iff.mp hk).1
        simp [e] at this
        omega
      subst this
      rw [List.getElem?_append_right (by omega)] at hk
      rw [e] at hk
      simp at hk
      subst hk
      exact ⟨A, B, C, kl.but eD b4, p⟩
  · rintro H' ⟨us, e, g, hD', mem⟩
    match us, e with
    | [v0, v1, v2], _ =>
      obtain ⟨a0, b0, c0, k0, p0⟩ := mem 0 v0 rfl
      obtain ⟨a1, b1, c1, k1, p1⟩ := mem 1 v1 rfl
      obtain ⟨a2, b2, c2, k2, p2⟩ := mem 2 v2 rfl
      exact fin D v0 v1 v2 H' _ _ _ _ _ _ _ _ _ g hD' k0 k1 k2 p0 p1 p2
theorem Fq.lit {K : PySem.W.Frag} {H : Hp} {a : Addr} {t b : Int} {q : Rat} (h : H a = some (.tup [.int t, .int b])) (e1 : q.num = t) (e2 : (q.den : Int) = b) : Fq K H (.ref a) q := ⟨a, rfl, tupOf (by rw [e1, e2]; exact h)⟩
theorem r_neB {H : Hp} {Q : VK} {i j : Bool} (e : i = j) (q : Q (.bl false) H) : rNe (.bl i) (.bl j) H Q := ⟨rfl, by subst e; simpa using q⟩
theorem r_isNLo {K : PySem.W.Frag} {H : Hp} {Q : VK} {v : V} {x y x' y' : Rat} {n : Nat} (h : Lo K H v (thr x y x' y')) (z : ¬ (x = x' ∧ y = y') → ∃ a b c, thr x y x' y' = some (a, b, c) ∧ Sm n a ∧ Sm n b ∧ Sm n c) (q : Q (.bl (decide (x = x' ∧ y = y'))) H) : rIsNo v .non H Q := by
  refine ⟨rfl, ?_⟩
  by_cases e : x = x' ∧ y = y'
  · rw [thr_none e] at h
    have h : v = .non := h
    rw [decide_eq_true e] at q
    rw [h]
    exact q
  · rw [decide_eq_false e] at q
    obtain ⟨a, b, c, hL, _⟩ := lo_lq e h z
    obtain ⟨p, rfl, _⟩ := hL
    exact q
theorem mir_circ2 {a b c : Int} {px py qx qy tx ty X Y fx fy hx hy : Rat} (hL : Ln a b c) (o1 : (a : Rat) * px + b * py = c) (o2 : (a : Rat) * qx + b * qy = c) (ne : ¬ (px = qx ∧ py = qy)) (d0 : (X - (px + qx) / 2) * (qx - px) + (Y - (py + qy) / 2) * (qy - py) = 0) (e1 : hx = px + qx + tx - 2 * X) (e2 : hy = py + qy + ty - 2 * Y) (of : (a : Rat) * fx + b * fy = c) (sq : (b : Rat) * (fx - hx) = a * (fy - hy)) :
    (fx + fx - hx - X) * (fx + fx - hx - X) + (fy + fy - hy - Y) * (fy + fy - hy - Y) = (tx - X) * (tx - X) + (ty - Y) * (ty - Y) := by
  subst e1
  subst e2
  exact mir_circ hL o1 o2 ne d0 of sq
theorem t_p0 (a b c d : Rat) : a + b + c - d = b + c + a - d := by grind
theorem t_p1 (a b c d : Rat) : a + b + c - d = c + a + b - d := by grind
theorem t_hdot {xt yt xP yP xQ yQ X Y hx hy : Rat} (e1 : hx = xP + xQ + xt - 2 * X) (e2 : hy = yP + yQ + yt - 2 * Y) (E : (X - (xP + xQ) / 2) * (xQ - xP) + (Y - (yP + yQ) / 2) * (yQ - yP) = 0) : (hx - xt) * (xQ - xP) + (hy - yt) * (yQ - yP) = 0 := by
  rw [e1, e2]
  grind
theorem t_gon {A B C xt yt xP yP xQ yQ gx gy : Rat} (o1 : A * xt + B * yt = C) (o2 : A * ((xP + xQ) / 2) + B * ((yP + yQ) / 2) = C) (e1 : gx = (xP + xQ + xt) / 3) (e2 : gy = (yP + yQ + yt) / 3) : A * gx + B * gy = C := by
  rw [e1, e2]
  grind
theorem t_sub {A B C x y u v : Rat} (o1 : A * x + B * y = C) (o2 : A * u + B * v = C) : A * (u - x) + B * (v - y) = 0 := by grind
theorem t_g0 (a b c : Rat) : (a + b + c) / 3 = (b + c + a) / 3 := by grind
theorem t_g1 (a b c : Rat) : (a + b + c) / 3 = (c + a + b) / 3 := by grind
section
variable {xp yp xq yq xr yr : Rat}
theorem t_s01 : (xr - xq) * (yp - yr) - (yr - yq) * (xp - xr) = (xp - xr) * (yq - yr) - (yp - yr) * (xq - xr) := by grind
theorem t_s20 : (xq - xp) * (yr - yq) - (yq - yp) * (xr - xq) = (xp - xr) * (yq - yr) - (yp - yr) * (xq - xr) := by grind
theorem t_m01 : ((xq + xr) / 2 - xp) * ((yr + yp) / 2 - yq) - ((yq + yr) / 2 - yp) * ((xr + xp) / 2 - xq) = 3 / 4 * ((xp - xr) * (yq - yr) - (yp - yr) * (xq - xr)) := by grind
theorem t_m20 : ((xp + xq) / 2 - xr) * ((yq + yr) / 2 - yp) - ((yp + yq) / 2 - yr) * ((xq + xr) / 2 - xp) = 3 / 4 * ((xp - xr) * (yq - yr) - (yp - yr) * (xq - xr)) := by grind
theorem t_34 {z : Rat} (h : z ≠ 0) : 3 / 4 * z ≠ 0 := by grind
theorem t_sh1 (X h g a : Rat) (e1 : h = a - 2 * X) (e2 : g = a / 3) : X + 1 / 3 * (h - X) = g := by rw [e1, e2]; grind
theorem t_sh2 (x a b g : Rat) (e : g = (a + b + x) / 3) : x + 2 / 3 * ((a + b) / 2 - x) = g := by rw [e]; grind
theorem t_par (xP yP xQ yQ xt yt : Rat) : ((xt + xP) / 2 - (xQ + xt) / 2) * (yQ - yP) = ((yt + yP) / 2 - (yQ + yt) / 2) * (xQ - xP) := by grind
end
end Mb
namespace Mb
open PySem L2
theorem r_seqP3 {i j l : Nat} {ta : TA} {u : TS} {D : Ends} {σ : St} {H : Hp} (q : ta σ H fun vs H1 => ∃ a b c, vs = [a, b, c] ∧ u D (((σ.set i (some a)).set j (some b)).set l (some c)) H1) : tSeq (tPar3 i j l ta) u D σ H := q
theorem r_par3 {a b c : V} {P : V → V → V → Prop} (q : P a b c) : ∃ a' b' c', [a, b, c] = [a', b', c'] ∧ P a' b' c' := ⟨a, b, c, rfl, q⟩
end Mb
namespace Mb
open PySem L2
def top (i : Nat) : Stmt := PySem.Challenge.pw_movebook_k16_whole_triangle.main.body.getD i (.Pass ⟨0, 0, 0, 0⟩)
abbrev s_common_divisor : Stmt := top 4
theorem sc_common_divisor : FnScope ["one", "other"] ["one", "other"] (defScope s_common_divisor) := ⟨rfl, rfl, rfl, by decide +kernel, rfl, by decide +kernel, by decide +kernel⟩
abbrev s_fraction : Stmt := top 6
theorem sc_fraction : FnScope ["top", "bottom", "divisor"] ["top", "bottom"] (defScope s_fraction) := ⟨rfl, rfl, rfl, by decide +kernel, rfl, by decide +kernel, by decide +kernel⟩
abbrev s_middle : Stmt := top 8
theorem sc_middle : FnScope ["p", "q"] ["p", "q"] (defScope s_middle) := ⟨rfl, rfl, rfl, by decide +kernel, rfl, by decide +kernel, by decide +kernel⟩
abbrev s_share : Stmt := top 9
theorem sc_share : FnScope ["p", "q", "t"] ["p", "q", "t"] (defScope s_share) := ⟨rfl, rfl, rfl, by decide +kernel, rfl, by decide +kernel, by decide +kernel⟩
abbrev s_beyond : Stmt := top 10
theorem sc_beyond : FnScope ["p", "q"] ["p", "q"] (defScope s_beyond) := ⟨rfl, rfl, rfl, by decide +kernel, rfl, by decide +kernel, by decide +kernel⟩
abbrev s_between : Stmt := top 11
theorem sc_between : FnScope ["start", "end", "t", "first", "last"] ["start", "end", "t"] (defScope s_between) := ⟨rfl, rfl, rfl, by decide +kernel, rfl, by decide +kernel, by decide +kernel⟩
abbrev s_cleared : Stmt := top 12
theorem sc_cleared : FnScope ["p", "x", "x_bottom", "y", "y_bottom", "divisor"] ["p"] (defScope s_cleared) := ⟨rfl, rfl, rfl, by decide +kernel, rfl, by decide +kernel, by decide +kernel⟩
abbrev s_through : Stmt := top 14
theorem sc_through : FnScope ["p", "q", "x", "y", "w", "to_x", "to_y", "to_w"] ["p", "q"] (defScope s_through) := ⟨rfl, rfl, rfl, by decide +kernel, rfl, by decide +kernel, by decide +kernel⟩
abbrev s_along : Stmt := top 15
theorem sc_along : FnScope ["p", "line"] ["p", "line"] (defScope s_along) := ⟨rfl, rfl, rfl, by decide +kernel, rfl, by decide +kernel, by decide +kernel⟩
abbrev s_upright : Stmt := top 16
theorem sc_upright : FnScope ["p", "line"] ["p", "line"] (defScope s_upright) := ⟨rfl, rfl, rfl, by decide +kernel, rfl, by decide +kernel, by decide +kernel⟩
abbrev s_meet : Stmt := top 17
theorem sc_meet : FnScope ["line", "other", "a", "b", "c", "other_a", "other_b", "other_c", "apart"] ["line", "other"] (defScope s_meet) := ⟨rfl, rfl, rfl, by decide +kernel, rfl, by decide +kernel, by decide +kernel⟩
abbrev s_foot : Stmt := top 18
theorem sc_foot : FnScope ["p", "line"] ["p", "line"] (defScope s_foot) := ⟨rfl, rfl, rfl, by decide +kernel, rfl, by decide +kernel, by decide +kernel⟩
abbrev s_mirror : Stmt := top 19
theorem sc_mirror : FnScope ["p", "line"] ["p", "line"] (defScope s_mirror) := ⟨rfl, rfl, rfl, by decide +kernel, rfl, by decide +kernel, by decide +kernel⟩
abbrev s_line_at : Stmt := top 20
theorem sc_line_at : FnScope ["p", "a", "b", "x", "y", "w"] ["p", "a", "b"] (defScope s_line_at) := ⟨rfl, rfl, rfl, by decide +kernel, rfl, by decide +kernel, by decide +kernel⟩
abbrev s_one_form : Stmt := top 21
theorem sc_one_form : FnScope ["a", "b", "c", "divisor"] ["a", "b", "c"] (defScope s_one_form) := ⟨rfl, rfl, rfl, by decide +kernel, rfl, by decide +kernel, by decide +kernel⟩
abbrev s_whole : Stmt := top 23
theorem sc_whole : FnScope ["_law_found"] ["_law_found"] (defScope s_whole) := ⟨rfl, rfl, rfl, by decide +kernel, rfl, by decide +kernel, by decide +kernel⟩
abbrev s_stream : Stmt := top 24
theorem sc_stream : FnScope ["_law_script", "_law_at", "_law_cell", "_law_rest", "_law_seed"] ["_law_script", "_law_at"] (defScope s_stream) := ⟨rfl, rfl, rfl, by decide +kernel, rfl, by decide +kernel, by decide +kernel⟩
abbrev s_take : Stmt := top 25
theorem sc_take : FnScope ["_law_stream_here", "_law_many", "_law_found", "_law_k", "_law_one", "_law_two"] ["_law_stream_here", "_law_many"] (defScope s_take) := ⟨rfl, rfl, rfl, by decide +kernel, rfl, by decide +kernel, by decide +kernel⟩
abbrev s_divisor : Stmt := top 26
theorem sc_divisor : FnScope ["_law_a", "_law_b"] ["_law_a", "_law_b"] (defScope s_divisor) := ⟨rfl, rfl, rfl, by decide +kernel, rfl, by decide +kernel, by decide +kernel⟩
abbrev s_lowest : Stmt := top 27
theorem sc_lowest : FnScope ["_law_pair", "_law_size"] ["_law_pair"] (defScope s_lowest) := ⟨rfl, rfl, rfl, by decide +kernel, rfl, by decide +kernel, by decide +kernel⟩
abbrev s_l_plus : Stmt := top 28
theorem sc_l_plus : FnScope ["_law_f", "_law_g"] ["_law_f", "_law_g"] (defScope s_l_plus) := ⟨rfl, rfl, rfl, by decide +kernel, rfl, by decide +kernel, by decide +kernel⟩
abbrev s_l_minus : Stmt := top 29
theorem sc_l_minus : FnScope ["_law_f", "_law_g"] ["_law_f", "_law_g"] (defScope s_l_minus) := ⟨rfl, rfl, rfl, by decide +kernel, rfl, by decide +kernel, by decide +kernel⟩
abbrev s_l_times : Stmt := top 30
theorem sc_l_times : FnScope ["_law_f", "_law_g"] ["_law_f", "_law_g"] (defScope s_l_times) := ⟨rfl, rfl, rfl, by decide +kernel, rfl, by decide +kernel, by decide +kernel⟩
abbrev s_same : Stmt := top 31
theorem sc_same : FnScope ["_law_f", "_law_g"] ["_law_f", "_law_g"] (defScope s_same) := ⟨rfl, rfl, rfl, by decide +kernel, rfl, by decide +kernel, by decide +kernel⟩
abbrev s_is_fraction : Stmt := top 32
theorem sc_is_fraction : FnScope ["_law_found"] ["_law_found"] (defScope s_is_fraction) := ⟨rfl, rfl, rfl, by decide +kernel, rfl, by decide +kernel, by decide +kernel⟩
abbrev s_is_place : Stmt := top 33
theorem sc_is_place : FnScope ["_law_found"] ["_law_found"] (defScope s_is_place) := ⟨rfl, rfl, rfl, by decide +kernel, rfl, by decide +kernel, by decide +kernel⟩
abbrev s_l_on : Stmt := top 34
theorem sc_l_on : FnScope ["_law_line", "_law_p", "_law_x", "_law_y", "_law_left"] ["_law_line", "_law_p"] (defScope s_l_on) := ⟨rfl, rfl, rfl, by decide +kernel, rfl, by decide +kernel, by decide +kernel⟩
abbrev s_cross : Stmt := top 35
theorem sc_cross : FnScope ["_law_p", "_law_q", "_law_r", "_law_left", "_law_right"] ["_law_p", "_law_q", "_law_r"] (defScope s_cross) := ⟨rfl, rfl, rfl, by decide +kernel, rfl, by decide +kernel, by decide +kernel⟩
abbrev s_far : Stmt := top 36
theorem sc_far : FnScope ["_law_p", "_law_q", "_law_x", "_law_y"] ["_law_p", "_law_q"] (defScope s_far) := ⟨rfl, rfl, rfl, by decide +kernel, rfl, by decide +kernel, by decide +kernel⟩
abbrev s_l_way : Stmt := top 37
theorem sc_l_way : FnScope ["_law_p", "_law_q", "_law_t", "_law_x", "_law_y"] ["_law_p", "_law_q", "_law_t"] (defScope s_l_way) := ⟨rfl, rfl, rfl, by decide +kernel, rfl, by decide +kernel, by decide +kernel⟩
abbrev s_small : Stmt := top 38
theorem sc_small : FnScope ["_law_stream_here", "_law_whole_here", "_law_top"] ["_law_stream_here"] (defScope s_small) := ⟨rfl, rfl, rfl, by decide +kernel, rfl, by decide +kernel, by decide +kernel⟩
abbrev s_small_place : Stmt := top 39
theorem sc_small_place : FnScope ["_law_stream_here"] ["_law_stream_here"] (defScope s_small_place) := ⟨rfl, rfl, rfl, by decide +kernel, rfl, by decide +kernel, by decide +kernel⟩
abbrev s_small_near : Stmt := top 40
theorem sc_small_near : FnScope ["_law_stream_here", "_law_p", "_law_at", "_law_found"] ["_law_stream_here", "_law_p"] (defScope s_small_near) := ⟨rfl, rfl, rfl, by decide +kernel, rfl, by decide +kernel, by decide +kernel⟩
abbrev s_flat : Stmt := top 41
theorem sc_flat : FnScope ["_law_corners", "_law_sides", "_law_k"] ["_law_corners", "_law_sides"] (defScope s_flat) := ⟨rfl, rfl, rfl, by decide +kernel, rfl, by decide +kernel, by decide +kernel⟩
abbrev s_one_place : Stmt := top 42
theorem sc_one_place : FnScope ["_law_lines", "_law_found"] ["_law_lines"] (defScope s_one_place) := ⟨rfl, rfl, rfl, by decide +kernel, rfl, by decide +kernel, by decide +kernel⟩
abbrev s_law : Stmt := top 43
theorem sc_law : FnScope ["_law_script", "_law_p", "_law_q", "_law_stream_here", "_law_flat_here", "_law_r", "_law_corners", "_law_sides", "_law_middles", "_law_high", "_law_k", "_law_heavy", "_law_round_one"] ["_law_script"] (defScope s_law) := ⟨rfl, rfl, rfl, by decide +kernel, rfl, by decide +kernel, by decide +kernel⟩
/-! ### the steps of a reading, taken by a word of one's own -/
local macro_rules | `(tactic| walk_at "sm") => `(tactic| first
  | assumption
  | ((with_reducible refine Mb.Sm.mul (m := ?mm) (n := ?nn) ?ga ?gb); (case ga => walk_at "sm"); (case gb => walk_at "sm"))
  | ((with_reducible refine Mb.Sm.addm (m := ?mm) (n := ?nn) ?ga ?gb); (case ga => walk_at "sm"); (case gb => walk_at "sm"))
  | ((with_reducible refine Mb.Sm.subm (m := ?mm) (n := ?nn) ?ga ?gb); (case ga => walk_at "sm"); (case gb => walk_at "sm"))
  | ((with_reducible refine Mb.Sm.neg (n := ?nn) ?ga); (case ga => walk_at "sm"))
  | exact Mb.Sm.lit (by decide)
  | exact Mb.Sm.lit2 (by decide +kernel))
local macro_rules | `(tactic| walk_at "c") => `(tactic| first
  | assumption
  | exact ⟨by decide, by decide, by decide⟩
  | (show (0 : Int) < _; omega)
  | exact Mb.Sm.cdiv (n := 64) (by decide) (by decide)
  | exact Mb.Sm.cmul (by walk_at "sm") (by walk_at "sm"))
local macro_rules | `(tactic| walk_at "st") => `(tactic| first
  | ((with_reducible refine Mb.r_var (v := ?vv) ?hv ?_); (case hv => rfl))
  | with_reducible refine Mb.r_c ?_
  | with_reducible refine Mb.r_op ?_
  | with_reducible refine Mb.r_un ?_
  | with_reducible refine Mb.r_i0 ?_
  | with_reducible refine Mb.r_u ?_
  | with_reducible refine Mb.r_eqI ?_
  | with_reducible refine Mb.r_neI ?_
  | with_reducible refine Mb.r_eqB ?_
  | with_reducible refine Mb.r_eqS ?_
  | with_reducible refine Mb.r_cb ?_
  | with_reducible refine Mb.r_bits ?_
  | with_reducible refine Mb.r_int ?_
  | with_reducible refine Mb.r_nil ?_
  | with_reducible refine Mb.r_cons ?_
  | with_reducible refine Mb.r_tup ?_
  | with_reducible refine Mb.r_lst ?_
  | with_reducible refine Mb.r_call ?_
  | with_reducible refine Mb.r_seqA ?_
  | with_reducible refine Mb.r_seqD ?_
  | with_reducible refine Mb.r_seqP ?_
  | with_reducible refine Mb.r_next ?_
  | with_reducible refine Mb.r_nx ?_
  | with_reducible refine Mb.r_asg ?_
  | ((with_reducible refine Mb.r_gname ?_); dsimp only [List.set])
  | with_reducible refine Mb.r_gsub ?_
  | with_reducible refine Mb.r_ret ?_
  | with_reducible refine Mb.r_drop ?_
  | with_reducible refine Mb.r_ifs ?_
  | with_reducible refine Mb.r_test ?_
  | with_reducible refine Mb.r_tB ?_
  | with_reducible refine Mb.r_bl ?_
  | (dsimp only; (with_reducible refine Mb.r_bl ?_))
  | with_reducible refine Mb.r_and ?_
  | with_reducible refine Mb.r_or ?_
  | with_reducible refine Mb.r_not ?_
  | with_reducible refine Mb.r_andV ?_
  | with_reducible refine Mb.r_orV ?_
  | with_reducible refine Mb.r_notV ?_
  | with_reducible refine Mb.r_par ?_
  | ((with_reducible refine Mb.r_two ?_); dsimp only [List.set])
  | ((with_reducible refine Mb.r_ixL (xs := ?xx) (v := ?vv) ?h1 ?h2 ?_); (case h1 => first | assumption | exact Mb.lstOf (by assumption)); (case h2 => rfl))
  | ((with_reducible refine Mb.r_ixT (xs := ?xx) (v := ?vv) ?h1 ?h2 ?_); (case h1 => first | assumption | exact Mb.tupOf (by assumption)); (case h2 => rfl))
  | ((with_reducible refine Mb.r_i ?c ?_); (case c => walk_at "c"))
  | with_reducible refine Mb.r_T ?_
  | with_reducible refine Mb.r_F ?_
  | with_reducible refine Mb.r_nT ?_
  | with_reducible refine Mb.r_nF ?_)
local macro_rules | `(tactic| walk_at "sr") => `(tactic| first
  | assumption
  | ((with_reducible refine Mb.Sr.same (H := ?HH) ?ga ?gb); (case gb => assumption); (case ga => walk_at "sr"))
  | ((with_reducible refine Mb.Sr.but (H := ?HH) (q := ?qq) ?ga ?gn ?gb); (case gb => assumption); (case gn => first | assumption | ((refine Mb.Sr.ne2 (H := ?HN) (b := ?bn) ?gx ?gy); (case gy => assumption); (case gx => walk_at "sr"))); (case ga => walk_at "sr")))
local macro_rules | `(tactic| walk_at "wipe") => `(tactic| repeat first
  | ((with_reducible rename Mb.Fq _ _ _ _ => hz); clear hz)
  | ((with_reducible rename Mb.Pq _ _ _ _ _ => hz); clear hz)
  | ((with_reducible rename Mb.Rq _ _ _ _ _ => hz); clear hz)
  | ((with_reducible rename Mb.Sz _ _ => hz); clear hz)
  | ((with_reducible rename L2.Same _ _ => hz); clear hz)
  | ((with_reducible rename Mb.But _ _ _ => hz); clear hz)
  | ((with_reducible rename Mb.Sr _ _ _ => hz); clear hz)
  | ((with_reducible rename Mb.Kn _ _ _ _ _ _ _ _ _ => hz); clear hz)
  | ((with_reducible rename L2.SqL _ _ _ _ => hz); clear hz)
  | ((with_reducible rename L2.Room _ _ => hz); clear hz))
local macro_rules | `(tactic| walk_at "sz") => `(tactic| first
  | assumption
  | ((with_reducible refine Mb.Sz.add (m := ?mm) (n := ?nn) ?ga ?gb); (case ga => walk_at "sz"); (case gb => walk_at "sz"))
  | ((with_reducible refine Mb.Sz.sub (m := ?mm) (n := ?nn) ?ga ?gb); (case ga => walk_at "sz"); (case gb => walk_at "sz"))
  | ((with_reducible refine Mb.Sz.mul (m := ?mm) (n := ?nn) ?ga ?gb); (case ga => walk_at "sz"); (case gb => walk_at "sz"))
  | ((with_reducible refine Mb.Sz.div (m := ?mm) (n := ?nn) ?ga ?gb ?gc); (case ga => walk_at "sz"); (case gb => walk_at "sz"); (case gc => first | assumption | decide))
  | ((with_reducible refine Mb.Sz.neg (m := ?mm) ?ga); (case ga => walk_at "sz"))
  | exact Mb.Sz.int (by walk_at "sm") (by decide)
  | (refine Mb.Sz.lit ?_ ?_ <;> decide))
local macro_rules | `(tactic| walk_at "fq") => `(tactic| first
  | assumption
  | ((with_reducible refine Mb.Fq.int (t := ?ti) ?ga); (case ga => assumption))
  | ((with_reducible refine Mb.Pq.mk (f := ?ff) (g := ?gg) ?ga ?gb ?gc); (case ga => assumption); (case gb => walk_at "fq"); (case gc => walk_at "fq"))
  | ((with_reducible refine Mb.Fq.rq (n := ?nn) ?ga ?gb); (case ga => walk_at "fq"); (case gb => walk_at "sz"))
  | ((with_reducible refine Mb.Rq.of2 (t := ?tt) (b := ?bb) (n := ?nn) (m := ?mm) ?ga ?gn ?gc ?gd); (case ga => assumption); (case gn => first | assumption | decide); (case gc => walk_at "sm"); (case gd => walk_at "sm"))
  | ((with_reducible refine Mb.Fq.up (H := ?HH) ?ga ?gb); (case gb => assumption); (case ga => walk_at "fq"))
  | ((with_reducible refine Mb.Pq.up (H := ?HH) ?ga ?gb); (case gb => assumption); (case ga => walk_at "fq"))
  | ((with_reducible refine Mb.Rq.up (H := ?HH) ?ga ?gb); (case gb => assumption); (case ga => walk_at "fq"))
  | ((with_reducible refine Mb.Fq.upB (H := ?HH) (p := ?pp) (b := ?bb) ?ga ?gb ?gc); (case gb => assumption); (case gc => walk_at "sr"); (case ga => walk_at "fq"))
  | ((with_reducible refine Mb.Pq.upB (H := ?HH) (p := ?pp) (b := ?bb) ?ga ?gb ?gc); (case gb => assumption); (case gc => walk_at "sr"); (case ga => walk_at "fq"))
  | ((with_reducible refine Mb.Rq.upB (H := ?HH) (p := ?pp) (b := ?bb) ?ga ?gb ?gc); (case gb => assumption); (case gc => walk_at "sr"); (case ga => walk_at "fq")))
local macro_rules | `(tactic| walk_at "free") => `(tactic| first
  | assumption
  | ((with_reducible refine L2.Same.free (H' := ?HH) ?ga ?gb); (case gb => assumption); (case ga => walk_at "same")))
local macro_rules | `(tactic| walk_at "same") => `(tactic| first
  | assumption
  | exact fun _ _ h => h
  | ((with_reducible refine L2.Same.trans (H1 := ?BB) ?ga ?gb); (case gb => assumption); (case ga => walk_at "same"))
  | ((with_reducible refine Mb.same_but (H := ?BB) (p := ?pp) ?ga ?gn ?gb); (case gb => assumption); (case gn => walk_at "free"); (case ga => walk_at "same")))
local macro_rules | `(tactic| walk_at "scr") => `(tactic| first
  | assumption
  | ((with_reducible refine L2.Same.seq (H := ?HH) ?ga ?gb); (case gb => assumption); (case ga => walk_at "same")))
local macro_rules | `(tactic| walk_at "q") => `(tactic| first
  | with_reducible refine Mb.r_tup2 ?_
  | with_reducible refine Mb.r_lst2 ?_
  | walk_at "st"
  | ((with_reducible refine Mb.r_newT ?l ?_); (case l => rfl); intro _ _ _ _ _)
  | ((with_reducible refine Mb.r_newL ?l ?_); (case l => rfl); intro _ _ _ _ _)
  | ((with_reducible refine Mb.r_ixF0 (q := ?qq) ?h ?_); (case h => walk_at "fq"))
  | ((with_reducible refine Mb.r_ixF1 (q := ?qq) ?h ?_); (case h => walk_at "fq"))
  | ((with_reducible refine Mb.r_ixP0 (x := ?xx) (y := ?yy) ?h ?_); (case h => walk_at "fq"); intro _ _)
  | ((with_reducible refine Mb.r_ixP1 (x := ?xx) (y := ?yy) ?h ?_); (case h => walk_at "fq"); intro _ _)
  | ((with_reducible refine Mb.r_q2 (p := ?pp) (q := ?qq) (n := ?nn) (m := ?mm) ?h1 ?h2 ?s1 ?s2 ?l1 ?pr ?_); (case h1 => walk_at "fq"); (case h2 => walk_at "fq"); (case s1 => walk_at "sz"); (case s2 => walk_at "sz"); (case l1 => rfl); (case pr => first | trivial | assumption | (show ¬ _; decide)); intro _ _ _ _)
  | ((with_reducible refine Mb.r_r2 (p := ?pp) (q := ?qq) (n := ?nn) (m := ?mm) ?h1 ?h2 ?l1 ?l2 ?_); (case h1 => walk_at "fq"); (case h2 => walk_at "fq"); (case l1 => rfl); (case l2 => rfl); intro _ _ _ _)
  | ((with_reducible refine Mb.r_s2 (p := ?pp) (q := ?qq) (n := ?nn) (m := ?mm) ?h1 ?h2 ?l1 ?l2 ?_); (case h1 => walk_at "fq"); (case h2 => walk_at "fq"); (case l1 => rfl); (case l2 => rfl))
  | ((with_reducible refine Mb.r_p2 (x := ?xx) (y := ?yy) (x' := ?xx2) (y' := ?yy2) (n := ?nn) (n2 := ?nn2) (m := ?mm) (m2 := ?mm2) ?h1 ?h2 ?s1 ?s2 ?s3 ?s4 ?l ?_); (case h1 => walk_at "fq"); (case h2 => walk_at "fq"); (case s1 => walk_at "sz"); (case s2 => walk_at "sz"); (case s3 => walk_at "sz"); (case s4 => walk_at "sz"); (case l => rfl); intro _ _ _ _)
  | ((with_reducible refine Mb.r_stream (ns := ?nn) ?hS ?hl ?i0 ?i1 ?_); (case hS => walk_at "scr"); (case hl => assumption); (case i0 => decide); (case i1 => decide); intro _ _ _ _ _)
  | ((with_reducible refine Mb.r_placeQ (b := ?bb) (m := 211) ?hp ?l ?k0 ?k1 ?hm ?_); (case hm => decide); (case hp => walk_at "sr"); (case l => decide); (case k0 => decide); (case k1 => decide); intro _ _ _ _ _ _ _ _ _)
  | ((with_reducible refine Mb.r_placeQ (b := ?bb) (m := 31) ?hp ?l ?k0 ?k1 ?hm ?_); (case hm => decide); (case hp => walk_at "sr"); (case l => decide); (case k0 => decide); (case k1 => decide); intro _ _ _ _ _ _ _ _ _)
  | ((with_reducible refine Mb.r_placeQ (b := ?bb) (m := 11) ?hp ?l ?k0 ?k1 ?hm ?_); (case hm => decide); (case hp => walk_at "sr"); (case l => decide); (case k0 => decide); (case k1 => decide); intro _ _ _ _ _ _ _ _ _)
  | ((with_reducible refine Mb.r_nearQ (b := ?bb) (m := 211) (x := ?xx) (y := ?yy) ?hp ?l ?k0 ?k1 ?hm ?hw ?sx ?sy ?_); (case hm => decide); (case hp => walk_at "sr"); (case hw => walk_at "fq"); (case sx => assumption); (case sy => assumption); (case l => decide); (case k0 => decide); (case k1 => decide); intro _ _ _ _ _ _ _ _ _)
  | ((with_reducible refine Mb.r_nearQ (b := ?bb) (m := 31) (x := ?xx) (y := ?yy) ?hp ?l ?k0 ?k1 ?hm ?hw ?sx ?sy ?_); (case hm => decide); (case hp => walk_at "sr"); (case hw => walk_at "fq"); (case sx => assumption); (case sy => assumption); (case l => decide); (case k0 => decide); (case k1 => decide); intro _ _ _ _ _ _ _ _ _)
  | ((with_reducible refine Mb.r_nearQ (b := ?bb) (m := 11) (x := ?xx) (y := ?yy) ?hp ?l ?k0 ?k1 ?hm ?hw ?sx ?sy ?_); (case hm => decide); (case hp => walk_at "sr"); (case hw => walk_at "fq"); (case sx => assumption); (case sy => assumption); (case l => decide); (case k0 => decide); (case k1 => decide); intro _ _ _ _ _ _ _ _ _)
  | ((with_reducible refine Mb.r_isP (x := ?xx) (y := ?yy) ?h ?_); (case h => walk_at "fq"))
  | ((with_reducible refine Mb.r_shared (x0 := ?aa) (y0 := ?bb) (x := ?xx) (y := ?yy) (x' := ?xx2) (y' := ?yy2) (t := ?tt) (n := ?nn) (n2 := ?nn2) ?h0 ?h1 ?h2 ?h3 ?s0 ?s1 ?l ?s2 ?s3 ?s4 ?s5 ?e1 ?e2 ?_); (case h0 => walk_at "fq"); (case h1 => walk_at "fq"); (case h2 => walk_at "fq"); (case h3 => walk_at "fq"); (case s0 => walk_at "sz"); (case s1 => walk_at "sz"); (case l => rfl); (case s2 => assumption); (case s3 => assumption); (case s4 => assumption); (case s5 => assumption); (case e1 => rfl); (case e2 => rfl); intro _ _)
  | ((with_reducible refine Mb.r_takeS (b := ?bb) ?hp ?l ?k0 ?k1 ?_); (case hp => walk_at "sr"); (case l => decide); (case k0 => decide); (case k1 => decide); intro _ _ _ _ _ _)
  | ((with_reducible refine Mb.r_fracQ (b := ?bb) (m := 211) ?hp ?l ?k0 ?k1 ?hm ?_); (case hm => decide); (case hp => walk_at "sr"); (case l => decide); (case k0 => decide); (case k1 => decide); intro _ _ _ _ _ _ _)
  | ((with_reducible refine Mb.r_fracQ (b := ?bb) (m := 31) ?hp ?l ?k0 ?k1 ?hm ?_); (case hm => decide); (case hp => walk_at "sr"); (case l => decide); (case k0 => decide); (case k1 => decide); intro _ _ _ _ _ _ _)
  | ((with_reducible refine Mb.r_fracQ (b := ?bb) (m := 11) ?hp ?l ?k0 ?k1 ?hm ?_); (case hm => decide); (case hp => walk_at "sr"); (case l => decide); (case k0 => decide); (case k1 => decide); intro _ _ _ _ _ _ _)
  | ((with_reducible refine Mb.r_share (x := ?xx) (y := ?yy) (x' := ?xx2) (y' := ?yy2) (t := ?tt) (n := ?nn) (n2 := ?nn2) (m := ?mm) (m2 := ?mm2) (k := ?kk) ?h1 ?h2 ?h3 ?s1 ?s2 ?s3 ?s4 ?s5 ?l ?l2 ?_); (case h1 => walk_at "fq"); (case h2 => walk_at "fq"); (case h3 => walk_at "fq"); (case s1 => walk_at "sz"); (case s2 => walk_at "sz"); (case s3 => walk_at "sz"); (case s4 => walk_at "sz"); (case s5 => walk_at "sz"); (case l => rfl); (case l2 => rfl); intro _ _ _ _))
local macro_rules | `(tactic| walk_at "eqp") => `(tactic| first
  | ((refine Mb.r_neP (x := ?xx) (y := ?yy) (x' := ?xx2) (y' := ?yy2) ?h1 ?h2 ?e ?_); (case h1 => walk_at "fq"); (case h2 => walk_at "fq"); (case e => (walk_at "wipe"; constructor <;> grind)))
  | ((refine Mb.r_eqP (x := ?xx) (y := ?yy) (x' := ?xx2) (y' := ?yy2) ?h1 ?h2 ?e ?_); (case h1 => walk_at "fq"); (case h2 => walk_at "fq"); (case e => (walk_at "wipe"; constructor <;> grind)))
  | ((refine Mb.r_eqQ (p := ?xx) (q := ?yy) ?h1 ?h2 ?e ?_); (case h1 => walk_at "fq"); (case h2 => walk_at "fq"); (case e => (walk_at "wipe"; grind))))
local macro_rules | `(tactic| walk_at "fin") => `(tactic| first
  | ((refine Mb.Pq.cast (x := ?xx) (y := ?yy) ?h ?ex ?ey); (case h => walk_at "fq"); (case ex => first | rfl | (walk_at "wipe"; grind)); (case ey => first | rfl | (walk_at "wipe"; grind)))
  | ((refine Mb.Fq.cast (x := ?xx) ?h ?ex); (case h => walk_at "fq"); (case ex => first | rfl | (walk_at "wipe"; grind))))
local macro_rules | `(tactic| walk_at "no") => `(tactic| first
  | ((with_reducible refine Mb.r_noN ?h ?_); (case h => (walk_at "wipe"; grind)))
  | ((with_reducible refine Mb.r_no ?h ?_); (case h => (walk_at "wipe"; grind)))
  | ((with_reducible refine Mb.r_yes ?h ?_); (case h => (walk_at "wipe"; grind))))
local macro_rules | `(tactic| walk_at "ql") => `(tactic| first
  | walk_at "q"
  | ((with_reducible refine Mb.r_lowQ (q := ?qq) (n := ?nn) ?h ?l ?_); (case h => walk_at "fq"); (case l => rfl); intro _ _ _ _))
local macro_rules | `(tactic| walk_at "lq") => `(tactic| first
  | assumption
  | ((with_reducible refine Mb.Lq.mk ?ga); (case ga => assumption))
  | ((with_reducible refine Mb.Lq.up (H := ?HH) ?ga ?gb); (case gb => assumption); (case ga => walk_at "lq"))
  | ((with_reducible refine Mb.Lq.upB (H := ?HH) (p := ?pp) (n := ?nn) ?ga ?gb ?gc); (case gb => assumption); (case gc => walk_at "sr"); (case ga => walk_at "lq")))
local macro_rules | `(tactic| walk_at "g") => `(tactic| first
  | walk_at "q"
  | with_reducible refine Mb.r_gcons ?_
  | with_reducible refine Mb.r_gnil ?_
  | ((with_reducible refine Mb.r_gL (a := ?aa) (b := ?bb) (c := ?cc) ?h ?l ?_); (case l => rfl); (case h => walk_at "lq"))
  | ((with_reducible refine Mb.r_gF (x := ?xx) ?h ?l ?_); (case l => rfl); (case h => walk_at "fq"))
  | ((with_reducible refine Mb.r_gP (x := ?xx) (y := ?yy) ?h ?l ?_); (case l => rfl); (case h => walk_at "fq"); intro _ _ _ _)
  | ((with_reducible refine Mb.r_ixL0 (a := ?aa) (b := ?bb) (c := ?cc) ?h ?_); (case h => walk_at "lq"))
  | ((with_reducible refine Mb.r_ixL1 (a := ?aa) (b := ?bb) (c := ?cc) ?h ?_); (case h => walk_at "lq"))
  | ((with_reducible refine Mb.r_ixL2 (a := ?aa) (b := ?bb) (c := ?cc) ?h ?_); (case h => walk_at "lq"))
  | ((with_reducible refine Mb.r_cleared (x := ?xx) (y := ?yy) (n := ?nn) (m := ?mm) ?h ?s1 ?s2 ?l ?_); (case h => walk_at "fq"); (case s1 => walk_at "sz"); (case s2 => walk_at "sz"); (case l => rfl); intro _ _ _ _ _ _ _ _ _ _ _ _ _)
  | ((with_reducible refine Mb.r_wayI (x := ?xx) (y := ?yy) (x' := ?xx2) (y' := ?yy2) (n := ?nn) (n2 := ?nn2) (m := ?mm) (m2 := ?mm2) ?h1 ?h2 ?s1 ?s2 ?s3 ?s4 ?l1 ?l2 ?_); (case h1 => walk_at "fq"); (case h2 => walk_at "fq"); (case s1 => walk_at "sz"); (case s2 => walk_at "sz"); (case s3 => walk_at "sz"); (case s4 => walk_at "sz"); (case l1 => rfl); (case l2 => rfl); intro _ _ _ _ _ _ _ _ _ _ _ _ _)
  | with_reducible refine Mb.r_isNN ?_
  | with_reducible refine Mb.r_notNN ?_
  | with_reducible refine Mb.r_eqN ?_
  | with_reducible refine Mb.r_neN ?_)
local macro_rules | `(tactic| walk_at "lo") => `(tactic| first
  | assumption
  | ((with_reducible refine Mb.Lo.up (H := ?HH) ?ga ?gb); (case gb => assumption); (case ga => walk_at "lo"))
  | ((with_reducible refine Mb.Lo.upB (H := ?HH) (p := ?pp) (n := ?nn) ?ga ?gb ?gc); (case gb => assumption); (case gc => walk_at "sr"); (case ga => walk_at "lo")))
local macro_rules | `(tactic| walk_at "po") => `(tactic| first
  | assumption
  | ((with_reducible refine Mb.Po.up (H := ?HH) ?ga ?gb); (case gb => assumption); (case ga => walk_at "po"))
  | ((with_reducible refine Mb.Po.upB (H := ?HH) (p := ?pp) (n := ?nn) ?ga ?gb ?gc); (case gb => assumption); (case gc => walk_at "sr"); (case ga => walk_at "po")))
local macro_rules | `(tactic| walk_at "w") => `(tactic| first
  | walk_at "g"
  | ((with_reducible refine Mb.r_lowQ (q := ?qq) (n := ?nn) ?h ?l ?_); (case h => walk_at "fq"); (case l => rfl); intro _ _ _ _)
  | ((with_reducible refine Mb.r_thruO (x := ?xx) (y := ?yy) (x' := ?xx2) (y' := ?yy2) (n := ?nn) (n2 := ?nn2) (m := ?mm) (m2 := ?mm2) ?h1 ?h2 ?s1 ?s2 ?s3 ?s4 ?l ?_); (case h1 => walk_at "fq"); (case h2 => walk_at "fq"); (case s1 => walk_at "sz"); (case s2 => walk_at "sz"); (case s3 => walk_at "sz"); (case s4 => walk_at "sz"); (case l => rfl); intro _ _ _ _ _)
  | ((with_reducible refine Mb.r_meetO (a := ?aa) (b := ?bb) (c := ?cc) (a' := ?aa2) (b' := ?bb2) (c' := ?cc2) (n := ?nn) (n2 := ?nn2) (n3 := ?nn3) (m := ?mm) (m2 := ?mm2) (m3 := ?mm3) ?h1 ?h2 ?s1 ?s2 ?s3 ?s4 ?s5 ?s6 ?l ?_); (case h1 => walk_at "lq"); (case h2 => walk_at "lq"); (case s1 => walk_at "sm"); (case s2 => walk_at "sm"); (case s3 => walk_at "sm"); (case s4 => walk_at "sm"); (case s5 => walk_at "sm"); (case s6 => walk_at "sm"); (case l => rfl); intro _ _ _ _ _)
  | ((with_reducible refine Mb.r_along (x := ?xx) (y := ?yy) (a := ?aa) (b := ?bb) (c := ?cc) (n := ?nn) (n2 := ?nn2) (k := ?kk) (k2 := ?kk2) ?h1 ?h2 ?hl ?s1 ?s2 ?s3 ?s4 ?l ?_); (case h1 => walk_at "fq"); (case h2 => walk_at "lq"); (case hl => assumption); (case s1 => walk_at "sz"); (case s2 => walk_at "sz"); (case s3 => walk_at "sm"); (case s4 => walk_at "sm"); (case l => rfl); intro _ _ _ _ _ _ _ _ _ _ _ _ _)
  | ((with_reducible refine Mb.r_foot (x := ?xx) (y := ?yy) (a := ?aa) (b := ?bb) (c := ?cc) (n := ?nn) (n2 := ?nn2) (k := ?kk) (k2 := ?kk2) (k3 := ?kk3) ?h1 ?h2 ?hl ?s1 ?s2 ?s3 ?s4 ?s5 ?l ?_); (case h1 => walk_at "fq"); (case h2 => walk_at "lq"); (case hl => assumption); (case s1 => walk_at "sz"); (case s2 => walk_at "sz"); (case s3 => walk_at "sm"); (case s4 => walk_at "sm"); (case s5 => walk_at "sm"); (case l => rfl); intro _ _ _ _ _ _ _ _ _ _)
  | ((with_reducible refine Mb.r_mirror (x := ?xx) (y := ?yy) (a := ?aa) (b := ?bb) (c := ?cc) (n := ?nn) (n2 := ?nn2) (k := ?kk) (k2 := ?kk2) (k3 := ?kk3) ?h1 ?h2 ?hl ?s1 ?s2 ?s3 ?s4 ?s5 ?l ?_); (case h1 => walk_at "fq"); (case h2 => walk_at "lq"); (case hl => assumption); (case s1 => walk_at "sz"); (case s2 => walk_at "sz"); (case s3 => walk_at "sm"); (case s4 => walk_at "sm"); (case s5 => walk_at "sm"); (case l => rfl); intro _ _ _ _ _ _ _ _ _ _)
  | ((with_reducible refine Mb.r_onT (a := ?aa) (b := ?bb) (c := ?cc) (x := ?xx) (y := ?yy) (n1 := ?n1) (n2 := ?n2) (n3 := ?n3) (n4 := ?n4) (n5 := ?n5) ?h1 ?h2 ?s1 ?s2 ?s3 ?s4 ?s5 ?l ?e ?_); (case h1 => walk_at "lq"); (case h2 => walk_at "fq"); (case s1 => walk_at "sm"); (case s2 => walk_at "sm"); (case s3 => walk_at "sm"); (case s4 => walk_at "sz"); (case s5 => walk_at "sz"); (case l => rfl); (case e => first | assumption | (walk_at "wipe"; grind)))
  | ((with_reducible refine Mb.r_isLn (a := ?aa) (b := ?bb) (c := ?cc) ?h1 ?hl ?_); (case h1 => walk_at "lq"); (case hl => assumption))
  | ((with_reducible refine Mb.r_isNLq (a := ?aa) (b := ?bb) (c := ?cc) ?h ?_); (case h => walk_at "lq"))
  | ((with_reducible refine Mb.r_notNLq (a := ?aa) (b := ?bb) (c := ?cc) ?h ?_); (case h => walk_at "lq"))
  | ((with_reducible refine Mb.r_isNPq (x := ?xx) (y := ?yy) ?h ?_); (case h => walk_at "fq"))
  | ((with_reducible refine Mb.r_notNPq (x := ?xx) (y := ?yy) ?h ?_); (case h => walk_at "fq"))
  | ((with_reducible refine Mb.r_way (x := ?xx) (y := ?yy) (x' := ?xx2) (y' := ?yy2) (t := ?tt) (n1 := ?n1) (n2 := ?n2) (n3 := ?n3) (n4 := ?n4) (n5 := ?n5) ?h1 ?h2 ?h3 ?s1 ?s2 ?s3 ?s4 ?s5 ?l ?_); (case h1 => walk_at "fq"); (case h2 => walk_at "fq"); (case h3 => walk_at "fq"); (case s1 => walk_at "sz"); (case s2 => walk_at "sz"); (case s3 => walk_at "sz"); (case s4 => walk_at "sz"); (case s5 => walk_at "sz"); (case l => rfl); intro _ _ _ _)
  | ((with_reducible refine Mb.r_lineQ (n := ?nn) (m := 210) ?hp ?l ?k0 ?k1 ?hm ?_); (case hm => decide); (case hp => walk_at "sr"); (case l => decide); (case k0 => decide); (case k1 => decide); intro _ _ _ _ _ _ _ _ _ _ _ _)
  | ((with_reducible refine Mb.r_lineQ (n := ?nn) (m := 30) ?hp ?l ?k0 ?k1 ?hm ?_); (case hm => decide); (case hp => walk_at "sr"); (case l => decide); (case k0 => decide); (case k1 => decide); intro _ _ _ _ _ _ _ _ _ _ _ _)
  | ((with_reducible refine Mb.r_lineQ (n := ?nn) (m := 10) ?hp ?l ?k0 ?k1 ?hm ?_); (case hm => decide); (case hp => walk_at "sr"); (case l => decide); (case k0 => decide); (case k1 => decide); intro _ _ _ _ _ _ _ _ _ _ _ _)
  | ((with_reducible refine Mb.r_spot (a := ?aa) (b := ?bb) (c := ?cc) (t := ?tt) ?h1 ?hl ?h2 ?s1 ?s2 ?s3 ?s4 ?_); (case h1 => walk_at "lq"); (case hl => assumption); (case h2 => walk_at "fq"); (case s1 => assumption); (case s2 => assumption); (case s3 => assumption); (case s4 => assumption); intro _ _ _ _ _ _ _ _ _)
  | ((with_reducible refine Mb.r_good (x := ?xx) (y := ?yy) (a := ?aa) (b := ?bb) (c := ?cc) (n := ?nn) (n2 := ?nn2) (k := ?kk) (k2 := ?kk2) (k3 := ?kk3) ?h1 ?h2 ?hl ?s1 ?s2 ?s3 ?s4 ?s5 ?l ?l2 ?_); (case h1 => walk_at "fq"); (case h2 => walk_at "lq"); (case hl => assumption); (case s1 => walk_at "sz"); (case s2 => walk_at "sz"); (case s3 => walk_at "sm"); (case s4 => walk_at "sm"); (case s5 => walk_at "sm"); (case l => rfl); (case l2 => rfl); intro _ _)
  | ((with_reducible refine Mb.r_other (n := ?nn) (a := ?aa) (b := ?bb) (c := ?cc) ?hp ?l ?h ?hl ?s1 ?s2 ?s3 ?_); (case hp => walk_at "sr"); (case l => decide); (case h => walk_at "lq"); (case hl => assumption); (case s1 => assumption); (case s2 => assumption); (case s3 => assumption); intro _ _ _ _ _ _ _ _ _ _ _ _))
local macro_rules | `(tactic| walk_at "eqd") => `(tactic| first
  | ((refine Mb.r_eqPd (x := ?xx) (y := ?yy) (x' := ?xx2) (y' := ?yy2) ?h1 ?h2 ?_); (case h1 => walk_at "fq"); (case h2 => walk_at "fq"))
  | ((refine Mb.r_nePd (x := ?xx) (y := ?yy) (x' := ?xx2) (y' := ?yy2) ?h1 ?h2 ?_); (case h1 => walk_at "fq"); (case h2 => walk_at "fq")))
local macro_rules | `(tactic| walk_at "ond") => `(tactic| ((refine Mb.r_onD (a := ?aa) (b := ?bb) (c := ?cc) (x := ?xx) (y := ?yy) (n1 := ?n1) (n2 := ?n2) (n3 := ?n3) (n4 := ?n4) (n5 := ?n5) ?h1 ?h2 ?s1 ?s2 ?s3 ?s4 ?s5 ?l ?_); (case h1 => walk_at "lq"); (case h2 => walk_at "fq"); (case s1 => walk_at "sm"); (case s2 => walk_at "sm"); (case s3 => walk_at "sm"); (case s4 => walk_at "sz"); (case s5 => walk_at "sz"); (case l => rfl)))
local macro_rules | `(tactic| walk_at "cq") => `(tactic| first
  | assumption
  | ((with_reducible refine Mb.Cq.mk (f := ?ff) (g := ?gg) (k := ?kk) ?ga ?gb ?gc ?gd); (case ga => assumption); (case gb => walk_at "fq"); (case gc => walk_at "fq"); (case gd => walk_at "fq"))
  | ((with_reducible refine Mb.Cq.up (H := ?HH) ?ga ?gb); (case gb => assumption); (case ga => walk_at "cq"))
  | ((with_reducible refine Mb.Cq.upB (H := ?HH) (p := ?pp) (n := ?nn) ?ga ?gb ?gc); (case gb => assumption); (case gc => walk_at "sr"); (case ga => walk_at "cq")))
local macro_rules | `(tactic| walk_at "c1") => `(tactic| first
  | walk_at "w"
  | ((with_reducible refine Mb.r_ixC0 (x := ?xx) (y := ?yy) (s := ?ss) ?h ?_); (case h => walk_at "cq"); intro _ _)
  | ((with_reducible refine Mb.r_ixC1 (x := ?xx) (y := ?yy) (s := ?ss) ?h ?_); (case h => walk_at "cq"); intro _ _)
  | ((with_reducible refine Mb.r_ixC2 (x := ?xx) (y := ?yy) (s := ?ss) ?h ?_); (case h => walk_at "cq"); intro _ _)
  | ((with_reducible refine Mb.r_about1 (x := ?xx) (y := ?yy) (x' := ?xx2) (y' := ?yy2) (n := ?nn) (n2 := ?nn2) (m := ?mm) (m2 := ?mm2) ?h1 ?h2 ?s1 ?s2 ?s3 ?s4 ?l ?e ?_); (case h1 => walk_at "fq"); (case h2 => walk_at "fq"); (case e => assumption); (case s1 => walk_at "sz"); (case s2 => walk_at "sz"); (case s3 => walk_at "sz"); (case s4 => walk_at "sz"); (case l => rfl); intro _ _ _ _)
  | ((with_reducible refine Mb.r_about0 (x := ?xx) (y := ?yy) (x' := ?xx2) (y' := ?yy2) (n := ?nn) (n2 := ?nn2) (m := ?mm) (m2 := ?mm2) ?h1 ?h2 ?s1 ?s2 ?s3 ?s4 ?l ?e ?_); (case h1 => walk_at "fq"); (case h2 => walk_at "fq"); (case e => first | assumption | exact ⟨rfl, rfl⟩); (case s1 => walk_at "sz"); (case s2 => walk_at "sz"); (case s3 => walk_at "sz"); (case s4 => walk_at "sz"); (case l => rfl))
  | ((with_reducible refine Mb.r_far (x := ?xx) (y := ?yy) (x' := ?xx2) (y' := ?yy2) (n := ?nn) (n2 := ?nn2) (m := ?mm) (m2 := ?mm2) ?h1 ?h2 ?s1 ?s2 ?s3 ?s4 ?l ?_); (case h1 => walk_at "fq"); (case h2 => walk_at "fq"); (case s1 => walk_at "sz"); (case s2 => walk_at "sz"); (case s3 => walk_at "sz"); (case s4 => walk_at "sz"); (case l => rfl); intro _ _ _ _)
  | ((with_reducible refine Mb.r_in (x := ?xx) (y := ?yy) (x' := ?xx2) (y' := ?yy2) (x2 := ?xx3) (y2 := ?yy3) (n1 := ?n1) (n2 := ?n2) (n3 := ?n3) (n4 := ?n4) (n5 := ?n5) (n6 := ?n6) ?h1 ?h2 ?h3 ?s1 ?s2 ?s3 ?s4 ?s5 ?s6 ?l ?_); (case h1 => walk_at "fq"); (case h2 => walk_at "fq"); (case h3 => walk_at "fq"); (case s1 => walk_at "sz"); (case s2 => walk_at "sz"); (case s3 => walk_at "sz"); (case s4 => walk_at "sz"); (case s5 => walk_at "sz"); (case s6 => walk_at "sz"); (case l => rfl); intro _ _)
  | ((with_reducible refine Mb.r_L2 (a := ?aa) (b := ?bb) (c := ?cc) (a' := ?aa2) (b' := ?bb2) (c' := ?cc2) (n1 := ?n1) (n2 := ?n2) (n3 := ?n3) (n4 := ?n4) ?h1 ?h2 ?s1 ?s2 ?s3 ?s4 ?l ?_); (case h1 => walk_at "lq"); (case h2 => walk_at "lq"); (case s1 => walk_at "sm"); (case s2 => walk_at "sm"); (case s3 => walk_at "sm"); (case s4 => walk_at "sm"); (case l => rfl))
  | with_reducible refine Mb.r_isB ?_
  | ((with_reducible refine Mb.r_isF (x := ?xx) ?h ?_); (case h => walk_at "fq"))
  | ((with_reducible refine Mb.r_isiT (x := ?xx) (y := ?yy) (s := ?ss) ?h ?_); (case h => walk_at "cq"))
  | ((with_reducible refine Mb.r_isNCq (x := ?xx) (y := ?yy) (s := ?ss) ?h ?_); (case h => walk_at "cq"))
  | ((with_reducible refine Mb.r_notNCq (x := ?xx) (y := ?yy) (s := ?ss) ?h ?_); (case h => walk_at "cq"))
  | ((with_reducible refine Mb.r_wide (n := ?nn) (m := 94) ?hp ?l ?i0 ?im ?_); (case hp => walk_at "sr"); (case l => decide); (case i0 => decide); (case im => decide +kernel); intro _ _ _ _ _ _ _)
  | ((with_reducible refine Mb.r_wideNear (n := ?nn) (m := 94) (x := ?xx) (y := ?yy) ?hp ?l ?i0 ?im ?m0 ?hw ?sx ?sy ?_); (case hp => walk_at "sr"); (case l => decide); (case i0 => decide); (case im => decide +kernel); (case m0 => decide); (case hw => walk_at "fq"); (case sx => walk_at "sz"); (case sy => walk_at "sz"); intro _ _ _ _ _ _ _ _ _)
  | ((with_reducible refine Mb.r_wholeLine (n := ?nn) (m := 94) ?hp ?l ?i0 ?im ?m0 ?m1 ?_); (case hp => walk_at "sr"); (case l => decide); (case i0 => decide); (case im => decide +kernel); (case m0 => decide); (case m1 => decide); intro _ _ _ _ _ _ _ _ _ _ _ _)
  | ((with_reducible refine Mb.r_wide (n := ?nn) (m := 97) ?hp ?l ?i0 ?im ?_); (case hp => walk_at "sr"); (case l => decide); (case i0 => decide); (case im => decide +kernel); intro _ _ _ _ _ _ _)
  | ((with_reducible refine Mb.r_wideNear (n := ?nn) (m := 97) (x := ?xx) (y := ?yy) ?hp ?l ?i0 ?im ?m0 ?hw ?sx ?sy ?_); (case hp => walk_at "sr"); (case l => decide); (case i0 => decide); (case im => decide +kernel); (case m0 => decide); (case hw => walk_at "fq"); (case sx => walk_at "sz"); (case sy => walk_at "sz"); intro _ _ _ _ _ _ _ _ _)
  | ((with_reducible refine Mb.r_wholeLine (n := ?nn) (m := 97) ?hp ?l ?i0 ?im ?m0 ?m1 ?_); (case hp => walk_at "sr"); (case l => decide); (case i0 => decide); (case im => decide +kernel); (case m0 => decide); (case m1 => decide); intro _ _ _ _ _ _ _ _ _ _ _ _)
  | ((with_reducible refine Mb.r_wide (n := ?nn) (m := 200) ?hp ?l ?i0 ?im ?_); (case hp => walk_at "sr"); (case l => decide); (case i0 => decide); (case im => decide +kernel); intro _ _ _ _ _ _ _)
  | ((with_reducible refine Mb.r_wideNear (n := ?nn) (m := 200) (x := ?xx) (y := ?yy) ?hp ?l ?i0 ?im ?m0 ?hw ?sx ?sy ?_); (case hp => walk_at "sr"); (case l => decide); (case i0 => decide); (case im => decide +kernel); (case m0 => decide); (case hw => walk_at "fq"); (case sx => walk_at "sz"); (case sy => walk_at "sz"); intro _ _ _ _ _ _ _ _ _)
  | ((with_reducible refine Mb.r_wholeLine (n := ?nn) (m := 200) ?hp ?l ?i0 ?im ?m0 ?m1 ?_); (case hp => walk_at "sr"); (case l => decide); (case i0 => decide); (case im => decide +kernel); (case m0 => decide); (case m1 => decide); intro _ _ _ _ _ _ _ _ _ _ _ _)
  | ((with_reducible refine Mb.r_cross (x := ?xx) (y := ?yy) (x' := ?xx2) (y' := ?yy2) (x2 := ?xx3) (y2 := ?yy3) (n1 := ?n1) (n2 := ?n2) (n3 := ?n3) (n4 := ?n4) (n5 := ?n5) (n6 := ?n6) ?h1 ?h2 ?h3 ?s1 ?s2 ?s3 ?s4 ?s5 ?s6 ?l ?_); (case h1 => walk_at "fq"); (case h2 => walk_at "fq"); (case h3 => walk_at "fq"); (case s1 => walk_at "sz"); (case s2 => walk_at "sz"); (case s3 => walk_at "sz"); (case s4 => walk_at "sz"); (case s5 => walk_at "sz"); (case s6 => walk_at "sz"); (case l => rfl); intro _ _ _ _)
  | ((with_reducible refine Mb.r_ixR0 (x := ?xx) (n := ?nn) ?h ?_); (case h => assumption); intro _ _)
  | ((with_reducible refine Mb.r_gS (xs := ?xx) ?h ?l ?_); (case h => walk_at "tp"); (case l => rfl))
  | ((with_reducible refine Mb.r_three (ns := ?nn) ?h ?l ?_); (case h => walk_at "scr"); (case l => assumption); intro _ _ _ _ _ _ _ _ _ _ _ _ _ _ _ _ _ _ _ _ _ _)
  | ((with_reducible refine Mb.r_lines (ns := ?nn) ?h ?l ?_); (case h => walk_at "scr"); (case l => assumption); intro _ _ _ _ _ _ _ _ _ _ _ _ _ _ _ _ _ _ _ _))
local macro_rules | `(tactic| walk_at "tp") => `(tactic| first
  | assumption
  | ((with_reducible refine L2.Same.tp (H := ?HH) ?ga ?gb); (case ga => assumption); (case gb => walk_at "tp")))
local macro_rules | `(tactic| walk_at "same1") => `(tactic| ((refine Mb.r_dT ?ha ?_); (case ha => (exact decide_eq_true (by (walk_at "wipe"; grind))))))
local macro_rules | `(tactic| walk_at "eqc") => `(tactic| ((refine Mb.r_eqC (x := ?xx) (y := ?yy) (s := ?ss) (x' := ?xx2) (y' := ?yy2) (s' := ?ss2) ?h1 ?h2 ?e ?_); (case h1 => walk_at "cq"); (case h2 => walk_at "cq"); (case e => (refine ⟨?_, ?_, ?_⟩ <;> first | rfl | (walk_at "wipe"; grind)))))
local macro_rules | `(tactic| walk_at "c2") => `(tactic| first
  | walk_at "c1"
  | with_reducible refine Mb.r_sl ?_
  | with_reducible refine Mb.r_noP ?_
  | with_reducible refine Mb.r_part ?_
  | with_reducible refine Mb.r_if ?_
  | with_reducible refine Mb.r_bm ?_
  | ((with_reducible refine Mb.r_slC (x := ?xx) (y := ?yy) (s := ?ss) ?h ?_); (case h => walk_at "cq"); intro _ _ _ _))
local macro_rules | `(tactic| walk_at "c3") => `(tactic| first
  | walk_at "c2"
  | ((with_reducible refine Mb.r_small (n := ?nn) ?hp ?l ?_); (case hp => walk_at "sr"); (case l => decide); intro _ _ _ _ _ _ _)
  | ((with_reducible refine Mb.r_smallP (n := ?nn) ?hp ?l ?_); (case hp => walk_at "sr"); (case l => decide); intro _ _ _ _ _ _ _ _ _)
  | ((with_reducible refine Mb.r_smallN (n := ?nn) (x := ?xx) (y := ?yy) ?hp ?l ?hw ?sx ?sy ?_); (case hp => walk_at "sr"); (case l => decide); (case hw => walk_at "fq"); (case sx => assumption); (case sy => assumption); intro _ _ _ _ _ _ _ _ _)
  | with_reducible refine Mb.r_yesT ?_
  | with_reducible refine Mb.r_keep ?_
  | ((with_reducible refine Mb.r_gLst (xs := ?xx) ?h ?l ?_); (case h => assumption); (case l => rfl))
  | ((with_reducible refine Mb.r_four (x := ?xx) (y := ?yy) (x' := ?xx2) (y' := ?yy2) ?hp ?h1 ?h2 ?s1 ?s2 ?s3 ?s4 ?_); (case hp => walk_at "sr"); (case h1 => walk_at "fq"); (case h2 => walk_at "fq"); (case s1 => assumption); (case s2 => assumption); (case s3 => assumption); (case s4 => assumption); intro _ _ _ _ _ _ _ _ _ _ _ _ _ _ _ _ _ _ _ _ _ _ _ _ _ _ _ _)
  | ((with_reducible refine Mb.r_last (x1 := ?xx) (y1 := ?yy) (x2 := ?xx2) (y2 := ?yy2) (x3 := ?xx3) (y3 := ?yy3) ?hp ?h1 ?h2 ?h3 ?s1 ?s2 ?s3 ?s4 ?s5 ?s6 ?_); (case hp => walk_at "sr"); (case h1 => walk_at "fq"); (case h2 => walk_at "fq"); (case h3 => walk_at "fq"); (case s1 => assumption); (case s2 => assumption); (case s3 => assumption); (case s4 => assumption); (case s5 => assumption); (case s6 => assumption); intro _ _ _ _ _ _ _ _)
  | ((with_reducible refine Mb.r_rolled (x := ?xx) (y := ?yy) (x' := ?xx2) (y' := ?yy2) (t := ?tt) ?h1 ?h2 ?h3 ?s1 ?s2 ?s3 ?s4 ?s5 ?_); (case h1 => walk_at "fq"); (case h2 => walk_at "fq"); (case h3 => walk_at "fq"); (case s1 => assumption); (case s2 => assumption); (case s3 => assumption); (case s4 => assumption); (case s5 => assumption); intro _ _ _ _ _ _ _ _)
  | ((with_reducible refine Mb.r_crossS (x := ?xx) (y := ?yy) (x' := ?xx2) (y' := ?yy2) (x2 := ?xx3) (y2 := ?yy3) ?h1 ?h2 ?h3 ?s1 ?s2 ?s3 ?s4 ?s5 ?s6 ?_); (case h1 => walk_at "fq"); (case h2 => walk_at "fq"); (case h3 => walk_at "fq"); (case s1 => assumption); (case s2 => assumption); (case s3 => assumption); (case s4 => assumption); (case s5 => assumption); (case s6 => assumption); intro _ _ _ _)
  | ((with_reducible refine Mb.r_det (x1 := ?x1) (y1 := ?y1) (x2 := ?x2) (y2 := ?y2) (x3 := ?x3) (y3 := ?y3) (x4 := ?x4) (y4 := ?y4) ?h1 ?h2 ?h3 ?h4 ?s1 ?s2 ?s3 ?s4 ?s5 ?s6 ?s7 ?s8 ?_); (case h1 => walk_at "fq"); (case h2 => walk_at "fq"); (case h3 => walk_at "fq"); (case h4 => walk_at "fq"); (case s1 => assumption); (case s2 => assumption); (case s3 => assumption); (case s4 => assumption); (case s5 => assumption); (case s6 => assumption); (case s7 => assumption); (case s8 => assumption); intro _ _ _ _)
  | ((with_reducible refine Mb.r_round (x1 := ?x1) (y1 := ?y1) (x2 := ?x2) (y2 := ?y2) (x3 := ?x3) (y3 := ?y3) (x4 := ?x4) (y4 := ?y4) (n1 := ?n1) (n2 := ?n2) (n3 := ?n3) (n4 := ?n4) (n5 := ?n5) (n6 := ?n6) (n7 := ?n7) (n8 := ?n8) ?h1 ?h2 ?h3 ?h4 ?s1 ?s2 ?s3 ?s4 ?s5 ?s6 ?s7 ?s8 ?l ?_); (case h1 => walk_at "fq"); (case h2 => walk_at "fq"); (case h3 => walk_at "fq"); (case h4 => walk_at "fq"); (case s1 => walk_at "sz"); (case s2 => walk_at "sz"); (case s3 => walk_at "sz"); (case s4 => walk_at "sz"); (case s5 => walk_at "sz"); (case s6 => walk_at "sz"); (case s7 => walk_at "sz"); (case s8 => walk_at "sz"); (case l => rfl); intro _ _ _ _)
  | ((with_reducible refine Mb.r_asFar (x1 := ?x1) (y1 := ?y1) (x2 := ?x2) (y2 := ?y2) (x3 := ?x3) (y3 := ?y3) (x4 := ?x4) (y4 := ?y4) (n1 := ?n1) (n2 := ?n2) (n3 := ?n3) (n4 := ?n4) (n5 := ?n5) (n6 := ?n6) (n7 := ?n7) (n8 := ?n8) ?h1 ?h2 ?h3 ?h4 ?s1 ?s2 ?s3 ?s4 ?s5 ?s6 ?s7 ?s8 ?l ?_); (case h1 => walk_at "fq"); (case h2 => walk_at "fq"); (case h3 => walk_at "fq"); (case h4 => walk_at "fq"); (case s1 => walk_at "sz"); (case s2 => walk_at "sz"); (case s3 => walk_at "sz"); (case s4 => walk_at "sz"); (case s5 => walk_at "sz"); (case s6 => walk_at "sz"); (case s7 => walk_at "sz"); (case s8 => walk_at "sz"); (case l => rfl); intro _ _ _ _))
local macro_rules | `(tactic| walk_at "iv") => `(tactic| first
  | assumption
  | ((with_reducible refine Mb.Iv.mk ?ga); (case ga => assumption))
  | ((with_reducible refine Mb.Lq.iv (c := ?cc) ?ga); (case ga => walk_at "lq"))
  | ((with_reducible refine Mb.Iv.up (H := ?HH) ?ga ?gb); (case gb => assumption); (case ga => walk_at "iv")))
local macro_rules | `(tactic| walk_at "c4") => `(tactic| first
  | walk_at "c3"
  | with_reducible refine Mb.r_seqP3 ?_
  | ((with_reducible refine Mb.r_par3 ?_); dsimp only [List.set])
  | ((with_reducible refine Mb.r_lthru (x := ?xx) (y := ?yy) (x' := ?xx2) (y' := ?yy2) (n1 := ?n1) (n2 := ?n2) (n3 := ?n3) (n4 := ?n4) ?h1 ?h2 ?s1 ?s2 ?s3 ?s4 ?l ?ne ?_); (case h1 => walk_at "fq"); (case h2 => walk_at "fq"); (case s1 => walk_at "sz"); (case s2 => walk_at "sz"); (case s3 => walk_at "sz"); (case s4 => walk_at "sz"); (case l => rfl); (case ne => assumption); intro _ _ _ _ _ _ _ _ _ _ _ _ _)
  | ((with_reducible refine Mb.r_beside (x := ?xx) (y := ?yy) (x' := ?xx2) (y' := ?yy2) (t := ?tt) ?h1 ?h2 ?h3 ?s1 ?s2 ?s3 ?s4 ?s5 ?_); (case h1 => walk_at "fq"); (case h2 => walk_at "fq"); (case h3 => walk_at "fq"); (case s1 => assumption); (case s2 => assumption); (case s3 => assumption); (case s4 => assumption); (case s5 => assumption); intro _ _ _ _)
  | ((with_reducible refine Mb.r_off (x := ?xx) (y := ?yy) (t := ?tt) (m := ?mm) (n := ?nn) (n1 := ?n1) (n2 := ?n2) (n3 := ?n3) (n4 := ?n4) (n5 := ?n5) ?h1 ?h2 ?h3 ?s1 ?s2 ?s3 ?l ?s4 ?s5 ?l2 ?_); (case h1 => walk_at "fq"); (case h2 => walk_at "iv"); (case h3 => walk_at "fq"); (case s1 => walk_at "sz"); (case s2 => walk_at "sz"); (case s3 => walk_at "sz"); (case l => rfl); (case s4 => walk_at "sm"); (case s5 => walk_at "sm"); (case l2 => rfl); intro _ _ _ _)
  | ((with_reducible refine Mb.r_labout (x := ?xx) (y := ?yy) (x' := ?xx2) (y' := ?yy2) (n1 := ?n1) (n2 := ?n2) (n3 := ?n3) (n4 := ?n4) ?h1 ?h2 ?s1 ?s2 ?s3 ?s4 ?l ?_); (case h1 => walk_at "fq"); (case h2 => walk_at "fq"); (case s1 => assumption); (case s2 => assumption); (case s3 => walk_at "sz"); (case s4 => walk_at "sz"); (case l => rfl); intro _ _ _ _)
  | ((with_reducible refine Mb.r_ixI0 (m := ?mm) (n := ?nn) ?h ?_); (case h => walk_at "iv"))
  | ((with_reducible refine Mb.r_ixI1 (m := ?mm) (n := ?nn) ?h ?_); (case h => walk_at "iv")))
local macro_rules | `(tactic| walk_at "v47") => `(tactic| first
  | ((with_reducible refine Mb.r_wide (n := ?nn) (m := 47) ?hp ?l ?i0 ?im ?_); (case hp => walk_at "sr"); (case l => decide); (case i0 => decide); (case im => decide +kernel); intro _ _ _ _ _ _ _)
  | ((with_reducible refine Mb.r_wideNearI (n := ?nn) (m := 47) (x := ?xx) (y := ?yy) ?hp ?l ?i0 ?im ?hw ?sx ?sy ?_); (case hp => walk_at "sr"); (case l => decide); (case i0 => decide); (case im => decide +kernel); (case hw => walk_at "fq"); (case sx => assumption); (case sy => assumption); intro _ _ _ _ _ _ _ _ _)
  | walk_at "w")
local macro_rules | `(tactic| walk_at "c5") => `(tactic| first
  | ((with_reducible refine Mb.r_thruL (x := ?xx) (y := ?yy) (x' := ?xx2) (y' := ?yy2) (n := ?nn) (n2 := ?nn2) (m := ?mm) (m2 := ?mm2) ?h1 ?h2 ?s1 ?s2 ?s3 ?s4 ?l ?ne ?_); (case h1 => walk_at "fq"); (case h2 => walk_at "fq"); (case ne => assumption); (case s1 => walk_at "sz"); (case s2 => walk_at "sz"); (case s3 => walk_at "sz"); (case s4 => walk_at "sz"); (case l => rfl); intro _ _ _ _ _ _ _ _ _ _ _ _ _)
  | walk_at "c4")
local macro_rules | `(tactic| walk_at "c6") => `(tactic| first
  | ((with_reducible refine Mb.r_thruN (x := ?xx) (y := ?yy) (x' := ?xx2) (y' := ?yy2) (n := ?nn) (n2 := ?nn2) (m := ?mm) (m2 := ?mm2) ?h1 ?h2 ?s1 ?s2 ?s3 ?s4 ?l ?ne ?_); (case h1 => walk_at "fq"); (case h2 => walk_at "fq"); (case ne => assumption); (case s1 => walk_at "sz"); (case s2 => walk_at "sz"); (case s3 => walk_at "sz"); (case s4 => walk_at "sz"); (case l => rfl); intro _ _)
  | ((with_reducible refine Mb.r_moved (x := ?xx) (y := ?yy) (w0 := ?w0) (w1 := ?w1) (b0 := ?b0) (b1 := ?b1) ?h1 ?h2 ?h3 ?s1 ?s2 ?s3 ?s4 ?s5 ?s6 ?_); (case h1 => walk_at "fq"); (case h2 => walk_at "fq"); (case h3 => walk_at "fq"); (case s1 => assumption); (case s2 => assumption); (case s3 => assumption); (case s4 => assumption); (case s5 => assumption); (case s6 => assumption); intro _ _ _ _)
  | ((with_reducible refine Mb.r_isNLq (K := ?kk) (a := ?aa) (b := ?bb) (c := ?cc) ?h ?_); (case h => walk_at "lq"))
  | ((with_reducible refine Mb.r_notNLq (K := ?kk) (a := ?aa) (b := ?bb) (c := ?cc) ?h ?_); (case h => walk_at "lq"))
  | ((with_reducible refine Mb.r_isNPq (K := ?kk) (x := ?xx) (y := ?yy) ?h ?_); (case h => walk_at "fq"))
  | ((with_reducible refine Mb.r_notNPq (K := ?kk) (x := ?xx) (y := ?yy) ?h ?_); (case h => walk_at "fq"))
  | walk_at "c5")
local macro_rules | `(tactic| walk_at "lsq") => `(tactic| first
  | assumption
  | exact Mb.lstOf (by assumption)
  | ((with_reducible refine L2.Same.seq (H := ?HH) ?ga ?gb); (case ga => assumption); (case gb => walk_at "lsq")))
local macro_rules | `(tactic| walk_at "c7") => `(tactic| first
  | ((with_reducible refine Mb.r_meetK (a := ?aa) (b := ?bb) (c := ?cc) (a' := ?aa2) (b' := ?bb2) (c' := ?cc2) (X := ?XX) (Y := ?YY) (n := ?nn) (n2 := ?nn2) (n3 := ?nn3) (m := ?mm) (m2 := ?mm2) (m3 := ?mm3) ?h1 ?h2 ?s1 ?s2 ?s3 ?s4 ?s5 ?s6 ?l ?d ?o1 ?o2 ?_); (case h1 => walk_at "lq"); (case h2 => walk_at "lq"); (case d => assumption); (case o1 => assumption); (case o2 => assumption); (case s1 => walk_at "sm"); (case s2 => walk_at "sm"); (case s3 => walk_at "sm"); (case s4 => walk_at "sm"); (case s5 => walk_at "sm"); (case s6 => walk_at "sm"); (case l => rfl); intro _ _ _ _ _ _)
  | walk_at "c6")
local macro_rules | `(tactic| walk_at "c8") => `(tactic| first
  | ((with_reducible refine Mb.r_ixL (xs := ?xx) (v := ?vv) ?h1 ?h2 ?_); (case h1 => walk_at "lsq"); (case h2 => rfl))
  | walk_at "c7")
section
variable {P : Program} {w : World} {K : PySem.W.Frag} {mg : Str → Option Value} {base : Heap}
theorem ok_common_divisor (F : Fn K mg "common_divisor" s_common_divisor) (z_abs : mg "abs" = none) : Kn P w K mg base 1 "common_divisor" ["one", "other"] spGcd := by
  refine F.kn sc_common_divisor (fun vs H Q E h => ?_) (fun f cdv A outer s H vs Q E hr h => ?_) (fun _ _ _ _ _ _ us hl => match us, hl with | [_, _], _ => rfl)
  · obtain ⟨a, b, rfl, _⟩ := h
    rfl
  obtain ⟨a, b, rfl, q⟩ := h
  refine ⟨_, (pss_cons (ps_par (by rfl) sc_common_divisor.nd (i := 0) (j := 1) rfl rfl (by decide) rfl rfl (pa_cons (pe_callB call_abs (by rfl) z_abs (by decide +kernel) (pa_cons (pv 0) pa_nil)) (pa_cons (pe_callB call_abs (by rfl) z_abs (by decide +kernel) (pa_cons (pv 1) pa_nil)) pa_nil)) (by rfl))
    (pss_cons (ps_while PassesOwn.never (pt_cmpR op_ne (pv 1) pe_int (nomark _))
    (pss_one (ps_par (by rfl) sc_common_divisor.nd (i := 0) (j := 1) rfl rfl (by decide) rfl rfl (pa_cons (pv 1) (pa_cons (pe_op op_mod (pv 0) (pv 1)) pa_nil)) (by rfl))))
    (pss_one (ps_ret (pv 0))))), ?_⟩
  show (_ : TS) _ [some (.int a), some (.int b)] _
  repeat walk_at "st"
  refine ⟨a, rfl, ?_⟩
  repeat walk_at "st"
  refine ⟨b, rfl, ?_⟩
  repeat walk_at "st"
  refine r_seq ?_
  refine r_while (fun σ H' => H' = H ∧ ∃ x y : Int, σ = [some (.int x), some (.int y)] ∧ 0 ≤ x ∧ 0 ≤ y ∧ Int.gcd x y = Int.gcd a b) (fun σ _ => match σ with | [_, some (.int y)] => y.toNat | _ => 0) ?_ ?_
  · refine ⟨rfl, _, _, rfl, ?_, ?_, ?_⟩
    · split <;> omega
    · split <;> omega
    · split <;> split <;> simp only [Int.neg_gcd, Int.gcd_neg]
  · rintro σ H' ⟨rfl, x, y, rfl, hx, hy, hg⟩
    repeat walk_at "st"
    refine r_iteN (fun c => ?_) (fun c => ?_)
    · refine r_turn ?_
      repeat walk_at "st"
      have e1 := Int.emod_nonneg x (show y ≠ 0 by omega)
      have e2 := Int.emod_lt_of_pos x (show 0 < y by omega)
      refine ⟨⟨rfl, y, x % y, rfl, hy, e1, by rw [gcd_step hx (by omega), hg]⟩, ?_⟩
      show (x % y).toNat < y.toNat
      omega
    · subst c
      repeat walk_at "st"
      have g : (Int.gcd x 0 : Int) = x := by rw [Int.gcd_zero]; omega
      rw [hg] at g
      show Q (.int x) _
      rw [← g]
      exact q
theorem ok_fraction (F : Fn K mg "fraction" s_fraction) (G_common_divisor : Kn P w K mg base 1 "common_divisor" ["one", "other"] spGcd) : Kn P w K mg base 2 "fraction" ["top", "bottom"] spLow := by
  refine F.kn sc_fraction (fun vs H Q E h => ?_) (fun f cdv A outer s H vs Q E hr h => ?_) (fun _ _ _ _ _ _ us hl => match us, hl with | [_, _], _ => rfl)
  · obtain ⟨t, b, rfl, _⟩ := h
    rfl
  obtain ⟨t, b, rfl, hb, sb, q⟩ := h
  refine ⟨_, (pss_cons (ps_if (pt_cmpR op_eq (pv 1) pe_int (nomark _))
    (pss_one ps_never)
    pss_nil)
    (pss_cons (ps_set (i := 2) sc_fraction.nd rfl (.inl rfl) (pe_kn G_common_divisor (hr.mono (by decide)) (by rfl) (pa_cons (pv 0) (pa_cons (pv 1) pa_nil))))
    (pss_cons (ps_if (pt_cmpR op_lt (pv 1) pe_int (nomark _))
    (pss_one (ps_set (i := 2) sc_fraction.nd rfl (.inl rfl) (pe_un un_neg (pv 2))))
    pss_nil)
    (pss_one (ps_ret (pe_tup (pa_cons (pe_op op_fdivZ (pv 0) (pv 2)) (pa_cons (pe_op op_fdivZ (pv 1) (pv 2)) pa_nil)))))))), ?_⟩
  show (_ : TS) _ [some (.int t), some (.int b), none] _
  have g0 := gcd_pos (t := t) hb
  have gs : Sm 8000 (Int.gcd t b : Int) := gcd_sm hb sb
  refine r_seq ?_
  repeat walk_at "st"
  refine r_ite (fun c => absurd c hb) (fun c => ?_)
  repeat walk_at "st"
  refine ⟨_, _, rfl, ?_⟩
  repeat walk_at "st"
  refine r_cut (fun σ H' => σ = [some (.int t), some (.int b), some (.int (if decide (b < 0) then -(Int.gcd t b : Int) else (Int.gcd t b : Int)))] ∧ H' = H) ?_ (fun N J => ?_)
  · rintro σ H' ⟨rfl, rfl⟩
    have cd : ∀ i : Int, CDivZ i (if decide (b < 0) then -(Int.gcd t b : Int) else (Int.gcd t b : Int)) := fun i => by
      split
      · exact cdivZ (by omega) gs.neg (by decide) (by decide)
      · exact cdivZ (by omega) gs (by decide) (by decide)
    repeat walk_at "st"
    refine r_i (cd _) ?_
    repeat walk_at "st"
    refine r_i (cd _) ?_
    repeat walk_at "st"
    refine ⟨sz rfl, fun p hp => ?_⟩
    refine q p _ (same_new hp _) hp ?_
    rw [upd_same, fdiv_exact (Int.gcd_dvd_left t b), fdiv_exact (Int.gcd_dvd_right t b)]
    unfold lowT lowB
    simp only [decide_eq_true_eq]
  · repeat walk_at "st"
    refine r_ite (fun c => ?_) (fun c => ?_)
    · repeat walk_at "st"
      exact J _ _ ⟨by simp [c], rfl⟩
    · repeat walk_at "st"
      exact J _ _ ⟨by simp [c], rfl⟩
theorem ok_between (F : Fn K mg "between" s_between) (G_fraction : Kn P w K mg base 2 "fraction" ["top", "bottom"] (spFrQ K)) : Kn P w K mg base 3 "between" ["start", "end", "t"] (spBetween K) := by
  refine F.kn sc_between (fun vs H Q E h => ?_) (fun f cdv A outer s H vs Q E hr h => ?_) (fun _ _ _ _ _ _ us hl => match us, hl with | [_, _, _], _ => rfl)
  · obtain ⟨v, w, u, x, x', t, n, m, k, rfl, _⟩ := h
    rfl
  obtain ⟨v, w, u, x, x', t, n, m, k, rfl, ⟨a, rfl, h1⟩, ⟨b, rfl, h2⟩, ⟨c, rfl, h3⟩, s1, s2, s3, l1, l2, q⟩ := h
  have t1 : Sm 3800 x.num := s1.t.mono (by omega)
  have t2 : Sm 3800 (x.den : Int) := s1.b.mono (by omega)
  have t3 : Sm 3800 x'.num := s2.t.mono (by omega)
  have t4 : Sm 3800 (x'.den : Int) := s2.b.mono (by omega)
  have t5 : Sm 500 t.num := s3.t.mono (by omega)
  have t6 : Sm 500 (t.den : Int) := s3.b.mono (by omega)
  refine ⟨_, (pss_cons (ps_set (i := 3) sc_between.nd rfl (.inl rfl) (pe_op op_mulW (pe_ix ix_tup (pv 0) pe_int (fun _ _ => rfl)) (pe_ix ix_tup (pv 1) pe_int (fun _ _ => rfl))))
    (pss_cons (ps_set (i := 4) sc_between.nd rfl (.inl rfl) (pe_op op_mulW (pe_ix ix_tup (pv 1) pe_int (fun _ _ => rfl)) (pe_ix ix_tup (pv 0) pe_int (fun _ _ => rfl))))
    (pss_one (ps_ret (pe_kn G_fraction (hr.mono (by decide)) (by rfl) (pa_cons (pe_op op_add (pe_op op_mulW (pv 3) (pe_ix ix_tup (pv 2) pe_int (fun _ _ => rfl))) (pe_op op_mulW (pe_ix ix_tup (pv 2) pe_int (fun _ _ => rfl)) (pe_op op_sub (pv 4) (pv 3)))) (pa_cons (pe_op op_mulW (pe_op op_mulW (pe_ix ix_tup (pv 0) pe_int (fun _ _ => rfl)) (pe_ix ix_tup (pv 1) pe_int (fun _ _ => rfl))) (pe_ix ix_tup (pv 2) pe_int (fun _ _ => rfl))) pa_nil))))))), ?_⟩
  show (_ : TS) _ [some (.ref a), some (.ref b), some (.ref c), none, none] _
  repeat walk_at "st"
  refine ⟨_, _, x + t * (x' - x), rfl, Int.mul_ne_zero (Int.mul_ne_zero (den_ne x) (den_ne x')) (den_ne t), ((Sm.mul (Sm.mul s1.b s2.b) s3.b).mono (by omega)), ?_, q⟩
  have e1 := hden x
  have e2 := hden x'
  have e3 := hden t
  simp only [Rat.intCast_add, Rat.intCast_mul, Rat.intCast_sub]
  grind
theorem ok_share (F : Fn K mg "share" s_share) (G_between : Kn P w K mg base 3 "between" ["start", "end", "t"] (spBetween K)) : Kn P w K mg base 4 "share" ["p", "q", "t"] (spShare K) := by
  refine F.kn sc_share (fun vs H Q E h => ?_) (fun f cdv A outer s H vs Q E hr h => ?_) (fun _ _ _ _ _ _ us hl => match us, hl with | [_, _, _], _ => rfl)
  · obtain ⟨v, w, u, x, y, x', y', t, n, m, k, rfl, _⟩ := h
    rfl
  obtain ⟨v, w, u, x, y, x', y', t, n, m, k, rfl, h1, h2, h3, s1, s2, s3, s4, s5, l, l2, q⟩ := h
  refine ⟨_, (pss_one (ps_ret (pe_tup (pa_cons (pe_kn G_between (hr.mono (by decide)) (by rfl) (pa_cons (pe_ix ix_tup (pv 0) pe_int (fun _ _ => rfl)) (pa_cons (pe_ix ix_tup (pv 1) pe_int (fun _ _ => rfl)) (pa_cons (pv 2) pa_nil)))) (pa_cons (pe_kn G_between (hr.mono (by decide)) (by rfl) (pa_cons (pe_ix ix_tup (pv 0) pe_int (fun _ _ => rfl)) (pa_cons (pe_ix ix_tup (pv 1) pe_int (fun _ _ => rfl)) (pa_cons (pv 2) pa_nil)))) pa_nil))))), ?_⟩
  show (_ : TS) _ [some v, some w, some u] _
  repeat walk_at "q"
  refine r_between (by walk_at "fq") (by walk_at "fq") (by walk_at "fq") s1 s3 s5 l l2 (fun r1 H1 g1 k1 => ?_)
  repeat walk_at "q"
  refine r_between (by walk_at "fq") (by walk_at "fq") (by walk_at "fq") s2 s4 s5 l l2 (fun r2 H2 g2 k2 => ?_)
  repeat walk_at "q"
  refine q _ _ (by walk_at "same") ?_
  walk_at "fin"
theorem ok_middle (F : Fn K mg "middle" s_middle) (G_share : Kn P w K mg base 4 "share" ["p", "q", "t"] (spShare K)) : Kn P w K mg base 5 "middle" ["p", "q"] (spP2 K (fun x y x2 y2 => (x + x2) / 2) (fun x y x2 y2 => (y + y2) / 2)) := by
  refine F.kn sc_middle (fun vs H Q E h => ?_) (fun f cdv A outer s H vs Q E hr h => ?_) (fun _ _ _ _ _ _ us hl => match us, hl with | [_, _], _ => rfl)
  · obtain ⟨v, w, x, y, x', y', n, m, rfl, _⟩ := h
    rfl
  obtain ⟨v, w, x, y, x', y', n, m, rfl, h1, h2, s1, s2, s3, s4, l, q⟩ := h
  refine ⟨_, (pss_one (ps_ret (pe_kn G_share (hr.mono (by decide)) (by rfl) (pa_cons (pv 0) (pa_cons (pv 1) (pa_cons (pe_tup (pa_cons pe_int (pa_cons pe_int pa_nil))) pa_nil)))))), ?_⟩
  show (_ : TS) _ [some v, some w] _
  repeat walk_at "q"
  refine ⟨_, _, _, x, y, x', y', (1 / 2 : Rat), n, m, 8, rfl, by walk_at "fq", by walk_at "fq", Fq.half (by assumption), s1, s2, s3, s4, Sz.lit (by decide +kernel) (by decide +kernel), l, by decide, fun r H' g k => ?_⟩
  refine q _ _ (by walk_at "same") ?_
  walk_at "fin"
theorem ok_beyond (F : Fn K mg "beyond" s_beyond) (G_share : Kn P w K mg base 4 "share" ["p", "q", "t"] (spShare K)) : Kn P w K mg base 5 "beyond" ["p", "q"] (spP2 K (fun x y x2 y2 => x2 + x2 - x) (fun x y x2 y2 => y2 + y2 - y)) := by
  refine F.kn sc_beyond (fun vs H Q E h => ?_) (fun f cdv A outer s H vs Q E hr h => ?_) (fun _ _ _ _ _ _ us hl => match us, hl with | [_, _], _ => rfl)
  · obtain ⟨v, w, x, y, x', y', n, m, rfl, _⟩ := h
    rfl
  obtain ⟨v, w, x, y, x', y', n, m, rfl, h1, h2, s1, s2, s3, s4, l, q⟩ := h
  refine ⟨_, (pss_one (ps_ret (pe_kn G_share (hr.mono (by decide)) (by rfl) (pa_cons (pv 0) (pa_cons (pv 1) (pa_cons (pe_tup (pa_cons pe_int (pa_cons pe_int pa_nil))) pa_nil)))))), ?_⟩
  show (_ : TS) _ [some v, some w] _
  repeat walk_at "q"
  refine ⟨_, _, _, x, y, x', y', (2 : Rat), n, m, 8, rfl, by walk_at "fq", by walk_at "fq", Fq.two (by assumption), s1, s2, s3, s4, Sz.lit (by decide +kernel) (by decide +kernel), l, by decide, fun r H' g k => ?_⟩
  refine q _ _ (by walk_at "same") ?_
  walk_at "fin"
theorem ok_cleared (F : Fn K mg "cleared" s_cleared) (G_common_divisor : Kn P w K mg base 1 "common_divisor" ["one", "other"] spGcd) : Kn P w K mg base 2 "cleared" ["p"] (spCleared K) := by
  refine F.kn sc_cleared (fun vs H Q E h => ?_) (fun f cdv A outer s H vs Q E hr h => ?_) (fun _ _ _ _ _ _ us hl => match us, hl with | [_], _ => rfl)
  · obtain ⟨v, x, y, n, m, rfl, _⟩ := h
    rfl
  obtain ⟨v, x, y, n, m, rfl, h1, s1, s2, l, q⟩ := h
  have t1 : Sm 7600 x.num := s1.t.mono (by omega)
  have t2 : Sm 7600 (x.den : Int) := s1.b.mono (by omega)
  have t3 : Sm 7600 y.num := s2.t.mono (by omega)
  have t4 : Sm 7600 (y.den : Int) := s2.b.mono (by omega)
  refine ⟨_, (pss_cons (ps_asg (pv 0) (pg_tup (by rfl) (pgs_cons (pg_tup (by rfl) (pgs_cons (pg_name (i := 1) sc_cleared.nd rfl (.inl rfl)) (pgs_cons (pg_name (i := 2) sc_cleared.nd rfl (.inl rfl)) pgs_nil))) (pgs_cons (pg_tup (by rfl) (pgs_cons (pg_name (i := 3) sc_cleared.nd rfl (.inl rfl)) (pgs_cons (pg_name (i := 4) sc_cleared.nd rfl (.inl rfl)) pgs_nil))) pgs_nil))))
    (pss_cons (ps_set (i := 5) sc_cleared.nd rfl (.inl rfl) (pe_kn G_common_divisor (hr.mono (by decide)) (by rfl) (pa_cons (pv 2) (pa_cons (pv 4) pa_nil))))
    (pss_one (ps_ret (pe_tup (pa_cons (pe_op op_mulW (pv 1) (pe_op op_fdivW (pv 4) (pv 5))) (pa_cons (pe_op op_mulW (pv 3) (pe_op op_fdivW (pv 2) (pv 5))) (pa_cons (pe_op op_mulW (pe_op op_fdivW (pv 2) (pv 5)) (pv 4)) pa_nil)))))))), ?_⟩
  show (_ : TS) _ [some v, none, none, none, none, none] _
  obtain ⟨g, dx, dy, eg, g0, gs, ex, ey, fx, fy, px, py⟩ := gcd_quot (den_pos x) (den_pos y) t2
  have zx : Sm n dx := sm_quot (by omega) ex s1.b
  have zy : Sm m dy := sm_quot (by omega) ey s2.b
  have wx : Sm 7600 dx := zx.mono (by omega)
  have wy : Sm 7600 dy := zy.mono (by omega)
  repeat walk_at "g"
  refine ⟨_, _, rfl, ?_⟩
  rw [eg]
  repeat walk_at "g"
  refine r_i (Sm.cdiv g0 gs) ?_
  rw [fy]
  repeat walk_at "g"
  refine r_i (Sm.cdiv g0 gs) ?_
  rw [fx]
  repeat walk_at "g"
  refine r_i (Sm.cdiv g0 gs) ?_
  rw [fx]
  repeat walk_at "g"
  have hx := hden x
  have hy := hden y
  have cx := congrArg (Int.cast (R := Rat)) ex
  have cy := congrArg (Int.cast (R := Rat)) ey
  simp only [Rat.intCast_mul] at cx cy
  refine q _ _ (x.num * dy) (y.num * dx) (dx * y.den) (by walk_at "same") (by walk_at "lq") (Int.mul_pos px (den_pos y)) ?_ ?_ (s1.t.mul zy) ((s2.t.mul zx).mono (by omega)) (zx.mul s2.b)
  · simp only [Rat.intCast_mul]
    grind
  · simp only [Rat.intCast_mul]
    grind
theorem ok_one_form (F : Fn K mg "one_form" s_one_form) (G_common_divisor : Kn P w K mg base 1 "common_divisor" ["one", "other"] spGcd) : Kn P w K mg base 2 "one_form" ["a", "b", "c"] (spOneForm K) := by
  refine F.kn sc_one_form (fun vs H Q E h => ?_) (fun f cdv A outer s H vs Q E hr h => ?_) (fun _ _ _ _ _ _ us hl => match us, hl with | [_, _, _], _ => rfl)
  · obtain ⟨a, b, c, n, rfl, _⟩ := h
    rfl
  obtain ⟨a, b, c, n, rfl, nz, sa, sb, sc, ln, q⟩ := h
  refine ⟨_, (pss_cons (ps_set (i := 3) sc_one_form.nd rfl (.inl rfl) (pe_kn G_common_divisor (hr.mono (by decide)) (by rfl) (pa_cons (pe_kn G_common_divisor (hr.mono (by decide)) (by rfl) (pa_cons (pv 0) (pa_cons (pv 1) pa_nil))) (pa_cons (pv 2) pa_nil))))
    (pss_cons (ps_if (PW.pt (pw_or (pt_cmpR op_lt (pv 0) pe_int (nomark _)) (pw_or1 (PW.pt (pw_and (pt_cmpR op_eq (pv 0) pe_int (nomark _)) (pw_and1 (pt_cmpR op_lt (pv 1) pe_int (nomark _))))))))
    (pss_one (ps_set (i := 3) sc_one_form.nd rfl (.inl rfl) (pe_un un_neg (pv 3))))
    pss_nil)
    (pss_one (ps_ret (pe_tup (pa_cons (pe_op op_fdivZ (pv 0) (pv 3)) (pa_cons (pe_op op_fdivZ (pv 1) (pv 3)) (pa_cons (pe_op op_fdivZ (pv 2) (pv 3)) pa_nil)))))))), ?_⟩
  show (_ : TS) _ [some (.int a), some (.int b), some (.int c), none] _
  have ne := form_ne (c := c) nz
  have fs : Sm 8000 (formG a b c) := (form_sm nz sa sb).mono ln
  repeat walk_at "st"
  refine ⟨_, _, rfl, ?_⟩
  repeat walk_at "st"
  refine ⟨_, _, rfl, ?_⟩
  repeat walk_at "st"
  refine r_cut (fun σ H' => σ = [some (.int a), some (.int b), some (.int c), some (.int (formG a b c))] ∧ H' = H) ?_ (fun N J => ?_)
  · rintro σ H' ⟨rfl, rfl⟩
    have cd : ∀ i : Int, CDivZ i (formG a b c) := fun i => cdivZ ne fs (by decide) (by decide)
    repeat walk_at "st"
    refine r_i (cd _) ?_
    repeat walk_at "st"
    refine r_i (cd _) ?_
    repeat walk_at "st"
    refine r_i (cd _) ?_
    repeat walk_at "st"
    refine ⟨sz rfl, fun p hp => ?_⟩
    obtain ⟨d1, d2, d3⟩ := form_dvd a b c
    have e1 := fdiv_dvd ne d1
    have e2 := fdiv_dvd ne d2
    have e3 := fdiv_dvd ne d3
    exact q _ _ _ _ _ _ (same_new hp _) ⟨p, rfl, tupOf upd_same⟩ (form_ln nz e1 e2 e3) ne e1 e2 e3 (sm_quot ne e1 sa) (sm_quot ne e2 sb) (sm_quot ne e3 sc)
  · repeat walk_at "st"
    refine r_ite (fun c1 => ?_) (fun c1 => ?_)
    · repeat walk_at "st"
      exact J _ _ ⟨by unfold formG; rw [decide_eq_true (show a < 0 ∨ (a = 0 ∧ b < 0) from .inl c1)]; rfl, rfl⟩
    · repeat walk_at "st"
      refine r_ite (fun c2 => ?_) (fun c2 => ?_)
      · repeat walk_at "st"
        refine r_ite (fun c3 => ?_) (fun c3 => ?_)
        · repeat walk_at "st"
          exact J _ _ ⟨by unfold formG; rw [decide_eq_true (show a < 0 ∨ (a = 0 ∧ b < 0) from .inr ⟨c2, c3⟩)]; rfl, rfl⟩
        · repeat walk_at "st"
          exact J _ _ ⟨by unfold formG; rw [decide_eq_false (show ¬ (a < 0 ∨ (a = 0 ∧ b < 0)) by omega)]; rfl, rfl⟩
      · repeat walk_at "st"
        exact J _ _ ⟨by unfold formG; rw [decide_eq_false (show ¬ (a < 0 ∨ (a = 0 ∧ b < 0)) by omega)]; rfl, rfl⟩
theorem ok_through (F : Fn K mg "through" s_through) (G_cleared : Kn P w K mg base 2 "cleared" ["p"] (spCleared K)) (G_one_form : Kn P w K mg base 2 "one_form" ["a", "b", "c"] (spOneForm K)) : Kn P w K mg base 3 "through" ["p", "q"] (spThru K) := by
  refine F.kn sc_through (fun vs H Q E h => ?_) (fun f cdv A outer s H vs Q E hr h => ?_) (fun _ _ _ _ _ _ us hl => match us, hl with | [_, _], _ => rfl)
  · obtain ⟨v, w, x, y, x', y', n, m, rfl, _⟩ := h
    rfl
  obtain ⟨v, w, x, y, x', y', n, m, rfl, h1, h2, s1, s2, s3, s4, l, q0, q1⟩ := h
  refine ⟨_, (pss_cons (ps_if (pt_cmpR (op_eqD hr.units) (pv 0) (pv 1) (nomark _))
    (pss_one (ps_ret pe_non))
    pss_nil)
    (pss_cons (ps_asg (pe_kn G_cleared (hr.mono (by decide)) (by rfl) (pa_cons (pv 0) pa_nil)) (pg_tup (by rfl) (pgs_cons (pg_name (i := 2) sc_through.nd rfl (.inl rfl)) (pgs_cons (pg_name (i := 3) sc_through.nd rfl (.inl rfl)) (pgs_cons (pg_name (i := 4) sc_through.nd rfl (.inl rfl)) pgs_nil)))))
    (pss_cons (ps_asg (pe_kn G_cleared (hr.mono (by decide)) (by rfl) (pa_cons (pv 1) pa_nil)) (pg_tup (by rfl) (pgs_cons (pg_name (i := 5) sc_through.nd rfl (.inl rfl)) (pgs_cons (pg_name (i := 6) sc_through.nd rfl (.inl rfl)) (pgs_cons (pg_name (i := 7) sc_through.nd rfl (.inl rfl)) pgs_nil)))))
    (pss_one (ps_ret (pe_kn G_one_form (hr.mono (by decide)) (by rfl) (pa_cons (pe_op op_sub (pe_op op_mulW (pv 3) (pv 7)) (pe_op op_mulW (pv 6) (pv 4))) (pa_cons (pe_op op_sub (pe_op op_mulW (pv 5) (pv 4)) (pe_op op_mulW (pv 2) (pv 7))) (pa_cons (pe_op op_sub (pe_op op_mulW (pv 5) (pv 3)) (pe_op op_mulW (pv 2) (pv 6))) pa_nil))))))))), ?_⟩
  show (_ : TS) _ [some v, some w, none, none, none, none, none, none] _
  refine r_seq ?_
  repeat walk_at "g"
  refine r_eqPd h1 h2 ?_
  repeat walk_at "g"
  refine r_ite (fun c => ?_) (fun c => ?_)
  · repeat walk_at "g"
    exact q0 c
  repeat walk_at "g"
  refine ⟨_, x, y, n, n, rfl, h1, s1, s2, by omega, fun r1 H1 X Y W g1 k1 w1 ex ey a1 a2 a3 => ?_⟩
  have b1 : Sm 7600 X := a1.mono (by omega)
  have b2 : Sm 7600 Y := a2.mono (by omega)
  have b3 : Sm 7600 W := a3.mono (by omega)
  repeat walk_at "g"
  refine ⟨_, x', y', m, m, rfl, by walk_at "fq", s3, s4, by omega, fun r2 H2 X' Y' W' g2 k2 w2 ex' ey' a4 a5 a6 => ?_⟩
  have b4 : Sm 7600 X' := a4.mono (by omega)
  have b5 : Sm 7600 Y' := a5.mono (by omega)
  have b6 : Sm 7600 W' := a6.mono (by omega)
  repeat walk_at "g"
  have nw := ratz (show W ≠ 0 by omega)
  have nw' := ratz (show W' ≠ 0 by omega)
  have z1 : Sm (n + n + (m + m) + 1) (Y * W' - Y' * W) := (a2.mul a6).sub ((a5.mul a3).mono (by omega))
  have z2 : Sm (n + n + (m + m) + 1) (X' * W - X * W') := Sm.sub ((a4.mul a3).mono (by omega)) (a1.mul a6)
  have z3 : Sm (n + n + (m + m) + 1) (X' * Y - X * Y') := Sm.sub ((a4.mul a2).mono (by omega)) (a1.mul a5)
  refine ⟨_, _, _, n + n + (m + m) + 1, rfl, ?_, z1, z2, z3, by omega, fun r H' a b cc g g3 k3 hL gn e1 e2 e3 c1 c2 c3 => ?_⟩
  · rintro ⟨e1, e2⟩
    have f1 := congrArg (Int.cast (R := Rat)) e1
    have f2 := congrArg (Int.cast (R := Rat)) e2
    simp only [Rat.intCast_sub, Rat.intCast_mul, Rat.intCast_zero] at f1 f2
    have d1 : (x' - x) * ((W : Rat) * W') = 0 := by grind
    have d2 : (y - y') * ((W : Rat) * W') = 0 := by grind
    have nn : (W : Rat) * W' ≠ 0 := fun z => by rcases Rat.mul_eq_zero.mp z with z | z <;> contradiction
    refine c ⟨?_, ?_⟩
    · rcases Rat.mul_eq_zero.mp d1 with z | z
      · grind
      · contradiction
    · rcases Rat.mul_eq_zero.mp d2 with z | z
      · grind
      · contradiction
  have f1 := congrArg (Int.cast (R := Rat)) e1
  have f2 := congrArg (Int.cast (R := Rat)) e2
  have f3 := congrArg (Int.cast (R := Rat)) e3
  simp only [Rat.intCast_sub, Rat.intCast_mul] at f1 f2 f3
  have ng := ratz gn
  have mm : ∀ u v : Rat, (g : Rat) * (u - v) = 0 → u = v := fun u v z => by
    rcases Rat.mul_eq_zero.mp z with z | z
    · contradiction
    · grind
  refine q1 c _ _ a b cc (by walk_at "same") k3 hL (mm _ _ ?_) (mm _ _ ?_) c1 c2 c3
  · grind
  · grind
theorem ok_line_at (F : Fn K mg "line_at" s_line_at) (G_cleared : Kn P w K mg base 2 "cleared" ["p"] (spCleared K)) (G_one_form : Kn P w K mg base 2 "one_form" ["a", "b", "c"] (spOneForm K)) : Kn P w K mg base 3 "line_at" ["p", "a", "b"] (spLineAt K) := by
  refine F.kn sc_line_at (fun vs H Q E h => ?_) (fun f cdv A outer s H vs Q E hr h => ?_) (fun _ _ _ _ _ _ us hl => match us, hl with | [_, _, _], _ => rfl)
  · obtain ⟨v, x, y, a, b, n, k, rfl, _⟩ := h
    rfl
  obtain ⟨v, x, y, a, b, n, k, rfl, h1, nz, s1, s2, s3, s4, l, q⟩ := h
  have t3 : Sm 2600 a := s3.mono (by omega)
  have t4 : Sm 2600 b := s4.mono (by omega)
  refine ⟨_, (pss_cons (ps_asg (pe_kn G_cleared (hr.mono (by decide)) (by rfl) (pa_cons (pv 0) pa_nil)) (pg_tup (by rfl) (pgs_cons (pg_name (i := 3) sc_line_at.nd rfl (.inl rfl)) (pgs_cons (pg_name (i := 4) sc_line_at.nd rfl (.inl rfl)) (pgs_cons (pg_name (i := 5) sc_line_at.nd rfl (.inl rfl)) pgs_nil)))))
    (pss_one (ps_ret (pe_kn G_one_form (hr.mono (by decide)) (by rfl) (pa_cons (pe_op op_mulW (pv 1) (pv 5)) (pa_cons (pe_op op_mulW (pv 2) (pv 5)) (pa_cons (pe_op op_add (pe_op op_mulW (pv 1) (pv 3)) (pe_op op_mulW (pv 2) (pv 4))) pa_nil))))))), ?_⟩
  show (_ : TS) _ [some v, some (.int a), some (.int b), none, none, none] _
  repeat walk_at "g"
  refine ⟨_, x, y, n, n, rfl, h1, s1, s2, by omega, fun r1 H1 X Y W g1 k1 w1 ex ey a1 a2 a3 => ?_⟩
  have b1 : Sm 7600 X := a1.mono (by omega)
  have b2 : Sm 7600 Y := a2.mono (by omega)
  have b3 : Sm 7600 W := a3.mono (by omega)
  repeat walk_at "g"
  have nw := ratz (show W ≠ 0 by omega)
  have z1 : Sm (k + (n + n) + 1) (a * W) := (s3.mul a3).mono (by omega)
  have z2 : Sm (k + (n + n) + 1) (b * W) := (s4.mul a3).mono (by omega)
  have z3 : Sm (k + (n + n) + 1) (a * X + b * Y) := (s3.mul a1).add (s4.mul a2)
  have nW : W ≠ 0 := by omega
  refine ⟨_, _, _, k + (n + n) + 1, rfl, ?_, z1, z2, z3, by omega, fun r H' A B C g g3 k3 hL gn e1 e2 e3 c1 c2 c3 => ?_⟩
  · rintro ⟨e1, e2⟩
    rcases Int.mul_eq_zero.mp e1 with z | z
    · rcases Int.mul_eq_zero.mp e2 with y | y
      · exact nz ⟨z, y⟩
      · exact nW y
    · exact nW z
  have f1 := congrArg (Int.cast (R := Rat)) e1
  have f2 := congrArg (Int.cast (R := Rat)) e2
  have f3 := congrArg (Int.cast (R := Rat)) e3
  simp only [Rat.intCast_add, Rat.intCast_mul] at f1 f2 f3
  have ng := ratz gn
  have mm : ∀ u v : Rat, (g : Rat) * (u - v) = 0 → u = v := fun u v z => by
    rcases Rat.mul_eq_zero.mp z with z | z
    · contradiction
    · grind
  have m2 : ∀ u v : Rat, (g : Rat) * W * (u - v) = 0 → u = v := fun u v z => by
    rcases Rat.mul_eq_zero.mp z with z | z
    · rcases Rat.mul_eq_zero.mp z with z | z <;> contradiction
    · grind
  refine q _ _ A B C (by walk_at "same") k3 hL (mm _ _ ?_) (m2 _ _ ?_) c1 c2 c3
  · grind
  · grind
theorem ok_along (F : Fn K mg "along" s_along) (G_line_at : Kn P w K mg base 3 "line_at" ["p", "a", "b"] (spLineAt K)) : Kn P w K mg base 4 "along" ["p", "line"] (spAlong K RAl) := by
  refine F.kn sc_along (fun vs H Q E h => ?_) (fun f cdv A outer s H vs Q E hr h => ?_) (fun _ _ _ _ _ _ us hl => match us, hl with | [_, _], _ => rfl)
  · obtain ⟨v, w, x, y, a, b, c, n, k, rfl, _⟩ := h
    rfl
  obtain ⟨v, w, x, y, a, b, c, n, k, rfl, h1, h2, nz, s1, s2, s3, s4, l, q⟩ := h
  refine ⟨_, (pss_one (ps_ret (pe_kn G_line_at (hr.mono (by decide)) (by rfl) (pa_cons (pv 0) (pa_cons (pe_ix ix_tup (pv 1) pe_int (fun _ _ => rfl)) (pa_cons (pe_ix ix_tup (pv 1) pe_int (fun _ _ => rfl)) pa_nil)))))), ?_⟩
  show (_ : TS) _ [some v, some w] _
  repeat walk_at "g"
  refine ⟨_, x, y, _, _, n, k, rfl, h1, nz, s1, s2, s3, s4, l, fun r H' A B C g k3 hL o e c1 c2 c3 => ?_⟩
  refine q _ _ A B C g k3 hL o ?_ c1 c2 c3
  unfold RAl
  grind
theorem ok_upright (F : Fn K mg "upright" s_upright) (G_line_at : Kn P w K mg base 3 "line_at" ["p", "a", "b"] (spLineAt K)) : Kn P w K mg base 4 "upright" ["p", "line"] (spAlong K RUp) := by
  refine F.kn sc_upright (fun vs H Q E h => ?_) (fun f cdv A outer s H vs Q E hr h => ?_) (fun _ _ _ _ _ _ us hl => match us, hl with | [_, _], _ => rfl)
  · obtain ⟨v, w, x, y, a, b, c, n, k, rfl, _⟩ := h
    rfl
  obtain ⟨v, w, x, y, a, b, c, n, k, rfl, h1, h2, nz, s1, s2, s3, s4, l, q⟩ := h
  refine ⟨_, (pss_one (ps_ret (pe_kn G_line_at (hr.mono (by decide)) (by rfl) (pa_cons (pv 0) (pa_cons (pe_ix ix_tup (pv 1) pe_int (fun _ _ => rfl)) (pa_cons (pe_un un_neg (pe_ix ix_tup (pv 1) pe_int (fun _ _ => rfl))) pa_nil)))))), ?_⟩
  show (_ : TS) _ [some v, some w] _
  repeat walk_at "g"
  refine ⟨_, x, y, _, _, n, k, rfl, h1, (by omega), s1, s2, s4, s3.neg, l, fun r H' A B C g k3 hL o e c1 c2 c3 => ?_⟩
  refine q _ _ A B C g k3 hL o ?_ c1 c2 c3
  unfold RUp
  simp only [Rat.intCast_neg] at e
  grind
theorem ok_meet (F : Fn K mg "meet" s_meet) (G_fraction : Kn P w K mg base 2 "fraction" ["top", "bottom"] (spFrQ K)) : Kn P w K mg base 3 "meet" ["line", "other"] (spMeet K) := by
  refine F.kn sc_meet (fun vs H Q E h => ?_) (fun f cdv A outer s H vs Q E hr h => ?_) (fun _ _ _ _ _ _ us hl => match us, hl with | [_, _], _ => rfl)
  · obtain ⟨v, w, a, b, c, a', b', c', n, m, rfl, _⟩ := h
    rfl
  obtain ⟨v, w, a, b, c, a', b', c', n, m, rfl, h1, h2, s1, s2, s3, s4, s5, s6, l, q0, q1⟩ := h
  have t1 : Sm 7600 a := s1.mono (by omega)
  have t2 : Sm 7600 b := s2.mono (by omega)
  have t3 : Sm 7600 c := s3.mono (by omega)
  have t4 : Sm 7600 a' := s4.mono (by omega)
  have t5 : Sm 7600 b' := s5.mono (by omega)
  have t6 : Sm 7600 c' := s6.mono (by omega)
  refine ⟨_, (pss_cons (ps_asg (pv 0) (pg_tup (by rfl) (pgs_cons (pg_name (i := 2) sc_meet.nd rfl (.inl rfl)) (pgs_cons (pg_name (i := 3) sc_meet.nd rfl (.inl rfl)) (pgs_cons (pg_name (i := 4) sc_meet.nd rfl (.inl rfl)) pgs_nil)))))
    (pss_cons (ps_asg (pv 1) (pg_tup (by rfl) (pgs_cons (pg_name (i := 5) sc_meet.nd rfl (.inl rfl)) (pgs_cons (pg_name (i := 6) sc_meet.nd rfl (.inl rfl)) (pgs_cons (pg_name (i := 7) sc_meet.nd rfl (.inl rfl)) pgs_nil)))))
    (pss_cons (ps_set (i := 8) sc_meet.nd rfl (.inl rfl) (pe_op op_sub (pe_op op_mulW (pv 2) (pv 6)) (pe_op op_mulW (pv 3) (pv 5))))
    (pss_cons (ps_if (pt_cmpR op_eq (pv 8) pe_int (nomark _))
    (pss_one (ps_ret pe_non))
    pss_nil)
    (pss_one (ps_ret (pe_tup (pa_cons (pe_kn G_fraction (hr.mono (by decide)) (by rfl) (pa_cons (pe_op op_sub (pe_op op_mulW (pv 4) (pv 6)) (pe_op op_mulW (pv 3) (pv 7))) (pa_cons (pv 8) pa_nil))) (pa_cons (pe_kn G_fraction (hr.mono (by decide)) (by rfl) (pa_cons (pe_op op_sub (pe_op op_mulW (pv 2) (pv 7)) (pe_op op_mulW (pv 4) (pv 5))) (pa_cons (pv 8) pa_nil))) pa_nil))))))))), ?_⟩
  show (_ : TS) _ [some v, some w, none, none, none, none, none, none, none] _
  repeat walk_at "g"
  refine r_seq ?_
  repeat walk_at "g"
  refine r_ite (fun d => ?_) (fun d => ?_)
  · repeat walk_at "g"
    exact q0 (by omega)
  have nd : a * b' ≠ b * a' := by omega
  have rd := cross_rat nd
  have sd : Sm (n + m + 1) (a * b' - b * a') := (s1.mul s5).sub (s2.mul s4)
  repeat walk_at "g"
  refine ⟨_, _, ((c : Rat) * b' - b * c') / (a * b' - b * a'), rfl, d, sd.mono (by omega), ?_, fun r1 H1 g1 k1 => ?_⟩
  · simp only [Rat.intCast_sub, Rat.intCast_mul]
    grind
  repeat walk_at "g"
  refine ⟨_, _, ((a : Rat) * c' - c * a') / (a * b' - b * a'), rfl, d, sd.mono (by omega), ?_, fun r2 H2 g2 k2 => ?_⟩
  · simp only [Rat.intCast_sub, Rat.intCast_mul]
    grind
  repeat walk_at "g"
  have ex : ((c : Rat) * b' - b * c') / (a * b' - b * a') = Rat.divInt (c * b' - b * c') (a * b' - b * a') := divInt_of d (by simp only [Rat.intCast_sub, Rat.intCast_mul]; grind)
  have ey : ((a : Rat) * c' - c * a') / (a * b' - b * a') = Rat.divInt (a * c' - c * a') (a * b' - b * a') := divInt_of d (by simp only [Rat.intCast_sub, Rat.intCast_mul]; grind)
  clear t1 t2 t3 t4 t5 t6
  refine q1 nd _ _ (((c : Rat) * b' - b * c') / (a * b' - b * a')) (((a : Rat) * c' - c * a') / (a * b' - b * a')) (by walk_at "same") (by walk_at "fq") (by grind) (by grind) ?_ ?_
  · rw [ex]
    exact Sz.divInt d ((s3.mul s5).sub (s2.mul s6)) sd
  · rw [ey]
    exact Sz.divInt d ((s1.mul s6).sub (s3.mul s4)) sd
theorem ok_foot (F : Fn K mg "foot" s_foot) (G_upright : Kn P w K mg base 4 "upright" ["p", "line"] (spAlong K RUp)) (G_meet : Kn P w K mg base 3 "meet" ["line", "other"] (spMeet K)) : Kn P w K mg base 5 "foot" ["p", "line"] (spFoot K) := by
  refine F.kn sc_foot (fun vs H Q E h => ?_) (fun f cdv A outer s H vs Q E hr h => ?_) (fun _ _ _ _ _ _ us hl => match us, hl with | [_, _], _ => rfl)
  · obtain ⟨v, w, x, y, a, b, c, n, k, rfl, _⟩ := h
    rfl
  obtain ⟨v, w, x, y, a, b, c, n, k, rfl, h1, h2, hl, s1, s2, s3, s4, s5, l, q⟩ := h
  refine ⟨_, (pss_one (ps_ret (pe_kn G_meet (hr.mono (by decide)) (by rfl) (pa_cons (pv 1) (pa_cons (pe_kn G_upright (hr.mono (by decide)) (by rfl) (pa_cons (pv 0) (pa_cons (pv 1) pa_nil))) pa_nil))))), ?_⟩
  show (_ : TS) _ [some v, some w] _
  repeat walk_at "g"
  refine ⟨_, _, x, y, a, b, c, n, k, rfl, h1, h2, hl.nz, s1, s2, s3, s4, by omega, fun r H' A B C g k3 hL o e c1 c2 c3 => ?_⟩
  repeat walk_at "g"
  have nd := up_ne hl hL e
  refine ⟨_, _, a, b, c, A, B, C, k, _, rfl, by walk_at "lq", k3, s3, s4, s5, c1, c2, c3, by omega, fun z => absurd z nd, fun _ r2 H2 fx fy g2 k4 o1 o2 z1 z2 => ?_⟩
  exact q _ _ fx fy (by walk_at "same") k4 o1 (up_way hL e o o2) z1 z2
theorem ok_mirror (F : Fn K mg "mirror" s_mirror) (G_beyond : Kn P w K mg base 5 "beyond" ["p", "q"] (spP2 K (fun x y x2 y2 => x2 + x2 - x) (fun x y x2 y2 => y2 + y2 - y))) (G_foot : Kn P w K mg base 5 "foot" ["p", "line"] (spFoot K)) : Kn P w K mg base 6 "mirror" ["p", "line"] (spMirror K) := by
  refine F.kn sc_mirror (fun vs H Q E h => ?_) (fun f cdv A outer s H vs Q E hr h => ?_) (fun _ _ _ _ _ _ us hl => match us, hl with | [_, _], _ => rfl)
  · obtain ⟨v, w, x, y, a, b, c, n, k, rfl, _⟩ := h
    rfl
  obtain ⟨v, w, x, y, a, b, c, n, k, rfl, h1, h2, hl, s1, s2, s3, s4, s5, l, q⟩ := h
  refine ⟨_, (pss_one (ps_ret (pe_kn G_beyond (hr.mono (by decide)) (by rfl) (pa_cons (pv 0) (pa_cons (pe_kn G_foot (hr.mono (by decide)) (by rfl) (pa_cons (pv 0) (pa_cons (pv 1) pa_nil))) pa_nil))))), ?_⟩
  show (_ : TS) _ [some v, some w] _
  repeat walk_at "g"
  refine ⟨_, _, x, y, a, b, c, n, k, rfl, h1, h2, hl, s1, s2, s3, s4, s5, by omega, fun r H' fx fy g k3 o1 o2 z1 z2 => ?_⟩
  repeat walk_at "g"
  refine ⟨_, _, x, y, fx, fy, n, _, rfl, by walk_at "fq", k3, s1, s2, z1, z2, by omega, fun r2 H2 g2 k4 => ?_⟩
  exact q _ _ fx fy (by walk_at "same") k4 o1 o2 z1 z2
theorem ok_stream (F : Fn K mg "_law_stream" s_stream) (z_len : mg "len" = none) : Kn P w K mg base 1 "_law_stream" ["_law_script", "_law_at"] (spStream K) := by
  refine F.kn sc_stream (fun vs H Q E h => ?_) (fun f cdv A outer s H vs Q E hr h => ?_) (fun _ _ _ _ _ _ us hl => match us, hl with | [_, _], _ => rfl)
  · obtain ⟨a, ns, i, rfl, _⟩ := h
    rfl
  obtain ⟨a, ns, i, rfl, hS, hl, h0, h1, q⟩ := h
  refine ⟨_, (pss_cons (ps_set (i := 2) sc_stream.nd rfl (.inl rfl) pe_int)
    (pss_cons (ps_if (pt_cmpR op_gt (pe_callB call_len_seq (by rfl) z_len (by decide +kernel) (pa_cons (pv 0) pa_nil)) pe_int (nomark _))
    (pss_one (ps_set (i := 2) sc_stream.nd rfl (.inl rfl) (pe_ix ix_list (pv 0) (pe_op op_mod (pv 1) (pe_callB call_len_seq (by rfl) z_len (by decide +kernel) (pa_cons (pv 0) pa_nil))) (fun _ _ => rfl))))
    pss_nil)
    (pss_cons (ps_set (i := 3) sc_stream.nd rfl (.inl rfl) pe_int)
    (pss_cons (ps_if (PW.pt (pw_and (pt_cmpR op_lt (pv 1) (pe_callB call_len_seq (by rfl) z_len (by decide +kernel) (pa_cons (pv 0) pa_nil)) (nomark _)) (pw_and1 (pt_cmpR op_ge (pv 2) (pe_op op_pow pe_int pe_int) (nomark _)))))
    (pss_one (ps_set (i := 3) sc_stream.nd rfl (.inl rfl) (pv 2)))
    pss_nil)
    (pss_cons (ps_set (i := 4) sc_stream.nd rfl (.inl rfl) (pe_op op_mod (pe_op op_add (pe_op op_add (pe_op op_add (pe_op op_mod (pv 2) pe_int) (pe_op op_mulW (pe_op op_mulW pe_int (pv 1)) (pv 1))) (pe_op op_mulW pe_int (pv 1))) (pe_callB call_len_seq (by rfl) z_len (by decide +kernel) (pa_cons (pv 0) pa_nil))) pe_int))
    (pss_one (ps_ret (pe_lst (pa_cons (pv 3) (pa_cons (pv 4) (pa_cons pe_int pa_nil))))))))))), ?_⟩
  show (_ : TS) _ [some (.ref a), some (.int i), none, none, none] _
  have hz : (ns.map V.int).length = ns.length := List.length_map _
  have si : Sm 64 i := by unfold Sm; omega
  have si2 : Sm 80 (40503 * i) := by unfold Sm; omega
  repeat walk_at "st"
  refine r_cut (fun σ H' => ∃ z : Int, σ = [some (.ref a), some (.int i), some (.int z), none, none] ∧ H' = H) ?_ (fun N J => ?_)
  · rintro σ H' ⟨z, rfl, rfl⟩
    repeat walk_at "st"
    refine r_cut (fun σ H2 => ∃ x : Int, σ = [some (.ref a), some (.int i), some (.int z), some (.int x), none] ∧ H2 = H') ?_ (fun N J => ?_)
    · rintro σ H2 ⟨x, rfl, rfl⟩
      repeat walk_at "st"
      refine ⟨a, _, rfl, .inl hS, ?_⟩
      repeat walk_at "st"
      refine ⟨sz rfl, fun p hp => ?_⟩
      exact q p _ (same_new hp _) hp ⟨x, _, 0, upd_same, Int.emod_nonneg _ (by decide), Int.emod_lt_of_pos _ (by decide), by decide, by decide⟩
    · repeat walk_at "st"
      refine ⟨a, _, rfl, .inl hS, ?_⟩
      repeat walk_at "st"
      refine r_ite (fun c => ?_) (fun c => ?_)
      · repeat walk_at "st"
        refine r_ite (fun c => ?_) (fun c => ?_)
        · repeat walk_at "st"
          exact J _ _ ⟨_, rfl, rfl⟩
        · repeat walk_at "st"
          exact J _ _ ⟨_, rfl, rfl⟩
      · repeat walk_at "st"
        exact J _ _ ⟨_, rfl, rfl⟩
  · repeat walk_at "st"
    refine ⟨a, _, rfl, .inl hS, ?_⟩
    repeat walk_at "st"
    refine r_ite (fun c => ?_) (fun c => ?_)
    · repeat walk_at "st"
      refine ⟨a, _, rfl, .inl hS, ?_⟩
      rw [hz] at c
      refine r_i (show (0 : Int) < _ by rw [hz]; omega) ?_
      have hk : (i % ((ns.map V.int).length : Int)).toNat < ns.length := by
        rw [hz]
        have := Int.emod_lt_of_pos i (show (0 : Int) < ns.length by omega)
        omega
      have e : i % ((ns.map V.int).length : Int) = (((i % ((ns.map V.int).length : Int)).toNat : Nat) : Int) := by
        rw [hz]
        have := Int.emod_nonneg i (show (ns.length : Int) ≠ 0 by omega)
        omega
      refine r_ixL hS (at_of e (by rw [List.getElem?_map, List.getElem?_eq_getElem hk]; rfl)) ?_
      repeat walk_at "st"
      exact J _ _ ⟨_, rfl, rfl⟩
    · repeat walk_at "st"
      exact J _ _ ⟨_, rfl, rfl⟩
theorem ok_take (F : Fn K mg "_law_take" s_take) : Kn P w K mg base 1 "_law_take" ["_law_stream_here", "_law_many"] spTakeS := by
  refine F.kn sc_take (fun vs H Q E h => ?_) (fun f cdv A outer s H vs Q E hr h => ?_) (fun _ _ _ _ _ _ us hl => match us, hl with | [_, _], _ => rfl)
  · obtain ⟨p, k, b, rfl, _⟩ := h
    rfl
  obtain ⟨p, k, b, rfl, ⟨x, y, z, hp, y0, y1, z0, z1⟩, hb, hk, sk, q⟩ := h
  refine ⟨_, (pss_cons (ps_if (pt_cmpR op_gt (pe_ix ix_list (pv 0) pe_int (fun _ _ => rfl)) pe_int (nomark _))
    (pss_cons (ps_set (i := 2) sc_take.nd rfl (.inl rfl) (pe_op op_mod (pe_ix ix_list (pv 0) pe_int (fun _ _ => rfl)) (pv 1)))
    (pss_cons (ps_asg (pe_op op_fdivW (pe_ix ix_list (pv 0) pe_int (fun _ _ => rfl)) (pv 1)) (pg_sub (pv 0) pe_int set_list))
    (pss_one (ps_ret (pv 2)))))
    pss_nil)
    (pss_cons (ps_asg (pe_op op_add (pe_ix ix_list (pv 0) pe_int (fun _ _ => rfl)) pe_int) (pg_sub (pv 0) pe_int set_list))
    (pss_cons (ps_set (i := 3) sc_take.nd rfl (.inl rfl) (pe_ix ix_list (pv 0) pe_int (fun _ _ => rfl)))
    (pss_cons (ps_set (i := 4) sc_take.nd rfl (.inl rfl) (pe_op op_mod (pe_op op_pow (pe_op op_add (pe_ix ix_list (pv 0) pe_int (fun _ _ => rfl)) (pe_op op_mulW pe_int (pv 3))) pe_int) pe_int))
    (pss_cons (ps_set (i := 5) sc_take.nd rfl (.inl rfl) (pe_op op_mod (pe_op op_pow (pe_op op_add (pe_op op_add (pe_op op_mulW (pv 4) (pe_op op_add pe_int (pv 3))) (pe_op op_mulW (pe_op op_mulW pe_int (pv 3)) (pv 3))) (pe_ix ix_list (pv 0) pe_int (fun _ _ => rfl))) pe_int) pe_int))
    (pss_one (ps_ret (pe_op op_mod (pv 5) (pv 1))))))))), ?_⟩
  show (_ : TS) _ [some (.ref p), some (.int k), none, none, none, none] _
  have sy : Sm 64 y := by unfold Sm; omega
  have sz1 : Sm 64 (z + 1) := by unfold Sm; omega
  have m0 : ∀ i : Int, 0 ≤ i % k := fun i => Int.emod_nonneg i (by omega)
  have m1 : ∀ i : Int, i % k < k := fun i => Int.emod_lt_of_pos i (by omega)
  refine r_seq ?_
  repeat walk_at "st"
  refine r_ite (fun c => ?_) (fun c => ?_)
  · repeat walk_at "st"
    refine r_i (Sm.cdiv (by omega) sk) ?_
    repeat walk_at "st"
    refine r_setL hp rfl ?_
    repeat walk_at "st"
    exact q _ _ (But.upd _ _ _) ⟨_, y, z, upd_same, y0, y1, z0, by omega⟩ (m0 _) (m1 _)
  · repeat walk_at "st"
    refine r_setL hp rfl ?_
    dsimp only [List.set]
    have hp2 : (upd H p (.lst [.int x, .int y, .int (z + 1)])) p = some (.lst [.int x, .int y, .int (z + 1)]) := upd_same
    repeat walk_at "st"
    refine r_i ⟨by decide, by decide, by omega⟩ ?_
    repeat walk_at "st"
    generalize ho : (y + 7368787 * (z + 1)) ^ Int.toNat 5 % 2147483647 = o
    have e3 : 0 ≤ o := by rw [← ho]; exact Int.emod_nonneg _ (by decide)
    have e4 : o < 2147483647 := by rw [← ho]; exact Int.emod_lt_of_pos _ (by decide)
    have so : Sm 31 o := by unfold Sm; omega
    have s1 : Sm 18 (48271 + (z + 1)) := by unfold Sm; omega
    have s2 : Sm 17 (z + 1) := by unfold Sm; omega
    have s3 : Sm 31 y := by unfold Sm; omega
    repeat walk_at "st"
    refine r_i (Sm.cmul (Sm.mul (show Sm 16 39373 by decide) s2) s2) ?_
    repeat walk_at "st"
    have big : Sm 64 (o * (48271 + (z + 1)) + 39373 * (z + 1) * (z + 1) + y) :=
      Sm.mono (Sm.addm (Sm.addm (Sm.mul so s1) (Sm.mul (Sm.mul (show Sm 16 39373 by decide) s2) s2)) s3) (by decide)
    refine r_i ⟨by decide, by decide, big⟩ ?_
    repeat walk_at "st"
    exact q _ _ (But.upd _ _ _) ⟨x, y, z + 1, upd_same, y0, y1, by omega, by omega⟩ (m0 _) (m1 _)
theorem ok_divisor (F : Fn K mg "_law_divisor" s_divisor) (z_abs : mg "abs" = none) : Kn P w K mg base 1 "_law_divisor" ["_law_a", "_law_b"] spGcd := by
  refine F.kn sc_divisor (fun vs H Q E h => ?_) (fun f cdv A outer s H vs Q E hr h => ?_) (fun _ _ _ _ _ _ us hl => match us, hl with | [_, _], _ => rfl)
  · obtain ⟨a, b, rfl, _⟩ := h
    rfl
  obtain ⟨a, b, rfl, q⟩ := h
  refine ⟨_, (pss_cons (ps_set (i := 0) sc_divisor.nd rfl (.inl rfl) (pe_callB call_abs (by rfl) z_abs (by decide +kernel) (pa_cons (pv 0) pa_nil)))
    (pss_cons (ps_set (i := 1) sc_divisor.nd rfl (.inl rfl) (pe_callB call_abs (by rfl) z_abs (by decide +kernel) (pa_cons (pv 1) pa_nil)))
    (pss_cons (ps_while PassesOwn.never (pt_cmpR op_ne (pv 1) pe_int (nomark _))
    (pss_one (ps_par (by rfl) sc_divisor.nd (i := 0) (j := 1) rfl rfl (by decide) rfl rfl (pa_cons (pv 1) (pa_cons (pe_op op_mod (pv 0) (pv 1)) pa_nil)) (by rfl))))
    (pss_one (ps_ret (pv 0)))))), ?_⟩
  show (_ : TS) _ [some (.int a), some (.int b)] _
  repeat walk_at "st"
  refine ⟨a, rfl, ?_⟩
  repeat walk_at "st"
  refine ⟨b, rfl, ?_⟩
  repeat walk_at "st"
  refine r_seq ?_
  refine r_while (fun σ H' => H' = H ∧ ∃ x y : Int, σ = [some (.int x), some (.int y)] ∧ 0 ≤ x ∧ 0 ≤ y ∧ Int.gcd x y = Int.gcd a b) (fun σ _ => match σ with | [_, some (.int y)] => y.toNat | _ => 0) ?_ ?_
  · refine ⟨rfl, _, _, rfl, ?_, ?_, ?_⟩
    · split <;> omega
    · split <;> omega
    · split <;> split <;> simp only [Int.neg_gcd, Int.gcd_neg]
  · rintro σ H' ⟨rfl, x, y, rfl, hx, hy, hg⟩
    repeat walk_at "st"
    refine r_iteN (fun c => ?_) (fun c => ?_)
    · refine r_turn ?_
      repeat walk_at "st"
      have e1 := Int.emod_nonneg x (show y ≠ 0 by omega)
      have e2 := Int.emod_lt_of_pos x (show 0 < y by omega)
      refine ⟨⟨rfl, y, x % y, rfl, hy, e1, by rw [gcd_step hx (by omega), hg]⟩, ?_⟩
      show (x % y).toNat < y.toNat
      omega
    · subst c
      repeat walk_at "st"
      have g : (Int.gcd x 0 : Int) = x := by rw [Int.gcd_zero]; omega
      rw [hg] at g
      show Q (.int x) _
      rw [← g]
      exact q
theorem ok_lowest (F : Fn K mg "_law_lowest" s_lowest) (G_divisor : Kn P w K mg base 1 "_law_divisor" ["_law_a", "_law_b"] spGcd) : Kn P w K mg base 2 "_law_lowest" ["_law_pair"] (spLowest K) := by
  refine F.kn sc_lowest (fun vs H Q E h => ?_) (fun f cdv A outer s H vs Q E hr h => ?_) (fun _ _ _ _ _ _ us hl => match us, hl with | [_], _ => rfl)
  · obtain ⟨a, t, b, rfl, _⟩ := h
    rfl
  obtain ⟨a, t, b, rfl, hA, hb, sb, q⟩ := h
  refine ⟨_, (pss_cons (ps_set (i := 1) sc_lowest.nd rfl (.inl rfl) (pe_kn G_divisor (hr.mono (by decide)) (by rfl) (pa_cons (pe_ix ix_tup (pv 0) pe_int (fun _ _ => rfl)) (pa_cons (pe_ix ix_tup (pv 0) pe_int (fun _ _ => rfl)) pa_nil))))
    (pss_cons (ps_if (pt_cmpR op_lt (pe_ix ix_tup (pv 0) pe_int (fun _ _ => rfl)) pe_int (nomark _))
    (pss_one (ps_set (i := 1) sc_lowest.nd rfl (.inl rfl) (pe_un un_neg (pv 1))))
    pss_nil)
    (pss_one (ps_ret (pe_tup (pa_cons (pe_op op_fdivZ (pe_ix ix_tup (pv 0) pe_int (fun _ _ => rfl)) (pv 1)) (pa_cons (pe_op op_fdivZ (pe_ix ix_tup (pv 0) pe_int (fun _ _ => rfl)) (pv 1)) pa_nil))))))), ?_⟩
  show (_ : TS) _ [some (.ref a), none] _
  have g0 := gcd_pos (t := t) hb
  have gs : Sm 8900 (Int.gcd t b : Int) := gcd_sm hb sb
  repeat walk_at "st"
  refine ⟨_, _, rfl, ?_⟩
  repeat walk_at "st"
  refine r_cut (fun σ H' => σ = [some (.ref a), some (.int (if decide (b < 0) then -(Int.gcd t b : Int) else (Int.gcd t b : Int)))] ∧ H' = H) ?_ (fun N J => ?_)
  · rintro σ H' ⟨rfl, rfl⟩
    have cd : ∀ i : Int, CDivZ i (if decide (b < 0) then -(Int.gcd t b : Int) else (Int.gcd t b : Int)) := fun i => by
      split
      · exact cdivZ (by omega) gs.neg (by decide) (by decide)
      · exact cdivZ (by omega) gs (by decide) (by decide)
    repeat walk_at "st"
    refine r_i (cd _) ?_
    repeat walk_at "st"
    refine r_i (cd _) ?_
    repeat walk_at "st"
    refine ⟨sz rfl, fun p hp => ?_⟩
    refine q p _ (same_new hp _) hp ?_
    rw [upd_same, fdiv_exact (Int.gcd_dvd_left t b), fdiv_exact (Int.gcd_dvd_right t b)]
    unfold lowT lowB
    simp only [decide_eq_true_eq]
  · repeat walk_at "st"
    refine r_ite (fun c => ?_) (fun c => ?_)
    · repeat walk_at "st"
      exact J _ _ ⟨by simp [c], rfl⟩
    · repeat walk_at "st"
      exact J _ _ ⟨by simp [c], rfl⟩
theorem ok_whole (F : Fn K mg "_law_whole" s_whole) (z_isinstance : mg "isinstance" = none) (z_int : mg "int" = none) (z_bool : mg "bool" = none) : Kn P w K mg base 1 "_law_whole" ["_law_found"] spWhole := by
  refine F.kn sc_whole (fun vs H Q E h => ?_) (fun f cdv A outer s H vs Q E hr h => ?_) (fun _ _ _ _ _ _ us hl => match us, hl with | [_], _ => rfl)
  · obtain ⟨i, rfl, _⟩ := h
    rfl
  obtain ⟨i, rfl, q⟩ := h
  refine ⟨_, (pss_one (ps_ret (pe_and (pe_callB call_isi (by rfl) z_isinstance (by decide +kernel) (pa_cons (pv 0) (pa_cons (pe_bltn (v := .ty "int") (by rfl) z_int (by decide +kernel) rfl) pa_nil))) (pe_one (pe_not (pe_callB call_isi (by rfl) z_isinstance (by decide +kernel) (pa_cons (pv 0) (pa_cons (pe_bltn (v := .ty "bool") (by rfl) z_bool (by decide +kernel) rfl) pa_nil)))))))), ?_⟩
  show (_ : TS) _ [some (.int i)] _
  repeat walk_at "st"
  refine r_isi (r := true) (.base (.int _)) (by decide +kernel) ?_
  repeat walk_at "st"
  refine r_isi (r := false) (.base (.int _)) (by decide +kernel) ?_
  repeat walk_at "st"
  exact q
theorem ok_is_fraction (F : Fn K mg "_law_is_fraction" s_is_fraction) (G_whole : Kn P w K mg base 1 "_law_whole" ["_law_found"] spWhole) (G_divisor : Kn P w K mg base 1 "_law_divisor" ["_law_a", "_law_b"] spGcd) (z_isinstance : mg "isinstance" = none) (z_tuple : mg "tuple" = none) (z_len : mg "len" = none) : Kn P w K mg base 2 "_law_is_fraction" ["_law_found"] (spIsFr K) := by
  refine F.kn sc_is_fraction (fun vs H Q E h => ?_) (fun f cdv A outer s H vs Q E hr h => ?_) (fun _ _ _ _ _ _ us hl => match us, hl with | [_], _ => rfl)
  · obtain ⟨p, t, u, rfl, _⟩ := h
    rfl
  obtain ⟨p, t, u, rfl, hp, hu, hg, q⟩ := h
  refine ⟨_, (pss_cons (ps_if (PW.pt (pw_or (pt_not (pt_val (pe_callB call_isi (by rfl) z_isinstance (by decide +kernel) (pa_cons (pv 0) (pa_cons (pe_bltn (v := .ty "tuple") (by rfl) z_tuple (by decide +kernel) rfl) pa_nil))))) (pw_or1 (pt_cmpR op_ne (pe_callB call_len_seq (by rfl) z_len (by decide +kernel) (pa_cons (pv 0) pa_nil)) pe_int (nomark _)))))
    (pss_one (ps_ret pe_bl))
    pss_nil)
    (pss_cons (ps_if (PW.pt (pw_or (pt_not (pt_val (pe_kn G_whole (hr.mono (by decide)) (by rfl) (pa_cons (pe_ix ix_tup (pv 0) pe_int (fun _ _ => rfl)) pa_nil)))) (pw_or (pt_not (pt_val (pe_kn G_whole (hr.mono (by decide)) (by rfl) (pa_cons (pe_ix ix_tup (pv 0) pe_int (fun _ _ => rfl)) pa_nil)))) (pw_or1 (pt_cmpR op_lt (pe_ix ix_tup (pv 0) pe_int (fun _ _ => rfl)) pe_int (nomark _))))))
    (pss_one (ps_ret pe_bl))
    pss_nil)
    (pss_one (ps_ret (pe_cmpR op_eq (pe_kn G_divisor (hr.mono (by decide)) (by rfl) (pa_cons (pe_ix ix_tup (pv 0) pe_int (fun _ _ => rfl)) (pa_cons (pe_ix ix_tup (pv 0) pe_int (fun _ _ => rfl)) pa_nil))) pe_int (nomark _)))))), ?_⟩
  show (_ : TS) _ [some (.ref p)] _
  refine r_seq ?_
  repeat walk_at "st"
  refine r_isi (tyT hp) rfl ?_
  repeat walk_at "st"
  refine ⟨p, _, rfl, .inr hp, ?_⟩
  repeat walk_at "st"
  refine r_dF (by simp) ?_
  repeat walk_at "st"
  refine r_seq ?_
  repeat walk_at "st"
  refine ⟨_, rfl, ?_⟩
  repeat walk_at "st"
  refine ⟨_, rfl, ?_⟩
  repeat walk_at "st"
  refine r_ite (fun c => by omega) (fun c => ?_)
  repeat walk_at "st"
  refine ⟨_, _, rfl, ?_⟩
  repeat walk_at "st"
  rw [hg]
  exact q
theorem ok_is_place (F : Fn K mg "_law_is_place" s_is_place) (G_is_fraction : Kn P w K mg base 2 "_law_is_fraction" ["_law_found"] (spIsFr K)) (z_isinstance : mg "isinstance" = none) (z_tuple : mg "tuple" = none) (z_len : mg "len" = none) : Kn P w K mg base 3 "_law_is_place" ["_law_found"] (spIsPl K) := by
  refine F.kn sc_is_place (fun vs H Q E h => ?_) (fun f cdv A outer s H vs Q E hr h => ?_) (fun _ _ _ _ _ _ us hl => match us, hl with | [_], _ => rfl)
  · obtain ⟨p, f, g, t, u, r, s, rfl, _⟩ := h
    rfl
  obtain ⟨p, f1, g1, t, u, r, s', rfl, hp, hx, hy, hu, hgx, hs, hgy, q⟩ := h
  refine ⟨_, (pss_cons (ps_if (PW.pt (pw_or (pt_not (pt_val (pe_callB call_isi (by rfl) z_isinstance (by decide +kernel) (pa_cons (pv 0) (pa_cons (pe_bltn (v := .ty "tuple") (by rfl) z_tuple (by decide +kernel) rfl) pa_nil))))) (pw_or1 (pt_cmpR op_ne (pe_callB call_len_seq (by rfl) z_len (by decide +kernel) (pa_cons (pv 0) pa_nil)) pe_int (nomark _)))))
    (pss_one (ps_ret pe_bl))
    pss_nil)
    (pss_one (ps_ret (pe_and (pe_kn G_is_fraction (hr.mono (by decide)) (by rfl) (pa_cons (pe_ix ix_tup (pv 0) pe_int (fun _ _ => rfl)) pa_nil)) (pe_one (pe_kn G_is_fraction (hr.mono (by decide)) (by rfl) (pa_cons (pe_ix ix_tup (pv 0) pe_int (fun _ _ => rfl)) pa_nil))))))), ?_⟩
  show (_ : TS) _ [some (.ref p)] _
  refine r_seq ?_
  repeat walk_at "st"
  refine r_isi (tyT hp) rfl ?_
  repeat walk_at "st"
  refine ⟨p, _, rfl, .inr hp, ?_⟩
  repeat walk_at "st"
  refine r_dF (by simp) ?_
  repeat walk_at "st"
  refine ⟨_, _, _, rfl, hx, hu, hgx, ?_⟩
  repeat walk_at "st"
  exact ⟨_, _, _, rfl, hy, hs, hgy, q⟩
theorem ok_l_plus (F : Fn K mg "_law_plus" s_l_plus) : Kn P w K mg base 1 "_law_plus" ["_law_f", "_law_g"] (spRaw K (fun x y u v => x * v + u * y) (fun x y u v => y * v)) := by
  refine F.kn sc_l_plus (fun vs H Q E h => ?_) (fun f cdv A outer s H vs Q E hr h => ?_) (fun _ _ _ _ _ _ us hl => match us, hl with | [_, _], _ => rfl)
  · obtain ⟨a, b, x, y, u, v, rfl, _⟩ := h
    rfl
  obtain ⟨a, b, x, y, u, v, rfl, h1, h2, s1, s2, s3, s4, q⟩ := h
  refine ⟨_, (pss_one (ps_ret (pe_tup (pa_cons (pe_op op_add (pe_op op_mulW (pe_ix ix_tup (pv 0) pe_int (fun _ _ => rfl)) (pe_ix ix_tup (pv 1) pe_int (fun _ _ => rfl))) (pe_op op_mulW (pe_ix ix_tup (pv 1) pe_int (fun _ _ => rfl)) (pe_ix ix_tup (pv 0) pe_int (fun _ _ => rfl)))) (pa_cons (pe_op op_mulW (pe_ix ix_tup (pv 0) pe_int (fun _ _ => rfl)) (pe_ix ix_tup (pv 1) pe_int (fun _ _ => rfl))) pa_nil))))), ?_⟩
  show (_ : TS) _ [some (.ref a), some (.ref b)] _
  repeat walk_at "st"
  refine ⟨sz rfl, fun p hp => ?_⟩
  exact q p _ (same_new hp _) hp upd_same
theorem ok_l_minus (F : Fn K mg "_law_minus" s_l_minus) : Kn P w K mg base 1 "_law_minus" ["_law_f", "_law_g"] (spRaw K (fun x y u v => x * v - u * y) (fun x y u v => y * v)) := by
  refine F.kn sc_l_minus (fun vs H Q E h => ?_) (fun f cdv A outer s H vs Q E hr h => ?_) (fun _ _ _ _ _ _ us hl => match us, hl with | [_, _], _ => rfl)
  · obtain ⟨a, b, x, y, u, v, rfl, _⟩ := h
    rfl
  obtain ⟨a, b, x, y, u, v, rfl, h1, h2, s1, s2, s3, s4, q⟩ := h
  refine ⟨_, (pss_one (ps_ret (pe_tup (pa_cons (pe_op op_sub (pe_op op_mulW (pe_ix ix_tup (pv 0) pe_int (fun _ _ => rfl)) (pe_ix ix_tup (pv 1) pe_int (fun _ _ => rfl))) (pe_op op_mulW (pe_ix ix_tup (pv 1) pe_int (fun _ _ => rfl)) (pe_ix ix_tup (pv 0) pe_int (fun _ _ => rfl)))) (pa_cons (pe_op op_mulW (pe_ix ix_tup (pv 0) pe_int (fun _ _ => rfl)) (pe_ix ix_tup (pv 1) pe_int (fun _ _ => rfl))) pa_nil))))), ?_⟩
  show (_ : TS) _ [some (.ref a), some (.ref b)] _
  repeat walk_at "st"
  refine ⟨sz rfl, fun p hp => ?_⟩
  exact q p _ (same_new hp _) hp upd_same
theorem ok_l_times (F : Fn K mg "_law_times" s_l_times) : Kn P w K mg base 1 "_law_times" ["_law_f", "_law_g"] (spRaw K (fun x y u v => x * u) (fun x y u v => y * v)) := by
  refine F.kn sc_l_times (fun vs H Q E h => ?_) (fun f cdv A outer s H vs Q E hr h => ?_) (fun _ _ _ _ _ _ us hl => match us, hl with | [_, _], _ => rfl)
  · obtain ⟨a, b, x, y, u, v, rfl, _⟩ := h
    rfl
  obtain ⟨a, b, x, y, u, v, rfl, h1, h2, s1, s2, s3, s4, q⟩ := h
  refine ⟨_, (pss_one (ps_ret (pe_tup (pa_cons (pe_op op_mulW (pe_ix ix_tup (pv 0) pe_int (fun _ _ => rfl)) (pe_ix ix_tup (pv 1) pe_int (fun _ _ => rfl))) (pa_cons (pe_op op_mulW (pe_ix ix_tup (pv 0) pe_int (fun _ _ => rfl)) (pe_ix ix_tup (pv 1) pe_int (fun _ _ => rfl))) pa_nil))))), ?_⟩
  show (_ : TS) _ [some (.ref a), some (.ref b)] _
  repeat walk_at "st"
  refine ⟨sz rfl, fun p hp => ?_⟩
  exact q p _ (same_new hp _) hp upd_same
theorem ok_same (F : Fn K mg "_law_same" s_same) : Kn P w K mg base 1 "_law_same" ["_law_f", "_law_g"] (spEven K) := by
  refine F.kn sc_same (fun vs H Q E h => ?_) (fun f cdv A outer s H vs Q E hr h => ?_) (fun _ _ _ _ _ _ us hl => match us, hl with | [_, _], _ => rfl)
  · obtain ⟨a, b, x, y, u, v, rfl, _⟩ := h
    rfl
  obtain ⟨a, b, x, y, u, v, rfl, h1, h2, s1, s2, s3, s4, q⟩ := h
  refine ⟨_, (pss_one (ps_ret (pe_cmpR op_eq (pe_op op_mulW (pe_ix ix_tup (pv 0) pe_int (fun _ _ => rfl)) (pe_ix ix_tup (pv 1) pe_int (fun _ _ => rfl))) (pe_op op_mulW (pe_ix ix_tup (pv 1) pe_int (fun _ _ => rfl)) (pe_ix ix_tup (pv 0) pe_int (fun _ _ => rfl))) (nomark _)))), ?_⟩
  show (_ : TS) _ [some (.ref a), some (.ref b)] _
  repeat walk_at "st"
  exact q
theorem ok_l_on (F : Fn K mg "_law_on" s_l_on)  : Kn P w K mg base 1 "_law_on" ["_law_line", "_law_p"] (spOn K) := by
  refine F.kn sc_l_on (fun vs H Q E h => ?_) (fun f cdv A outer s H vs Q E hr h => ?_) (fun _ _ _ _ _ _ us hl => match us, hl with | [_, _], _ => rfl)
  · obtain ⟨v, w, a, b, c, x, y, rfl, _⟩ := h
    rfl
  obtain ⟨v, w, a, b, c, x, y, rfl, ⟨p, rfl, hL⟩, ⟨r, _, _, rfl, hR, ⟨f1, rfl, h1⟩, ⟨f2, rfl, h2⟩⟩, sa, sb, sc, sx, sy, q⟩ := h
  refine ⟨_, (pss_cons (ps_asg (pv 1) (pg_tup (by rfl) (pgs_cons (pg_name (i := 2) sc_l_on.nd rfl (.inl rfl)) (pgs_cons (pg_name (i := 3) sc_l_on.nd rfl (.inl rfl)) pgs_nil))))
    (pss_cons (ps_set (i := 4) sc_l_on.nd rfl (.inl rfl) (pe_op op_add (pe_op op_mulW (pe_op op_mulW (pe_ix ix_tup (pv 0) pe_int (fun _ _ => rfl)) (pe_ix ix_tup (pv 2) pe_int (fun _ _ => rfl))) (pe_ix ix_tup (pv 3) pe_int (fun _ _ => rfl))) (pe_op op_mulW (pe_op op_mulW (pe_ix ix_tup (pv 0) pe_int (fun _ _ => rfl)) (pe_ix ix_tup (pv 3) pe_int (fun _ _ => rfl))) (pe_ix ix_tup (pv 2) pe_int (fun _ _ => rfl)))))
    (pss_one (ps_ret (pe_cmpR op_eq (pv 4) (pe_op op_mulW (pe_op op_mulW (pe_ix ix_tup (pv 0) pe_int (fun _ _ => rfl)) (pe_ix ix_tup (pv 2) pe_int (fun _ _ => rfl))) (pe_ix ix_tup (pv 3) pe_int (fun _ _ => rfl))) (nomark _)))))), ?_⟩
  show (_ : TS) _ [some (.ref p), some (.ref r), none, none, none] _
  have s1 := sx.t; have s2 := sx.b; have s3 := sy.t; have s4 := sy.b
  repeat walk_at "st"
  refine ⟨r, _, rfl, hR, rfl, ?_⟩
  refine ⟨_, _, rfl, ?_⟩
  repeat walk_at "st"
  refine ⟨_, _, rfl, ?_⟩
  repeat walk_at "st"
  refine ⟨rfl, ?_⟩
  repeat walk_at "st"
  rw [show decide (a * x.num * (y.den : Int) + b * y.num * (x.den : Int) = c * (x.den : Int) * (y.den : Int)) = decide ((a : Rat) * x + b * y = c) from decide_eq_decide.mpr (on_iff a b c x y)]
  exact q
theorem ok_l_way (F : Fn K mg "_law_way" s_l_way) (G_l_plus : Kn P w K mg base 1 "_law_plus" ["_law_f", "_law_g"] (spR2 K (· + ·))) (G_l_minus : Kn P w K mg base 1 "_law_minus" ["_law_f", "_law_g"] (spR2 K (· - ·))) (G_l_times : Kn P w K mg base 1 "_law_times" ["_law_f", "_law_g"] (spR2 K (· * ·))) (G_lowest : Kn P w K mg base 2 "_law_lowest" ["_law_pair"] (spLowQ K)) : Kn P w K mg base 3 "_law_way" ["_law_p", "_law_q", "_law_t"] (spWay K) := by
  refine F.kn sc_l_way (fun vs H Q E h => ?_) (fun f cdv A outer s H vs Q E hr h => ?_) (fun _ _ _ _ _ _ us hl => match us, hl with | [_, _, _], _ => rfl)
  · obtain ⟨v, w, u, x, y, x', y', t, rfl, _⟩ := h
    rfl
  obtain ⟨v, w, u, x, y, x', y', t, rfl, h1, h2, h3, s1, s2, s3, s4, s5, q⟩ := h
  refine ⟨_, (pss_cons (ps_set (i := 3) sc_l_way.nd rfl (.inl rfl) (pe_kn G_l_plus (hr.mono (by decide)) (by rfl) (pa_cons (pe_ix ix_tup (pv 0) pe_int (fun _ _ => rfl)) (pa_cons (pe_kn G_l_times (hr.mono (by decide)) (by rfl) (pa_cons (pv 2) (pa_cons (pe_kn G_l_minus (hr.mono (by decide)) (by rfl) (pa_cons (pe_ix ix_tup (pv 1) pe_int (fun _ _ => rfl)) (pa_cons (pe_ix ix_tup (pv 0) pe_int (fun _ _ => rfl)) pa_nil))) pa_nil))) pa_nil))))
    (pss_cons (ps_set (i := 4) sc_l_way.nd rfl (.inl rfl) (pe_kn G_l_plus (hr.mono (by decide)) (by rfl) (pa_cons (pe_ix ix_tup (pv 0) pe_int (fun _ _ => rfl)) (pa_cons (pe_kn G_l_times (hr.mono (by decide)) (by rfl) (pa_cons (pv 2) (pa_cons (pe_kn G_l_minus (hr.mono (by decide)) (by rfl) (pa_cons (pe_ix ix_tup (pv 1) pe_int (fun _ _ => rfl)) (pa_cons (pe_ix ix_tup (pv 0) pe_int (fun _ _ => rfl)) pa_nil))) pa_nil))) pa_nil))))
    (pss_one (ps_ret (pe_tup (pa_cons (pe_kn G_lowest (hr.mono (by decide)) (by rfl) (pa_cons (pv 3) pa_nil)) (pa_cons (pe_kn G_lowest (hr.mono (by decide)) (by rfl) (pa_cons (pv 4) pa_nil)) pa_nil))))))), ?_⟩
  show (_ : TS) _ [some v, some w, some u, none, none] _
  repeat walk_at "ql"
  refine q _ _ (by walk_at "same") ?_
  walk_at "fin"
theorem ok_far (F : Fn K mg "_law_far" s_far) (G_l_plus : Kn P w K mg base 1 "_law_plus" ["_law_f", "_law_g"] (spR2 K (· + ·))) (G_l_minus : Kn P w K mg base 1 "_law_minus" ["_law_f", "_law_g"] (spR2 K (· - ·))) (G_l_times : Kn P w K mg base 1 "_law_times" ["_law_f", "_law_g"] (spR2 K (· * ·))) : Kn P w K mg base 2 "_law_far" ["_law_p", "_law_q"] (spFar K) := by
  refine F.kn sc_far (fun vs H Q E h => ?_) (fun f cdv A outer s H vs Q E hr h => ?_) (fun _ _ _ _ _ _ us hl => match us, hl with | [_, _], _ => rfl)
  · obtain ⟨v, w, x, y, x', y', n, m, rfl, _⟩ := h
    rfl
  obtain ⟨v, w, x, y, x', y', n, m, rfl, h1, h2, s1, s2, s3, s4, l, q⟩ := h
  refine ⟨_, (pss_cons (ps_set (i := 2) sc_far.nd rfl (.inl rfl) (pe_kn G_l_minus (hr.mono (by decide)) (by rfl) (pa_cons (pe_ix ix_tup (pv 0) pe_int (fun _ _ => rfl)) (pa_cons (pe_ix ix_tup (pv 1) pe_int (fun _ _ => rfl)) pa_nil))))
    (pss_cons (ps_set (i := 3) sc_far.nd rfl (.inl rfl) (pe_kn G_l_minus (hr.mono (by decide)) (by rfl) (pa_cons (pe_ix ix_tup (pv 0) pe_int (fun _ _ => rfl)) (pa_cons (pe_ix ix_tup (pv 1) pe_int (fun _ _ => rfl)) pa_nil))))
    (pss_one (ps_ret (pe_kn G_l_plus (hr.mono (by decide)) (by rfl) (pa_cons (pe_kn G_l_times (hr.mono (by decide)) (by rfl) (pa_cons (pv 2) (pa_cons (pv 2) pa_nil))) (pa_cons (pe_kn G_l_times (hr.mono (by decide)) (by rfl) (pa_cons (pv 3) (pa_cons (pv 3) pa_nil))) pa_nil))))))), ?_⟩
  show (_ : TS) _ [some v, some w, none, none] _
  repeat walk_at "w"
  refine ⟨_, _, x, x', n, m, rfl, Fq.rq (by walk_at "fq") s1, Fq.rq (by walk_at "fq") s3, by omega, by omega, fun r1 H1 g1 k1 => ?_⟩
  repeat walk_at "w"
  refine ⟨_, _, y, y', n, m, rfl, Fq.rq (by walk_at "fq") s2, Fq.rq (by walk_at "fq") s4, by omega, by omega, fun r2 H2 g2 k2 => ?_⟩
  repeat walk_at "w"
  refine ⟨_, _, x - x', x - x', _, _, rfl, k1.up g2, k1.up g2, by omega, by omega, fun r3 H3 g3 k3 => ?_⟩
  repeat walk_at "w"
  refine ⟨_, _, y - y', y - y', _, _, rfl, k2.up g3, k2.up g3, by omega, by omega, fun r4 H4 g4 k4 => ?_⟩
  repeat walk_at "w"
  refine ⟨_, _, _, _, _, _, rfl, k3.up g4, k4, by omega, by omega, fun r5 H5 g5 k5 => ?_⟩
  refine q _ _ (by walk_at "same") ?_
  rw [show 4 * (n + m) + 7 = n + m + 1 + (n + m + 1) + 1 + (n + m + 1 + (n + m + 1) + 1) + 1 by omega]
  exact k5
theorem ok_small (F : Fn K mg "_law_small" s_small) (G_take : Kn P w K mg base 1 "_law_take" ["_law_stream_here", "_law_many"] spTakeS) (G_lowest : Kn P w K mg base 2 "_law_lowest" ["_law_pair"] (spLowQ K)) : Kn P w K mg base 3 "_law_small" ["_law_stream_here"] (spSmall K) := by
  refine F.kn sc_small (fun vs H Q E h => ?_) (fun f cdv A outer s H vs Q E hr h => ?_) (fun _ _ _ _ _ _ us hl => match us, hl with | [_], _ => rfl)
  · obtain ⟨p, n, rfl, _⟩ := h
    rfl
  obtain ⟨p, n, rfl, hp, hn, q⟩ := h
  refine ⟨_, (pss_cons (ps_set (i := 1) sc_small.nd rfl (.inl rfl) (pe_cmpR op_eq (pe_kn G_take (hr.mono (by decide)) (by rfl) (pa_cons (pv 0) (pa_cons pe_int pa_nil))) pe_int (nomark _)))
    (pss_cons (ps_set (i := 2) sc_small.nd rfl (.inl rfl) (pe_op op_sub (pe_kn G_take (hr.mono (by decide)) (by rfl) (pa_cons (pv 0) (pa_cons pe_int pa_nil))) pe_int))
    (pss_cons (ps_if (pt_val (pv 1))
    (pss_one (ps_ret (pe_tup (pa_cons (pv 2) (pa_cons pe_int pa_nil)))))
    pss_nil)
    (pss_one (ps_ret (pe_kn G_lowest (hr.mono (by decide)) (by rfl) (pa_cons (pe_tup (pa_cons (pv 2) (pa_cons (pe_op op_add pe_int (pe_kn G_take (hr.mono (by decide)) (by rfl) (pa_cons (pv 0) (pa_cons pe_int pa_nil)))) pa_nil))) pa_nil))))))), ?_⟩
  show (_ : TS) _ [some (.ref p), none, none] _
  repeat walk_at "c1"
  refine ⟨p, _, n, rfl, hp, by omega, by decide, by decide, fun r H1 b1 hp1 r0 r1 => ?_⟩
  repeat walk_at "c1"
  refine ⟨p, _, _, rfl, hp1, by omega, by decide, by decide, fun r2 H2 b2 hp2 r3 r4 => ?_⟩
  have st : Sm 8 (r2 - 99) := by unfold Sm; omega
  repeat walk_at "c1"
  refine r_seq ?_
  repeat walk_at "c1"
  refine r_ite (fun d => ?_) (fun d => ?_)
  · repeat walk_at "c1"
    rename_i o H3 g3 n3 h3
    exact q _ _ _ ((b1.trans b2).trans (But.same g3)) ((hp2.same g3).mono (by omega)) (Fq.int h3) (Sz.int st (by decide))
  · repeat walk_at "c1"
    refine ⟨p, _, _, rfl, hp2, by omega, by decide, by decide, fun r5 H3 b3 hp3 r6 r7 => ?_⟩
    have su : Sm 8 (1 + r5) := by unfold Sm; omega
    have nz : 1 + r5 ≠ 0 := by omega
    repeat walk_at "c1"
    rename_i o4 H4 g4 n4 h4 v5 H5 g5 f5
    refine q _ _ _ (((b1.trans b2).trans b3).trans (But.same (g4.trans g5))) ((hp3.same (g4.trans g5)).mono (by omega)) f5 ?_
    rw [← Rat.divInt_eq_div]
    exact Sz.divInt nz st su
theorem ok_small_place (F : Fn K mg "_law_small_place" s_small_place) (G_small : Kn P w K mg base 3 "_law_small" ["_law_stream_here"] (spSmall K)) : Kn P w K mg base 4 "_law_small_place" ["_law_stream_here"] (spSmallP K) := by
  refine F.kn sc_small_place (fun vs H Q E h => ?_) (fun f cdv A outer s H vs Q E hr h => ?_) (fun _ _ _ _ _ _ us hl => match us, hl with | [_], _ => rfl)
  · obtain ⟨p, n, rfl, _⟩ := h
    rfl
  obtain ⟨p, n, rfl, hp, hn, q⟩ := h
  refine ⟨_, (pss_one (ps_ret (pe_tup (pa_cons (pe_kn G_small (hr.mono (by decide)) (by rfl) (pa_cons (pv 0) pa_nil)) (pa_cons (pe_kn G_small (hr.mono (by decide)) (by rfl) (pa_cons (pv 0) pa_nil)) pa_nil))))), ?_⟩
  show (_ : TS) _ [some (.ref p)] _
  repeat walk_at "c1"
  refine ⟨p, n, rfl, hp, by omega, fun v1 q1 H1 b1 hp1 f1 s1 => ?_⟩
  repeat walk_at "c1"
  refine ⟨p, _, rfl, hp1, by omega, fun v2 q2 H2 b2 hp2 f2 s2 => ?_⟩
  repeat walk_at "c1"
  rename_i o H3 g3 n3 h3
  exact q _ _ _ _ ((b1.trans b2).trans (But.same g3)) ((hp2.same g3).mono (by omega)) (Pq.mk h3 ((f1.upB b2 hp1).up g3) (f2.up g3)) s1 s2
theorem ok_small_near (F : Fn K mg "_law_small_near" s_small_near) (G_take : Kn P w K mg base 1 "_law_take" ["_law_stream_here", "_law_many"] spTakeS) (G_small_place : Kn P w K mg base 4 "_law_small_place" ["_law_stream_here"] (spSmallP K)) : Kn P w K mg base 5 "_law_small_near" ["_law_stream_here", "_law_p"] (spSmallN K) := by
  refine F.kn sc_small_near (fun vs H Q E h => ?_) (fun f cdv A outer s H vs Q E hr h => ?_) (fun _ _ _ _ _ _ us hl => match us, hl with | [_, _], _ => rfl)
  · obtain ⟨p, n, w, x, y, rfl, _⟩ := h
    rfl
  obtain ⟨p, n, w, x, y, rfl, hp, hn, hw, sx, sy, q⟩ := h
  refine ⟨_, (pss_cons (ps_set (i := 2) sc_small_near.nd rfl (.inl rfl) (pe_kn G_take (hr.mono (by decide)) (by rfl) (pa_cons (pv 0) (pa_cons pe_int pa_nil))))
    (pss_cons (ps_set (i := 3) sc_small_near.nd rfl (.inl rfl) (pe_kn G_small_place (hr.mono (by decide)) (by rfl) (pa_cons (pv 0) pa_nil)))
    (pss_cons (ps_if (pt_cmpR op_eq (pv 2) pe_int (nomark _))
    (pss_one (ps_ret (pv 1)))
    pss_nil)
    (pss_cons (ps_if (pt_cmpR op_eq (pv 2) pe_int (nomark _))
    (pss_one (ps_ret (pe_tup (pa_cons (pe_ix ix_tup (pv 1) pe_int (fun _ _ => rfl)) (pa_cons (pe_ix ix_tup (pv 3) pe_int (fun _ _ => rfl)) pa_nil)))))
    pss_nil)
    (pss_cons (ps_if (pt_cmpR op_eq (pv 2) pe_int (nomark _))
    (pss_one (ps_ret (pe_tup (pa_cons (pe_ix ix_tup (pv 3) pe_int (fun _ _ => rfl)) (pa_cons (pe_ix ix_tup (pv 1) pe_int (fun _ _ => rfl)) pa_nil)))))
    pss_nil)
    (pss_one (ps_ret (pv 3)))))))), ?_⟩
  show (_ : TS) _ [some (.ref p), some w, none, none] _
  repeat walk_at "c1"
  refine ⟨p, _, n, rfl, hp, by omega, by decide, by decide, fun r H1 b1 hp1 r0 r1 => ?_⟩
  repeat walk_at "c1"
  refine ⟨p, _, rfl, hp1, by omega, fun v2 x2 y2 H2 b2 hp2 P2 t2 t3 => ?_⟩
  have hw2 : Pq K H2 w x y := (hw.upB b1 hp).upB b2 hp1
  have bb := b1.trans b2
  have hp3 : Sr H2 p (n + 40) := hp2.mono (by omega)
  clear hw b1 b2 hp hp1 hp2
  repeat walk_at "c1"
  refine r_seq ?_
  repeat walk_at "c1"
  refine r_ite (fun d => ?_) (fun d => ?_)
  · repeat walk_at "c1"
    exact q _ _ _ _ bb hp3 hw2 sx sy
  repeat walk_at "c1"
  refine r_seq ?_
  repeat walk_at "c1"
  refine r_ite (fun d => ?_) (fun d => ?_)
  · repeat walk_at "c1"
    rename_i o5 H5 g5 n5 h5
    refine q _ ?x1 ?y1 _ (bb.trans (But.same g5)) (hp3.same g5) ?h1 ?h2 ?h3
    case h1 => walk_at "fq"
    case h2 => assumption
    case h3 => assumption
  repeat walk_at "c1"
  refine r_seq ?_
  repeat walk_at "c1"
  refine r_ite (fun d => ?_) (fun d => ?_)
  · repeat walk_at "c1"
    rename_i o5 H5 g5 n5 h5
    refine q _ ?x2 ?y2 _ (bb.trans (But.same g5)) (hp3.same g5) ?i1 ?i2 ?i3
    case i1 => walk_at "fq"
    case i2 => assumption
    case i3 => assumption
  repeat walk_at "c1"
  exact q _ _ _ _ bb hp3 P2 t2 t3
theorem ok_cross (F : Fn K mg "_law_cross" s_cross) (G_l_minus : Kn P w K mg base 1 "_law_minus" ["_law_f", "_law_g"] (spR2 K (· - ·))) (G_l_times : Kn P w K mg base 1 "_law_times" ["_law_f", "_law_g"] (spR2 K (· * ·))) : Kn P w K mg base 2 "_law_cross" ["_law_p", "_law_q", "_law_r"] (spCross K) := by
  refine F.kn sc_cross (fun vs H Q E h => ?_) (fun f cdv A outer s H vs Q E hr h => ?_) (fun _ _ _ _ _ _ us hl => match us, hl with | [_, _, _], _ => rfl)
  · obtain ⟨v, w, u, x, y, x', y', x2, y2, rfl, _⟩ := h
    rfl
  obtain ⟨v, w, u, x, y, x', y', x2, y2, rfl, h1, h2, h3, s1, s2, s3, s4, s5, s6, q⟩ := h
  refine ⟨_, (pss_cons (ps_set (i := 3) sc_cross.nd rfl (.inl rfl) (pe_kn G_l_times (hr.mono (by decide)) (by rfl) (pa_cons (pe_kn G_l_minus (hr.mono (by decide)) (by rfl) (pa_cons (pe_ix ix_tup (pv 0) pe_int (fun _ _ => rfl)) (pa_cons (pe_ix ix_tup (pv 2) pe_int (fun _ _ => rfl)) pa_nil))) (pa_cons (pe_kn G_l_minus (hr.mono (by decide)) (by rfl) (pa_cons (pe_ix ix_tup (pv 1) pe_int (fun _ _ => rfl)) (pa_cons (pe_ix ix_tup (pv 2) pe_int (fun _ _ => rfl)) pa_nil))) pa_nil))))
    (pss_cons (ps_set (i := 4) sc_cross.nd rfl (.inl rfl) (pe_kn G_l_times (hr.mono (by decide)) (by rfl) (pa_cons (pe_kn G_l_minus (hr.mono (by decide)) (by rfl) (pa_cons (pe_ix ix_tup (pv 0) pe_int (fun _ _ => rfl)) (pa_cons (pe_ix ix_tup (pv 2) pe_int (fun _ _ => rfl)) pa_nil))) (pa_cons (pe_kn G_l_minus (hr.mono (by decide)) (by rfl) (pa_cons (pe_ix ix_tup (pv 1) pe_int (fun _ _ => rfl)) (pa_cons (pe_ix ix_tup (pv 2) pe_int (fun _ _ => rfl)) pa_nil))) pa_nil))))
    (pss_one (ps_ret (pe_kn G_l_minus (hr.mono (by decide)) (by rfl) (pa_cons (pv 3) (pa_cons (pv 4) pa_nil))))))), ?_⟩
  show (_ : TS) _ [some v, some w, some u, none, none] _
  repeat walk_at "w"
  refine q _ _ (by walk_at "same") ?_
  assumption
theorem ok_one_place (F : Fn K mg "_law_one_place" s_one_place) (G_meet : Kn P w K mg base 3 "meet" ["line", "other"] (spMeetO K)) (G_is_place : Kn P w K mg base 3 "_law_is_place" ["_law_found"] (spIsP K)) (G_l_on : Kn P w K mg base 1 "_law_on" ["_law_line", "_law_p"] (spOn K)) : Kn P w K mg base 4 "_law_one_place" ["_law_lines"] (spOnePlace K) := by
  refine F.kn sc_one_place (fun vs H Q E h => ?_) (fun f cdv A outer s H vs Q E hr h => ?_) (fun _ _ _ _ _ _ us hl => match us, hl with | [_], _ => rfl)
  · obtain ⟨D, v0, v1, v2, a0, b0, c0, a1, b1, c1, a2, b2, c2, X, Y, rfl, _⟩ := h
    rfl
  obtain ⟨D, v0, v1, v2, a0, b0, c0, a1, b1, c1, a2, b2, c2, X, Y, rfl, hD, k0, k1, k2, s1, s2, s3, s4, s5, s6, s7, s8, s9, o0, o1, o2, d1, d2, q⟩ := h
  refine ⟨_, (pss_cons (ps_set (i := 1) sc_one_place.nd rfl (.inl rfl) (pe_kn G_meet (hr.mono (by decide)) (by rfl) (pa_cons (pe_ix ix_list (pv 0) pe_int (fun _ _ => rfl)) (pa_cons (pe_ix ix_list (pv 0) pe_int (fun _ _ => rfl)) pa_nil))))
    (pss_cons (ps_if (PW.pt (pw_or (pt_not (pt_val (pe_kn G_is_place (hr.mono (by decide)) (by rfl) (pa_cons (pv 1) pa_nil)))) (pw_or (pt_cmpR (op_neD hr.units) (pe_kn G_meet (hr.mono (by decide)) (by rfl) (pa_cons (pe_ix ix_list (pv 0) pe_int (fun _ _ => rfl)) (pa_cons (pe_ix ix_list (pv 0) pe_int (fun _ _ => rfl)) pa_nil))) (pv 1) (nomark _)) (pw_or1 (pt_not (pt_val (pe_kn G_l_on (hr.mono (by decide)) (by rfl) (pa_cons (pe_ix ix_list (pv 0) pe_int (fun _ _ => rfl)) (pa_cons (pv 1) pa_nil)))))))))
    (pss_one (ps_ret pe_non))
    pss_nil)
    (pss_one (ps_ret (pv 1))))), ?_⟩
  show (_ : TS) _ [some (.ref D), none] _
  repeat walk_at "c7"
  rename_i r1 H1 g1 p1 z1 z2
  have hD1 := g1 _ _ hD
  have k0' := k0.up g1
  have k2' := k2.up g1
  clear hD k0 k1 k2
  refine r_seq ?_
  repeat walk_at "c7"
  rename_i r2 H2 g2 p2 z3 z4
  walk_at "eqp"
  have hD2 := g2 _ _ hD1
  have p1' := p1.up g2
  have k2'' := k2'.up g2
  have gS := g1.trans g2
  clear hD1 k0' k2' p1 p2 g1 g2
  repeat walk_at "c7"
  exact q _ _ gS p1' (z1.mono (by decide)) (z2.mono (by decide))
theorem ok_flat (F : Fn K mg "_law_flat" s_flat) (G_upright : Kn P w K mg base 4 "upright" ["p", "line"] (spAlong K RUp)) (G_meet : Kn P w K mg base 3 "meet" ["line", "other"] (spMeetO K)) (z_range : mg "range" = none) : Kn P w K mg base 5 "_law_flat" ["_law_corners", "_law_sides"] (spFlat K) := by
  refine F.kn sc_flat (fun vs H Q E h => ?_) (fun f cdv A outer s H vs Q E hr h => ?_) (fun _ _ _ _ _ _ us hl => match us, hl with | [_, _], _ => rfl)
  · obtain ⟨D, E9, v0, v1, v2, w0, w1, w2, x1, y1, x2, y2, x3, y3, rfl, _⟩ := h
    rfl
  obtain ⟨D, E9, v0, v1, v2, w0, w1, w2, x1, y1, x2, y2, x3, y3, rfl, hD, hE, k0, k1, k2, l0, l1, l2, s1, s2, s3, s4, s5, s6, z0, z1, z2, cr, q⟩ := h
  refine ⟨_, (pss_cons (ps_for PassesOwn.never rfl (pi_range1 (by rfl) z_range (pa_cons pe_int pa_nil)) (pg_name (i := 2) sc_flat.nd rfl (.inl rfl))
    (pss_one (ps_if (pt_cmpR op_ne (pe_cmpR op_isNo (pe_ix ix_list (pv 1) (pv 2) (fun _ _ => rfl)) pe_non (nomark _)) (pe_cmpR (op_eqD hr.units) (pe_ix ix_list (pv 0) (pe_op op_mod (pe_op op_add (pv 2) pe_int) pe_int) (fun _ _ => rfl)) (pe_ix ix_list (pv 0) (pe_op op_mod (pe_op op_add (pv 2) pe_int) pe_int) (fun _ _ => rfl)) (nomark _)) (nomark _))
    (pss_one (ps_ret pe_bl))
    pss_nil)))
    (pss_cons (ps_if (PW.pt (pw_or (pt_cmpR op_isNo (pe_ix ix_list (pv 1) pe_int (fun _ _ => rfl)) pe_non (nomark _)) (pw_or (pt_cmpR op_isNo (pe_ix ix_list (pv 1) pe_int (fun _ _ => rfl)) pe_non (nomark _)) (pw_or1 (pt_cmpR op_isNo (pe_ix ix_list (pv 1) pe_int (fun _ _ => rfl)) pe_non (nomark _))))))
    (pss_one (ps_ret pe_bl))
    pss_nil)
    (pss_cons (ps_if (PW.pt (pw_or (pt_cmpR (op_neD hr.units) (pe_ix ix_list (pv 1) pe_int (fun _ _ => rfl)) (pe_ix ix_list (pv 1) pe_int (fun _ _ => rfl)) (nomark _)) (pw_or1 (pt_cmpR (op_neD hr.units) (pe_ix ix_list (pv 1) pe_int (fun _ _ => rfl)) (pe_ix ix_list (pv 1) pe_int (fun _ _ => rfl)) (nomark _)))))
    (pss_one (ps_ret pe_bl))
    pss_nil)
    (pss_one (ps_ret (pe_cmpR op_isNo (pe_kn G_meet (hr.mono (by decide)) (by rfl) (pa_cons (pe_kn G_upright (hr.mono (by decide)) (by rfl) (pa_cons (pe_ix ix_list (pv 0) pe_int (fun _ _ => rfl)) (pa_cons (pe_ix ix_list (pv 1) pe_int (fun _ _ => rfl)) pa_nil))) (pa_cons (pe_kn G_upright (hr.mono (by decide)) (by rfl) (pa_cons (pe_ix ix_list (pv 0) pe_int (fun _ _ => rfl)) (pa_cons (pe_ix ix_list (pv 1) pe_int (fun _ _ => rfl)) pa_nil))) pa_nil))) pe_non (nomark _))))))), ?_⟩
  show (_ : TS) _ [some (.ref D), some (.ref E9), none] _
  refine r_cut (fun σ H' => ∃ z, σ = [some (.ref D), some (.ref E9), z] ∧ H' = H) ?_ (fun N J => ?_)
  · rintro σ H' ⟨z, rfl, rfl⟩
    refine r_seq ?_
    repeat walk_at "c7"
    refine r_isNLo l0 z0 ?_
    repeat walk_at "c7"
    refine r_ite (fun e => ?_) (fun n0 => ?_)
    · repeat walk_at "c7"
      exact q _ (Same.refl _)
    repeat walk_at "c7"
    refine r_isNLo l1 z1 ?_
    repeat walk_at "c7"
    refine r_ite (fun e => ?_) (fun n1 => ?_)
    · repeat walk_at "c7"
      exact q _ (Same.refl _)
    repeat walk_at "c7"
    refine r_isNLo l2 z2 ?_
    repeat walk_at "c7"
    refine r_ite (fun e => ?_) (fun n2 => ?_)
    · repeat walk_at "c7"
      exact q _ (Same.refl _)
    obtain ⟨a0, b0, c0, m0, h0, p0, p1, t1, t2, t3⟩ := lo_lq n0 l0 z0
    obtain ⟨a1, b1, c1, m1, h1, p2, p3, _, _, _⟩ := lo_lq n1 l1 z1
    obtain ⟨a2, b2, c2, m2, h2, p4, p5, _, _, _⟩ := lo_lq n2 l2 z2
    have o1 : (a0 : Rat) * x1 + b0 * y1 = c0 := by
      unfold crt at cr
      have := para (u := x3 - x2) (v := y3 - y2) (p := (a0 : Rat)) (q := (b0 : Rat)) (r := y1 - y2) (s := -(x1 - x2)) (d_nz n0) (by grind) (by grind)
      grind
    obtain ⟨rfl, rfl, rfl⟩ := line_two h0 h1 p1 o1 p2 p3 n1
    obtain ⟨rfl, rfl, rfl⟩ := line_two h0 h2 o1 p0 p4 p5 n2
    clear l0 l1 l2 z0 z1 z2
    repeat walk_at "c7"
    refine r_seq ?_
    repeat walk_at "c7"
    refine r_neL m0 m1 ⟨rfl, rfl, rfl⟩ ?_
    repeat walk_at "c7"
    refine r_neL m1 m2 ⟨rfl, rfl, rfl⟩ ?_
    repeat walk_at "c7"
    rename_i va Ha A B C ga ka hA oA RA u1 u2 u3
    have hD2 := ga _ _ hD
    have hE2 := ga _ _ hE
    have k1' := k1.up ga
    have m1' := m1.up ga
    have gA := ga
    clear hD hE k0 k1 k2 m0 m1 m2 ga
    repeat walk_at "c7"
    rename_i vb Hb A' B' C' gb kb hB oB RB u4 u5 u6 r9 H9 g9 k9 z9
    have pl : A * B' = B * A' := by
      unfold RUp at RA RB
      have nz : ¬ ((a0 : Rat) = 0 ∧ (b0 : Rat) = 0) := fun y => h0.nz ⟨cast_inj (by rw [y.1]; rfl), cast_inj (by rw [y.2]; rfl)⟩
      have := para nz (p := (A : Rat)) (q := (B : Rat)) (r := (A' : Rat)) (s := (B' : Rat)) (by grind) (by grind)
      exact int_cross.mpr (by grind)
    rw [mt_none pl] at k9
    have k9 : r9 = .non := k9
    subst k9
    repeat walk_at "c7"
    exact q _ ((gA.trans gb).trans g9)
  · refine ⟨_, rfl, by decide, by decide, for_range (n := 3) (fun i σ H' => ∃ z, σ = [some (.ref D), some (.ref E9), z] ∧ H' = H) ⟨_, rfl, rfl⟩ ?_ ?_⟩
    · rintro i σ H' hi ⟨z, rfl, rfl⟩
      have hi : i = 0 ∨ i = 1 ∨ i = 2 := by omega
      rcases hi with rfl | rfl | rfl
      · repeat walk_at "c7"
        refine r_isNLo l0 z0 ?_
        repeat walk_at "c7"
        walk_at "eqd"
        repeat walk_at "c7"
        refine r_neB rfl ?_
        repeat walk_at "c7"
        exact ⟨_, rfl, rfl⟩
      · repeat walk_at "c7"
        refine r_isNLo l1 z1 ?_
        repeat walk_at "c7"
        walk_at "eqd"
        repeat walk_at "c7"
        refine r_neB rfl ?_
        repeat walk_at "c7"
        exact ⟨_, rfl, rfl⟩
      · repeat walk_at "c7"
        refine r_isNLo l2 z2 ?_
        repeat walk_at "c7"
        walk_at "eqd"
        repeat walk_at "c7"
        refine r_neB rfl ?_
        repeat walk_at "c7"
        exact ⟨_, rfl, rfl⟩
    · rintro σ H' ⟨z, rfl, rfl⟩
      exact J _ _ ⟨z, rfl, rfl⟩
theorem ok_law {f : Addr} {fd : FuncData} (F : FnP K "law" s_law f fd) (G_stream : Kn P w K mg base 1 "_law_stream" ["_law_script", "_law_at"] (spStream K)) (G_take : Kn P w K mg base 1 "_law_take" ["_law_stream_here", "_law_many"] spTakeS) (G_small_place : Kn P w K mg base 4 "_law_small_place" ["_law_stream_here"] (spSmallP K)) (G_small_near : Kn P w K mg base 5 "_law_small_near" ["_law_stream_here", "_law_p"] (spSmallN K)) (G_l_way : Kn P w K mg base 3 "_law_way" ["_law_p", "_law_q", "_law_t"] (spWay K)) (G_through : Kn P w K mg base 3 "through" ["p", "q"] (spThruO K)) (G_cross : Kn P w K mg base 2 "_law_cross" ["_law_p", "_law_q", "_law_r"] (spCross K)) (G_flat : Kn P w K mg base 5 "_law_flat" ["_law_corners", "_law_sides"] (spFlat K)) (G_middle : Kn P w K mg base 5 "middle" ["p", "q"] (spP2 K (fun x y x2 y2 => (x + x2) / 2) (fun x y x2 y2 => (y + y2) / 2))) (G_upright : Kn P w K mg base 4 "upright" ["p", "line"] (spAlong K RUp)) (G_one_place : Kn P w K mg base 4 "_law_one_place" ["_law_lines"] (spOnePlace K)) (G_share : Kn P w K mg base 4 "share" ["p", "q", "t"] (spShare K)) (G_same : Kn P w K mg base 1 "_law_same" ["_law_f", "_law_g"] (spS2 K)) (G_far : Kn P w K mg base 2 "_law_far" ["_law_p", "_law_q"] (spFar K)) (G_mirror : Kn P w K mg base 6 "mirror" ["p", "line"] (spMirror K)) (G_along : Kn P w K mg base 4 "along" ["p", "line"] (spAlong K RAl)) (z_range : mg "range" = none) : FnOk P w K mg base CX0 (7 + 1) f fd ["_law_script"] (spLaw K) := by
  refine fnp_ok F sc_law (fun vs H Q E h => ?_) (fun cdv A outer s H vs Q E hr h => ?_)
  · obtain ⟨a, ns, rfl, _⟩ := h
    rfl
  obtain ⟨a, ns, rfl, hS, hl, q⟩ := h
  refine ⟨_, (pss_cons (ps_set (i := 1) sc_law.nd rfl (.inl rfl) (pe_kn G_small_place (hr.mono (by decide)) (by rfl) (pa_cons (pe_kn G_stream (hr.mono (by decide)) (by rfl) (pa_cons (pv 0) (pa_cons pe_int pa_nil))) pa_nil)))
    (pss_cons (ps_set (i := 2) sc_law.nd rfl (.inl rfl) (pe_kn G_small_near (hr.mono (by decide)) (by rfl) (pa_cons (pe_kn G_stream (hr.mono (by decide)) (by rfl) (pa_cons (pv 0) (pa_cons pe_int pa_nil))) (pa_cons (pv 1) pa_nil))))
    (pss_cons (ps_set (i := 3) sc_law.nd rfl (.inl rfl) (pe_kn G_stream (hr.mono (by decide)) (by rfl) (pa_cons (pv 0) (pa_cons pe_int pa_nil))))
    (pss_cons (ps_set (i := 4) sc_law.nd rfl (.inl rfl) (pe_cmpR op_eq (pe_kn G_take (hr.mono (by decide)) (by rfl) (pa_cons (pv 3) (pa_cons pe_int pa_nil))) pe_int (nomark _)))
    (pss_cons (ps_set (i := 5) sc_law.nd rfl (.inl rfl) (pe_kn G_small_place (hr.mono (by decide)) (by rfl) (pa_cons (pv 3) pa_nil)))
    (pss_cons (ps_if (pt_val (pv 4))
    (pss_one (ps_set (i := 5) sc_law.nd rfl (.inl rfl) (pe_kn G_l_way (hr.mono (by decide)) (by rfl) (pa_cons (pv 1) (pa_cons (pv 2) (pa_cons (pe_ix ix_tup (pv 5) pe_int (fun _ _ => rfl)) pa_nil))))))
    pss_nil)
    (pss_cons (ps_set (i := 6) sc_law.nd rfl (.inr rfl) (pe_lst (pa_cons (pv 1) (pa_cons (pv 2) (pa_cons (pv 5) pa_nil)))))
    (pss_cons (ps_set (i := 7) sc_law.nd rfl (.inr rfl) (pe_lst (pa_cons (pe_kn G_through (hr.mono (by decide)) (by rfl) (pa_cons (pv 2) (pa_cons (pv 5) pa_nil))) (pa_cons (pe_kn G_through (hr.mono (by decide)) (by rfl) (pa_cons (pv 5) (pa_cons (pv 1) pa_nil))) (pa_cons (pe_kn G_through (hr.mono (by decide)) (by rfl) (pa_cons (pv 1) (pa_cons (pv 2) pa_nil))) pa_nil)))))
    (pss_cons (ps_if (pt_cmpR op_eq (pe_ix ix_tup (pe_kn G_cross (hr.mono (by decide)) (by rfl) (pa_cons (pv 1) (pa_cons (pv 2) (pa_cons (pv 5) pa_nil)))) pe_int (fun _ _ => rfl)) pe_int (nomark _))
    (pss_one (ps_ret (pe_kn G_flat (hr.mono (by decide)) (by rfl) (pa_cons (pv 6) (pa_cons (pv 7) pa_nil)))))
    pss_nil)
    (pss_cons (ps_set (i := 8) sc_law.nd rfl (.inr rfl) (pe_lst (pa_cons (pe_kn G_middle (hr.mono (by decide)) (by rfl) (pa_cons (pv 2) (pa_cons (pv 5) pa_nil))) (pa_cons (pe_kn G_middle (hr.mono (by decide)) (by rfl) (pa_cons (pv 5) (pa_cons (pv 1) pa_nil))) (pa_cons (pe_kn G_middle (hr.mono (by decide)) (by rfl) (pa_cons (pv 1) (pa_cons (pv 2) pa_nil))) pa_nil)))))
    (pss_cons (ps_set (i := 9) sc_law.nd rfl (.inl rfl) (pe_kn G_one_place (hr.mono (by decide)) (by rfl) (pa_cons (pe_lc (own := [("_law_k", 10)]) (g := gName 10) (by rfl) sc_law.nd (pi_range1 (by rfl) z_range (pa_cons pe_int pa_nil)) (blkOk_by (own := [("_law_k", 10)]) (N := ["_law_script", "_law_p", "_law_q", "_law_stream_here", "_law_flat_here", "_law_r", "_law_corners", "_law_sides", "_law_middles", "_law_high", "_law_k", "_law_heavy", "_law_round_one"]) (sc := (defScope s_law)) (by decide +kernel)) (fun _ _ _ _ _ => pg_name (i := 10) sc_law.nd rfl (.inl rfl)) (fun _ _ _ _ _ => pts_nil) (fun _ _ _ _ _ => (pe_kn G_upright (hr.mono (by decide)) (by rfl) (pa_cons (pe_ix (show IxR _ (rIxL K) from ix_list) (pv 6) (pv 10) (fun _ _ => rfl)) (pa_cons (pe_ix (show IxR _ (rIxL K) from ix_list) (pv 7) (pv 10) (fun _ _ => rfl)) pa_nil))))) pa_nil)))
    (pss_cons (ps_set (i := 11) sc_law.nd rfl (.inl rfl) (pe_kn G_one_place (hr.mono (by decide)) (by rfl) (pa_cons (pe_lc (own := [("_law_k", 10)]) (g := gName 10) (by rfl) sc_law.nd (pi_range1 (by rfl) z_range (pa_cons pe_int pa_nil)) (blkOk_by (own := [("_law_k", 10)]) (N := ["_law_script", "_law_p", "_law_q", "_law_stream_here", "_law_flat_here", "_law_r", "_law_corners", "_law_sides", "_law_middles", "_law_high", "_law_k", "_law_heavy", "_law_round_one"]) (sc := (defScope s_law)) (by decide +kernel)) (fun _ _ _ _ _ => pg_name (i := 10) sc_law.nd rfl (.inl rfl)) (fun _ _ _ _ _ => pts_nil) (fun _ _ _ _ _ => (pe_kn G_through (hr.mono (by decide)) (by rfl) (pa_cons (pe_ix (show IxR _ (rIxL K) from ix_list) (pv 6) (pv 10) (fun _ _ => rfl)) (pa_cons (pe_ix (show IxR _ (rIxL K) from ix_list) (pv 8) (pv 10) (fun _ _ => rfl)) pa_nil))))) pa_nil)))
    (pss_cons (ps_set (i := 12) sc_law.nd rfl (.inl rfl) (pe_kn G_one_place (hr.mono (by decide)) (by rfl) (pa_cons (pe_lc (own := [("_law_k", 10)]) (g := gName 10) (by rfl) sc_law.nd (pi_range1 (by rfl) z_range (pa_cons pe_int pa_nil)) (blkOk_by (own := [("_law_k", 10)]) (N := ["_law_script", "_law_p", "_law_q", "_law_stream_here", "_law_flat_here", "_law_r", "_law_corners", "_law_sides", "_law_middles", "_law_high", "_law_k", "_law_heavy", "_law_round_one"]) (sc := (defScope s_law)) (by decide +kernel)) (fun _ _ _ _ _ => pg_name (i := 10) sc_law.nd rfl (.inl rfl)) (fun _ _ _ _ _ => pts_nil) (fun _ _ _ _ _ => (pe_kn G_upright (hr.mono (by decide)) (by rfl) (pa_cons (pe_ix (show IxR _ (rIxL K) from ix_list) (pv 8) (pv 10) (fun _ _ => rfl)) (pa_cons (pe_ix (show IxR _ (rIxL K) from ix_list) (pv 7) (pv 10) (fun _ _ => rfl)) pa_nil))))) pa_nil)))
    (pss_cons (ps_if (PW.pt (pw_or (pt_cmpR op_isNo (pv 9) pe_non (nomark _)) (pw_or (pt_cmpR op_isNo (pv 11) pe_non (nomark _)) (pw_or1 (pt_cmpR op_isNo (pv 12) pe_non (nomark _))))))
    (pss_one (ps_ret pe_bl))
    pss_nil)
    (pss_cons (ps_if (pt_cmpR (op_neD hr.units) (pe_kn G_share (hr.mono (by decide)) (by rfl) (pa_cons (pv 12) (pa_cons (pv 9) (pa_cons (pe_tup (pa_cons pe_int (pa_cons pe_int pa_nil))) pa_nil)))) (pv 11) (nomark _))
    (pss_one (ps_ret pe_bl))
    pss_nil)
    (pss_cons (ps_for PassesOwn.never rfl (pi_range1 (by rfl) z_range (pa_cons pe_int pa_nil)) (pg_name (i := 10) sc_law.nd rfl (.inl rfl))
    (pss_cons (ps_if (pt_cmpR (op_neD hr.units) (pe_kn G_share (hr.mono (by decide)) (by rfl) (pa_cons (pe_ix ix_list (pv 6) (pv 10) (fun _ _ => rfl)) (pa_cons (pe_ix ix_list (pv 8) (pv 10) (fun _ _ => rfl)) (pa_cons (pe_tup (pa_cons pe_int (pa_cons pe_int pa_nil))) pa_nil)))) (pv 11) (nomark _))
    (pss_one (ps_ret pe_bl))
    pss_nil)
    (pss_cons (ps_if (pt_not (pt_val (pe_kn G_same (hr.mono (by decide)) (by rfl) (pa_cons (pe_kn G_far (hr.mono (by decide)) (by rfl) (pa_cons (pe_kn G_mirror (hr.mono (by decide)) (by rfl) (pa_cons (pv 9) (pa_cons (pe_ix ix_list (pv 7) (pv 10) (fun _ _ => rfl)) pa_nil))) (pa_cons (pv 12) pa_nil))) (pa_cons (pe_kn G_far (hr.mono (by decide)) (by rfl) (pa_cons (pe_ix ix_list (pv 6) (pv 10) (fun _ _ => rfl)) (pa_cons (pv 12) pa_nil))) pa_nil)))))
    (pss_one (ps_ret pe_bl))
    pss_nil)
    (pss_one (ps_if (pt_cmpR (op_neD hr.units) (pe_kn G_through (hr.mono (by decide)) (by rfl) (pa_cons (pe_ix ix_list (pv 8) (pe_op op_mod (pe_op op_add (pv 10) pe_int) pe_int) (fun _ _ => rfl)) (pa_cons (pe_ix ix_list (pv 8) (pe_op op_mod (pe_op op_add (pv 10) pe_int) pe_int) (fun _ _ => rfl)) pa_nil))) (pe_kn G_along (hr.mono (by decide)) (by rfl) (pa_cons (pe_ix ix_list (pv 8) (pe_op op_mod (pe_op op_add (pv 10) pe_int) pe_int) (fun _ _ => rfl)) (pa_cons (pe_ix ix_list (pv 7) (pv 10) (fun _ _ => rfl)) pa_nil))) (nomark _))
    (pss_one (ps_ret pe_bl))
    pss_nil)))))
    (pss_one (ps_ret pe_bl)))))))))))))))))), ?_⟩
  show (_ : TS) _ [some (.ref a), none, none, none, none, none, none, none, none, none, none, none, none] _
  repeat walk_at "c8"
  rename_i p1 H1 g1 n1 h1 vp xp yp H2 b2 h2 kp s1 s2 p3 H3 g3 n3 h3 vq xq yq H4 b4 h4 kq s3 s4 p5 H5 g5 n5 h5 r6 H6 b6 h6 _ _ vr xr yr H7 b7 h7 kr s5 s6
  have kp7 : Pq K H7 vp xp yp := by walk_at "fq"
  have kq7 : Pq K H7 vq xq yq := by walk_at "fq"
  clear kp kq g1 g3 g5 b2 b4 b6 b7 h1 h2 h3 h4 h5 h6 h7 n1 n3 n5
  with_reducible refine r_cut (fun σ H' => ∃ (vr : V) (xr yr : Rat), σ = [some (.ref a), some vp, some vq, some (.ref p5), some (.bl (decide (r6 = 1))), some vr, none, none, none, none, none, none, none] ∧ Pq K H' vp xp yp ∧ Pq K H' vq xq yq ∧ Pq K H' vr xr yr ∧ Sz 34 xr ∧ Sz 34 yr) ?_ (fun N J => ?_)
  · rintro σ H8 ⟨vr, xr, yr, rfl, kp, kq, kr, sxr, syr⟩
    have sxp : Sz 34 xp := s1.mono (by decide)
    have syp : Sz 34 yp := s2.mono (by decide)
    have sxq : Sz 34 xq := s3.mono (by decide)
    have syq : Sz 34 yq := s4.mono (by decide)
    clear s1 s2 s3 s4 s5 s6 kp7 kq7
    repeat walk_at "c8"
    rename_i D H9 g9 n9 eD l0 H10 g10 L0 z0 l1 H11 g11 L1 z1 l2 H12 g12 L2 z2 E9 H13 g13 n13 eE
    replace kp := ((((kp.up g9).up g10).up g11).up g12).up g13
    replace kq := ((((kq.up g9).up g10).up g11).up g12).up g13
    replace kr := ((((kr.up g9).up g10).up g11).up g12).up g13
    replace L0 := ((L0.up g11).up g12).up g13
    replace L1 := (L1.up g12).up g13
    replace L2 := L2.up g13
    replace eD := (((g10.trans g11).trans g12).trans g13) _ _ eD
    replace z0 := z_mono (m := 140) (by decide) z0
    replace z1 := z_mono (m := 140) (by decide) z1
    replace z2 := z_mono (m := 140) (by decide) z2
    clear g9 g10 g11 g12 g13 n9 n13
    refine r_seq ?_
    repeat walk_at "c8"
    rename_i rc H14 g14 kc tt iff9
    replace kp := kp.up g14
    replace kq := kq.up g14
    replace kr := kr.up g14
    replace L0 := L0.up g14
    replace L1 := L1.up g14
    replace L2 := L2.up g14
    replace eD := g14 _ _ eD
    replace eE := g14 _ _ eE
    clear g14 kc
    refine r_ite (fun e => ?_) (fun ne => ?_)
    · repeat walk_at "c8"
      exact r_flat eD eE kp kq kr L0 L1 L2 sxp syp sxq syq sxr syr z0 z1 z2 (iff9.mp e) (fun H' _ => q H')
    have cr : crt xp yp xq yq xr yr ≠ 0 := fun z => ne (iff9.mpr z)
    have n23 : ¬ (xq = xr ∧ yq = yr) := fun z => cr (by unfold crt; rw [z.1, z.2]; grind)
    have n31 : ¬ (xr = xp ∧ yr = yp) := fun z => cr (by unfold crt; rw [z.1, z.2]; grind)
    have n12 : ¬ (xp = xq ∧ yp = yq) := fun z => cr (by unfold crt; rw [z.1, z.2]; grind)
    have nm0 : ¬ (xp = (xq + xr) / 2 ∧ yp = (yq + yr) / 2) := fun z => cr (by unfold crt; have q1 := z.1; have q2 := z.2; grind)
    have nm1 : ¬ (xq = (xr + xp) / 2 ∧ yq = (yr + yp) / 2) := fun z => cr (by unfold crt; have q1 := z.1; have q2 := z.2; grind)
    have nm2 : ¬ (xr = (xp + xq) / 2 ∧ yr = (yp + yq) / 2) := fun z => cr (by unfold crt; have q1 := z.1; have q2 := z.2; grind)
    have nn0 : ¬ (((xr + xp) / 2) = ((xp + xq) / 2) ∧ ((yr + yp) / 2) = ((yp + yq) / 2)) := fun z => cr (by unfold crt; have q1 := z.1; have q2 := z.2; grind)
    have nn1 : ¬ (((xp + xq) / 2) = ((xq + xr) / 2) ∧ ((yp + yq) / 2) = ((yq + yr) / 2)) := fun z => cr (by unfold crt; have q1 := z.1; have q2 := z.2; grind)
    have nn2 : ¬ (((xq + xr) / 2) = ((xr + xp) / 2) ∧ ((yq + yr) / 2) = ((yr + yp) / 2)) := fun z => cr (by unfold crt; have q1 := z.1; have q2 := z.2; grind)
    obtain ⟨a0, b0, c0, S0, h0, i0, j0, t01, t02, t03⟩ := lo_lq n23 L0 z0
    obtain ⟨a1, b1, c1, S1, h1, i1, j1, t11, t12, t13⟩ := lo_lq n31 L1 z1
    obtain ⟨a2, b2, c2, S2, h2, i2, j2, t21, t22, t23⟩ := lo_lq n12 L2 z2
    obtain ⟨X, Y, E0, E1, E2⟩ := circ_ex cr
    obtain ⟨hx, ehx⟩ : ∃ h, h = xp + xq + xr - 2 * X := ⟨_, rfl⟩
    obtain ⟨hy, ehy⟩ : ∃ h, h = yp + yq + yr - 2 * Y := ⟨_, rfl⟩
    obtain ⟨gx, egx⟩ : ∃ g, g = (xp + xq + xr) / 3 := ⟨_, rfl⟩
    obtain ⟨gy, egy⟩ : ∃ g, g = (yp + yq + yr) / 3 := ⟨_, rfl⟩
    have ehx0 : hx = xq + xr + xp - 2 * X := ehx.trans (t_p0 _ _ _ _)
    have egx0 : gx = (xq + xr + xp) / 3 := egx.trans (t_g0 _ _ _)
    have ehy0 : hy = yq + yr + yp - 2 * Y := ehy.trans (t_p0 _ _ _ _)
    have egy0 : gy = (yq + yr + yp) / 3 := egy.trans (t_g0 _ _ _)
    have ehx1 : hx = xr + xp + xq - 2 * X := ehx.trans (t_p1 _ _ _ _)
    have egx1 : gx = (xr + xp + xq) / 3 := egx.trans (t_g1 _ _ _)
    have ehy1 : hy = yr + yp + yq - 2 * Y := ehy.trans (t_p1 _ _ _ _)
    have egy1 : gy = (yr + yp + yq) / 3 := egy.trans (t_g1 _ _ _)
    have ehx2 : hx = xp + xq + xr - 2 * X := ehx
    have egx2 : gx = (xp + xq + xr) / 3 := egx
    have ehy2 : hy = yp + yq + yr - 2 * Y := ehy
    have egy2 : gy = (yp + yq + yr) / 3 := egy
    unfold crt at cr
    clear L0 L1 L2 z0 z1 z2 ne iff9
    with_reducible refine r_next ?_
    with_reducible refine r_cut (fun σ H' => ∃ (v0 v1 v2 : V) (DM : Addr), σ = [some (.ref a), some vp, some vq, some (.ref p5), some (.bl (decide (r6 = 1))), some vr, some (.ref D), some (.ref E9), some (.ref DM), none, none, none, none] ∧ Same H14 H' ∧ H' DM = some (.lst [v0, v1, v2]) ∧ Pq K H' v0 ((xq + xr) / 2) ((yq + yr) / 2) ∧ Pq K H' v1 ((xr + xp) / 2) ((yr + yp) / 2) ∧ Pq K H' v2 ((xp + xq) / 2) ((yp + yq) / 2)) ?Umid ?Vmid
    case Vmid =>
      intro N J
      repeat walk_at "c8"
      rename_i v0 H15 g15 M0 v1 H16 g16 M1 v2 H17 g17 M2 DM H18 g18 n18 eM
      exact J _ _ ⟨v0, v1, v2, DM, rfl, ((g15.trans g16).trans g17).trans g18, eM, ((M0.up g16).up g17).up g18, (M1.up g17).up g18, M2.up g18⟩
    rintro σ H18 ⟨v0, v1, v2, DM, rfl, gA, eM, M0, M1, M2⟩
    replace kp := kp.up gA
    replace kq := kq.up gA
    replace kr := kr.up gA
    replace S0 := S0.up gA
    replace S1 := S1.up gA
    replace S2 := S2.up gA
    replace eD := gA _ _ eD
    replace eE := gA _ _ eE
    clear gA
    have two8 : Sz 8 (2 : Rat) := Sz.lit (by decide) (by decide)
    have mz0 : Sz 77 ((xq + xr) / 2) := Sz.mono ((sxq.add sxr).div two8 (by decide)) (by decide)
    have my0 : Sz 77 ((yq + yr) / 2) := Sz.mono ((syq.add syr).div two8 (by decide)) (by decide)
    have mz1 : Sz 77 ((xr + xp) / 2) := Sz.mono ((sxr.add sxp).div two8 (by decide)) (by decide)
    have my1 : Sz 77 ((yr + yp) / 2) := Sz.mono ((syr.add syp).div two8 (by decide)) (by decide)
    have mz2 : Sz 77 ((xp + xq) / 2) := Sz.mono ((sxp.add sxq).div two8 (by decide)) (by decide)
    have my2 : Sz 77 ((yp + yq) / 2) := Sz.mono ((syp.add syq).div two8 (by decide)) (by decide)
    with_reducible refine r_cut (fun σ H' => ∃ (r9 : V), σ = [some (.ref a), some vp, some vq, some (.ref p5), some (.bl (decide (r6 = 1))), some vr, some (.ref D), some (.ref E9), some (.ref DM), some r9, none, none, none] ∧ Same H18 H' ∧ Pq K H' r9 hx hy ∧ Sz 601 hx ∧ Sz 601 hy) ?Uhigh ?Vhigh
    case Vhigh =>
      intro N J
      repeat walk_at "c8"
      refine lc3 (K := K) (j := 10) (fun i A B C => Ln A B C ∧ Sm 300 A ∧ Sm 300 B ∧ Sm 300 C ∧ (i = 0 → (A : Rat) * xp + B * yp = C ∧ RUp A B a0 b0) ∧ (i = 1 → (A : Rat) * xq + B * yq = C ∧ RUp A B a1 b1) ∧ (i = 2 → (A : Rat) * xr + B * yr = C ∧ RUp A B a2 b2)) (fun _ => rfl) ?_ ?_
      · intro i H' hi g N hN
        have hi : i = 0 ∨ i = 1 ∨ i = 2 := by omega
        rcases hi with rfl | rfl | rfl
        · repeat walk_at "c8"
          rename_i r9 H9 A B C g9 k9 hL9 o9 R9 s1 s2 s3
          exact hN _ _ _ _ _ g9 k9 ⟨hL9, s1.mono (by decide), s2.mono (by decide), s3.mono (by decide), fun _ => ⟨o9, R9⟩, fun z => absurd z (by decide), fun z => absurd z (by decide)⟩
        · repeat walk_at "c8"
          rename_i r9 H9 A B C g9 k9 hL9 o9 R9 s1 s2 s3
          exact hN _ _ _ _ _ g9 k9 ⟨hL9, s1.mono (by decide), s2.mono (by decide), s3.mono (by decide), fun z => absurd z (by decide), fun _ => ⟨o9, R9⟩, fun z => absurd z (by decide)⟩
        · repeat walk_at "c8"
          rename_i r9 H9 A B C g9 k9 hL9 o9 R9 s1 s2 s3
          exact hN _ _ _ _ _ g9 k9 ⟨hL9, s1.mono (by decide), s2.mono (by decide), s3.mono (by decide), fun z => absurd z (by decide), fun z => absurd z (by decide), fun _ => ⟨o9, R9⟩⟩
      rintro D9 u0 u1 u2 H' A0 B0 C0 A1 B1 C1 A2 B2 C2 g hD9 k0 k1 k2 ⟨hA0, s01, s02, s03, f0, _, _⟩ ⟨hA1, s11, s12, s13, _, f1, _⟩ ⟨hA2, s21, s22, s23, _, _, f2⟩
      obtain ⟨w00, w01⟩ := f0 rfl
      obtain ⟨w10, w11⟩ := f1 rfl
      obtain ⟨w20, w21⟩ := f2 rfl
      clear f0 f1 f2
      have y0high : (A0 : Rat) * hx + B0 * hy = C0 := up_at h0 i0 j0 n23 w01 w00 (t_hdot ehx0 ehy0 E0)
      have e0high := up_wayK h0 i0 j0 w01
      have y1high : (A1 : Rat) * hx + B1 * hy = C1 := up_at h1 i1 j1 n31 w11 w10 (t_hdot ehx1 ehy1 E1)
      have e1high := up_wayK h1 i1 j1 w11
      have y2high : (A2 : Rat) * hx + B2 * hy = C2 := up_at h2 i2 j2 n12 w21 w20 (t_hdot ehx2 ehy2 E2)
      have e2high := up_wayK h2 i2 j2 w21
      have d1high := up_crs hA0 hA1 e0high e1high (by rw [t_s01]; exact cr)
      have d2high := up_crs hA2 hA0 e2high e0high (by rw [t_s20]; exact cr)
      repeat walk_at "c8"
      refine r_onePlace hD9 k0 k1 k2 s01 s02 s03 s11 s12 s13 s21 s22 s23 y0high y1high y2high d1high d2high (fun rhigh Hhigh ghigh khigh zahigh zbhigh => ?_)
      repeat walk_at "c8"
      exact J _ _ ⟨rhigh, rfl, g.trans ghigh, khigh, zahigh, zbhigh⟩
    rintro σ Hhigh ⟨rhigh, rfl, gA, khigh, zahigh, zbhigh⟩
    replace kp := kp.up gA
    replace kq := kq.up gA
    replace kr := kr.up gA
    replace S0 := S0.up gA
    replace S1 := S1.up gA
    replace S2 := S2.up gA
    replace M0 := M0.up gA
    replace M1 := M1.up gA
    replace M2 := M2.up gA
    replace eD := gA _ _ eD
    replace eE := gA _ _ eE
    replace eM := gA _ _ eM
    clear gA
    -- high
    with_reducible refine r_cut (fun σ H' => ∃ (r9 : V), σ = [some (.ref a), some vp, some vq, some (.ref p5), some (.bl (decide (r6 = 1))), some vr, some (.ref D), some (.ref E9), some (.ref DM), some rhigh, none, some r9, none] ∧ Same Hhigh H' ∧ Pq K H' r9 gx gy ∧ Sz 601 gx ∧ Sz 601 gy) ?Uheavy ?Vheavy
    case Vheavy =>
      intro N J
      repeat walk_at "c8"
      refine lc3 (K := K) (j := 10) (fun i A B C => Ln A B C ∧ Sm 300 A ∧ Sm 300 B ∧ Sm 300 C ∧ (i = 0 → (A : Rat) * xp + B * yp = C ∧ (A : Rat) * ((xq + xr) / 2) + B * ((yq + yr) / 2) = C) ∧ (i = 1 → (A : Rat) * xq + B * yq = C ∧ (A : Rat) * ((xr + xp) / 2) + B * ((yr + yp) / 2) = C) ∧ (i = 2 → (A : Rat) * xr + B * yr = C ∧ (A : Rat) * ((xp + xq) / 2) + B * ((yp + yq) / 2) = C)) (fun _ => rfl) ?_ ?_
      · intro i H' hi g N hN
        have hi : i = 0 ∨ i = 1 ∨ i = 2 := by omega
        rcases hi with rfl | rfl | rfl
        · repeat walk_at "c8"
          rename_i r9 H9 A B C g9 k9 hL9 o9 o8 s1 s2 s3
          exact hN _ _ _ _ _ g9 k9 ⟨hL9, s1.mono (by decide), s2.mono (by decide), s3.mono (by decide), fun _ => ⟨o9, o8⟩, fun z => absurd z (by decide), fun z => absurd z (by decide)⟩
        · repeat walk_at "c8"
          rename_i r9 H9 A B C g9 k9 hL9 o9 o8 s1 s2 s3
          exact hN _ _ _ _ _ g9 k9 ⟨hL9, s1.mono (by decide), s2.mono (by decide), s3.mono (by decide), fun z => absurd z (by decide), fun _ => ⟨o9, o8⟩, fun z => absurd z (by decide)⟩
        · repeat walk_at "c8"
          rename_i r9 H9 A B C g9 k9 hL9 o9 o8 s1 s2 s3
          exact hN _ _ _ _ _ g9 k9 ⟨hL9, s1.mono (by decide), s2.mono (by decide), s3.mono (by decide), fun z => absurd z (by decide), fun z => absurd z (by decide), fun _ => ⟨o9, o8⟩⟩
      rintro D9 u0 u1 u2 H' A0 B0 C0 A1 B1 C1 A2 B2 C2 g hD9 k0 k1 k2 ⟨hA0, s01, s02, s03, f0, _, _⟩ ⟨hA1, s11, s12, s13, _, f1, _⟩ ⟨hA2, s21, s22, s23, _, _, f2⟩
      obtain ⟨w00, w01⟩ := f0 rfl
      obtain ⟨w10, w11⟩ := f1 rfl
      obtain ⟨w20, w21⟩ := f2 rfl
      clear f0 f1 f2
      have y0heavy : (A0 : Rat) * gx + B0 * gy = C0 := t_gon w00 w01 egx0 egy0
      have e0heavy : (A0 : Rat) * (((xq + xr) / 2) - xp) + B0 * (((yq + yr) / 2) - yp) = 0 := t_sub w00 w01
      have y1heavy : (A1 : Rat) * gx + B1 * gy = C1 := t_gon w10 w11 egx1 egy1
      have e1heavy : (A1 : Rat) * (((xr + xp) / 2) - xq) + B1 * (((yr + yp) / 2) - yq) = 0 := t_sub w10 w11
      have y2heavy : (A2 : Rat) * gx + B2 * gy = C2 := t_gon w20 w21 egx2 egy2
      have e2heavy : (A2 : Rat) * (((xp + xq) / 2) - xr) + B2 * (((yp + yq) / 2) - yr) = 0 := t_sub w20 w21
      have d1heavy := on_crs hA0 hA1 e0heavy e1heavy (by rw [t_m01]; exact t_34 cr)
      have d2heavy := on_crs hA2 hA0 e2heavy e0heavy (by rw [t_m20]; exact t_34 cr)
      repeat walk_at "c8"
      refine r_onePlace hD9 k0 k1 k2 s01 s02 s03 s11 s12 s13 s21 s22 s23 y0heavy y1heavy y2heavy d1heavy d2heavy (fun rheavy Hheavy gheavy kheavy zaheavy zbheavy => ?_)
      repeat walk_at "c8"
      exact J _ _ ⟨rheavy, rfl, g.trans gheavy, kheavy, zaheavy, zbheavy⟩
    rintro σ Hheavy ⟨rheavy, rfl, gA, kheavy, zaheavy, zbheavy⟩
    replace kp := kp.up gA
    replace kq := kq.up gA
    replace kr := kr.up gA
    replace S0 := S0.up gA
    replace S1 := S1.up gA
    replace S2 := S2.up gA
    replace M0 := M0.up gA
    replace M1 := M1.up gA
    replace M2 := M2.up gA
    replace khigh := khigh.up gA
    replace eD := gA _ _ eD
    replace eE := gA _ _ eE
    replace eM := gA _ _ eM
    clear gA
    -- heavy
    with_reducible refine r_cut (fun σ H' => ∃ (r9 : V), σ = [some (.ref a), some vp, some vq, some (.ref p5), some (.bl (decide (r6 = 1))), some vr, some (.ref D), some (.ref E9), some (.ref DM), some rhigh, none, some rheavy, some r9] ∧ Same Hheavy H' ∧ Pq K H' r9 X Y ∧ Sz 601 X ∧ Sz 601 Y) ?Uround ?Vround
    case Vround =>
      intro N J
      repeat walk_at "c8"
      refine lc3 (K := K) (j := 10) (fun i A B C => Ln A B C ∧ Sm 300 A ∧ Sm 300 B ∧ Sm 300 C ∧ (i = 0 → (A : Rat) * ((xq + xr) / 2) + B * ((yq + yr) / 2) = C ∧ RUp A B a0 b0) ∧ (i = 1 → (A : Rat) * ((xr + xp) / 2) + B * ((yr + yp) / 2) = C ∧ RUp A B a1 b1) ∧ (i = 2 → (A : Rat) * ((xp + xq) / 2) + B * ((yp + yq) / 2) = C ∧ RUp A B a2 b2)) (fun _ => rfl) ?_ ?_
      · intro i H' hi g N hN
        have hi : i = 0 ∨ i = 1 ∨ i = 2 := by omega
        rcases hi with rfl | rfl | rfl
        · repeat walk_at "c8"
          rename_i r9 H9 A B C g9 k9 hL9 o9 R9 s1 s2 s3
          exact hN _ _ _ _ _ g9 k9 ⟨hL9, s1.mono (by decide), s2.mono (by decide), s3.mono (by decide), fun _ => ⟨o9, R9⟩, fun z => absurd z (by decide), fun z => absurd z (by decide)⟩
        · repeat walk_at "c8"
          rename_i r9 H9 A B C g9 k9 hL9 o9 R9 s1 s2 s3
          exact hN _ _ _ _ _ g9 k9 ⟨hL9, s1.mono (by decide), s2.mono (by decide), s3.mono (by decide), fun z => absurd z (by decide), fun _ => ⟨o9, R9⟩, fun z => absurd z (by decide)⟩
        · repeat walk_at "c8"
          rename_i r9 H9 A B C g9 k9 hL9 o9 R9 s1 s2 s3
          exact hN _ _ _ _ _ g9 k9 ⟨hL9, s1.mono (by decide), s2.mono (by decide), s3.mono (by decide), fun z => absurd z (by decide), fun z => absurd z (by decide), fun _ => ⟨o9, R9⟩⟩
      rintro D9 u0 u1 u2 H' A0 B0 C0 A1 B1 C1 A2 B2 C2 g hD9 k0 k1 k2 ⟨hA0, s01, s02, s03, f0, _, _⟩ ⟨hA1, s11, s12, s13, _, f1, _⟩ ⟨hA2, s21, s22, s23, _, _, f2⟩
      obtain ⟨w00, w01⟩ := f0 rfl
      obtain ⟨w10, w11⟩ := f1 rfl
      obtain ⟨w20, w21⟩ := f2 rfl
      clear f0 f1 f2
      have y0round : (A0 : Rat) * X + B0 * Y = C0 := up_at h0 i0 j0 n23 w01 w00 E0
      have e0round := up_wayK h0 i0 j0 w01
      have y1round : (A1 : Rat) * X + B1 * Y = C1 := up_at h1 i1 j1 n31 w11 w10 E1
      have e1round := up_wayK h1 i1 j1 w11
      have y2round : (A2 : Rat) * X + B2 * Y = C2 := up_at h2 i2 j2 n12 w21 w20 E2
      have e2round := up_wayK h2 i2 j2 w21
      have d1round := up_crs hA0 hA1 e0round e1round (by rw [t_s01]; exact cr)
      have d2round := up_crs hA2 hA0 e2round e0round (by rw [t_s20]; exact cr)
      repeat walk_at "c8"
      refine r_onePlace hD9 k0 k1 k2 s01 s02 s03 s11 s12 s13 s21 s22 s23 y0round y1round y2round d1round d2round (fun rround Hround ground kround zaround zbround => ?_)
      repeat walk_at "c8"
      exact J _ _ ⟨rround, rfl, g.trans ground, kround, zaround, zbround⟩
    rintro σ Hround ⟨rround, rfl, gA, kround, zaround, zbround⟩
    replace kp := kp.up gA
    replace kq := kq.up gA
    replace kr := kr.up gA
    replace S0 := S0.up gA
    replace S1 := S1.up gA
    replace S2 := S2.up gA
    replace M0 := M0.up gA
    replace M1 := M1.up gA
    replace M2 := M2.up gA
    replace khigh := khigh.up gA
    replace kheavy := kheavy.up gA
    replace eD := gA _ _ eD
    replace eE := gA _ _ eE
    replace eM := gA _ _ eM
    clear gA
    -- round
    with_reducible refine r_cut (fun σ H' => σ = [some (.ref a), some vp, some vq, some (.ref p5), some (.bl (decide (r6 = 1))), some vr, some (.ref D), some (.ref E9), some (.ref DM), some rhigh, none, some rheavy, some rround] ∧ H' = Hround) ?Uif ?Vif
    case Vif =>
      intro N J
      repeat walk_at "c8"
      exact J _ _ ⟨rfl, rfl⟩
    rintro σ H' ⟨rfl, rfl⟩
    with_reducible refine r_cut (fun σ H2 => σ = [some (.ref a), some vp, some vq, some (.ref p5), some (.bl (decide (r6 = 1))), some vr, some (.ref D), some (.ref E9), some (.ref DM), some rhigh, none, some rheavy, some rround] ∧ Same H' H2) ?Ush ?Vsh
    case Vsh =>
      intro N J
      repeat walk_at "c8"
      rename_i o20 H20 g20 n20 e20
      refine r_share (kround.up g20) (khigh.up g20) (Fq.lit (q := (1 / 3 : Rat)) e20 (by decide +kernel) (by decide +kernel)) zaround zbround zahigh zbhigh (Sz.lit (by decide +kernel) (by decide +kernel)) rfl rfl (fun r21 H21 g21 k21 => ?_)
      repeat walk_at "c8"
      refine r_neP k21 ((kheavy.up g20).up g21) ⟨t_sh1 _ _ _ _ ehx egx, t_sh1 _ _ _ _ ehy egy⟩ ?_
      repeat walk_at "c8"
      exact J _ _ ⟨rfl, g20.trans g21⟩
    rintro σ H21 ⟨rfl, gA⟩
    replace kp := kp.up gA
    replace kq := kq.up gA
    replace kr := kr.up gA
    replace S0 := S0.up gA
    replace S1 := S1.up gA
    replace S2 := S2.up gA
    replace M0 := M0.up gA
    replace M1 := M1.up gA
    replace M2 := M2.up gA
    replace khigh := khigh.up gA
    replace kheavy := kheavy.up gA
    replace kround := kround.up gA
    replace eD := gA _ _ eD
    replace eE := gA _ _ eE
    replace eM := gA _ _ eM
    clear gA
    refine r_seq ?_
    refine ⟨_, rfl, by decide, by decide, for_range (n := 3) (fun i σ H' => (∃ z, σ = [some (.ref a), some vp, some vq, some (.ref p5), some (.bl (decide (r6 = 1))), some vr, some (.ref D), some (.ref E9), some (.ref DM), some rhigh, z, some rheavy, some rround]) ∧ Same H21 H') ⟨⟨_, rfl⟩, Same.refl _⟩ ?_ ?_⟩
    · rintro i σ H' hi ⟨⟨z, rfl⟩, g⟩
      replace kp := kp.up g
      replace kq := kq.up g
      replace kr := kr.up g
      replace S0 := S0.up g
      replace S1 := S1.up g
      replace S2 := S2.up g
      replace M0 := M0.up g
      replace M1 := M1.up g
      replace M2 := M2.up g
      replace khigh := khigh.up g
      replace kround := kround.up g
      replace kheavy := kheavy.up g
      replace eD := g _ _ eD
      replace eE := g _ _ eE
      replace eM := g _ _ eM
      have gK := g
      clear g
      have hi : i = 0 ∨ i = 1 ∨ i = 2 := by omega
      rcases hi with rfl | rfl | rfl
      · refine r_gname ?_
        dsimp only [List.set]
        with_reducible refine r_cut (fun σ H2 => σ = [some (.ref a), some vp, some vq, some (.ref p5), some (.bl (decide (r6 = 1))), some vr, some (.ref D), some (.ref E9), some (.ref DM), some rhigh, some (.int (0 + (0 : Nat))), some rheavy, some rround] ∧ Same H' H2) ?Ua0 ?Va0
        case Va0 =>
          intro N J
          repeat walk_at "c8"
          rename_i o20 H20 g20 n20 e20
          refine r_share (kp.up g20) (M0.up g20) (Fq.lit (q := (2 / 3 : Rat)) e20 (by decide +kernel) (by decide +kernel)) sxp syp mz0 my0 (Sz.lit (by decide +kernel) (by decide +kernel)) rfl rfl (fun r22 H22 g22 k22 => ?_)
          repeat walk_at "c8"
          refine r_neP k22 ((kheavy.up g20).up g22) ⟨t_sh2 _ _ _ _ egx0, t_sh2 _ _ _ _ egy0⟩ ?_
          repeat walk_at "c8"
          exact J _ _ ⟨rfl, g20.trans g22⟩
        rintro σ H22 ⟨rfl, gA⟩
        replace kp := kp.up gA
        replace kq := kq.up gA
        replace kr := kr.up gA
        replace S0 := S0.up gA
        replace S1 := S1.up gA
        replace S2 := S2.up gA
        replace M0 := M0.up gA
        replace M1 := M1.up gA
        replace M2 := M2.up gA
        replace khigh := khigh.up gA
        replace kround := kround.up gA
        replace kheavy := kheavy.up gA
        replace eD := gA _ _ eD
        replace eE := gA _ _ eE
        replace eM := gA _ _ eM
        replace gK := gK.trans gA
        clear gA
        with_reducible refine r_cut (fun σ H2 => σ = [some (.ref a), some vp, some vq, some (.ref p5), some (.bl (decide (r6 = 1))), some vr, some (.ref D), some (.ref E9), some (.ref DM), some rhigh, some (.int (0 + (0 : Nat))), some rheavy, some rround] ∧ Same H22 H2) ?Ub0 ?Vb0
        case Vb0 =>
          intro N J
          repeat walk_at "c8"
          rename_i r23 H23 fx fy g23 k23 of sq zf1 zf2 r24 H24 g24 k24 r25 H25 g25 k25
          refine r_noN (mir_circ2 h0 i0 j0 n23 E0 ehx0 ehy0 of sq) ?_
          repeat walk_at "c8"
          exact J _ _ ⟨rfl, (g23.trans g24).trans g25⟩
        rintro σ H25 ⟨rfl, gA⟩
        replace kp := kp.up gA
        replace kq := kq.up gA
        replace kr := kr.up gA
        replace S0 := S0.up gA
        replace S1 := S1.up gA
        replace S2 := S2.up gA
        replace M0 := M0.up gA
        replace M1 := M1.up gA
        replace M2 := M2.up gA
        replace khigh := khigh.up gA
        replace kround := kround.up gA
        replace kheavy := kheavy.up gA
        replace eD := gA _ _ eD
        replace eE := gA _ _ eE
        replace eM := gA _ _ eM
        replace gK := gK.trans gA
        clear gA
        repeat walk_at "c8"
        rename_i va Ha A1 B1 C1 ga ka hA oA oB s1 s2 s3 vb Hb A2 B2 C2 gb kb hB oC RB s4 s5 s6
        refine r_neL (ka.up gb) kb (line_two hA hB oA oB oC (al_at h0 i0 j0 n23 RB oC (t_par _ _ _ _ _ _)) nn0) ?_
        repeat walk_at "c8"
        exact ⟨⟨_, rfl⟩, gK.trans (ga.trans gb)⟩
      · refine r_gname ?_
        dsimp only [List.set]
        with_reducible refine r_cut (fun σ H2 => σ = [some (.ref a), some vp, some vq, some (.ref p5), some (.bl (decide (r6 = 1))), some vr, some (.ref D), some (.ref E9), some (.ref DM), some rhigh, some (.int (0 + (1 : Nat))), some rheavy, some rround] ∧ Same H' H2) ?Ua1 ?Va1
        case Va1 =>
          intro N J
          repeat walk_at "c8"
          rename_i o20 H20 g20 n20 e20
          refine r_share (kq.up g20) (M1.up g20) (Fq.lit (q := (2 / 3 : Rat)) e20 (by decide +kernel) (by decide +kernel)) sxq syq mz1 my1 (Sz.lit (by decide +kernel) (by decide +kernel)) rfl rfl (fun r22 H22 g22 k22 => ?_)
          repeat walk_at "c8"
          refine r_neP k22 ((kheavy.up g20).up g22) ⟨t_sh2 _ _ _ _ egx1, t_sh2 _ _ _ _ egy1⟩ ?_
          repeat walk_at "c8"
          exact J _ _ ⟨rfl, g20.trans g22⟩
        rintro σ H22 ⟨rfl, gA⟩
        replace kp := kp.up gA
        replace kq := kq.up gA
        replace kr := kr.up gA
        replace S0 := S0.up gA
        replace S1 := S1.up gA
        replace S2 := S2.up gA
        replace M0 := M0.up gA
        replace M1 := M1.up gA
        replace M2 := M2.up gA
        replace khigh := khigh.up gA
        replace kround := kround.up gA
        replace kheavy := kheavy.up gA
        replace eD := gA _ _ eD
        replace eE := gA _ _ eE
        replace eM := gA _ _ eM
        replace gK := gK.trans gA
        clear gA
        with_reducible refine r_cut (fun σ H2 => σ = [some (.ref a), some vp, some vq, some (.ref p5), some (.bl (decide (r6 = 1))), some vr, some (.ref D), some (.ref E9), some (.ref DM), some rhigh, some (.int (0 + (1 : Nat))), some rheavy, some rround] ∧ Same H22 H2) ?Ub1 ?Vb1
        case Vb1 =>
          intro N J
          repeat walk_at "c8"
          rename_i r23 H23 fx fy g23 k23 of sq zf1 zf2 r24 H24 g24 k24 r25 H25 g25 k25
          refine r_noN (mir_circ2 h1 i1 j1 n31 E1 ehx1 ehy1 of sq) ?_
          repeat walk_at "c8"
          exact J _ _ ⟨rfl, (g23.trans g24).trans g25⟩
        rintro σ H25 ⟨rfl, gA⟩
        replace kp := kp.up gA
        replace kq := kq.up gA
        replace kr := kr.up gA
        replace S0 := S0.up gA
        replace S1 := S1.up gA
        replace S2 := S2.up gA
        replace M0 := M0.up gA
        replace M1 := M1.up gA
        replace M2 := M2.up gA
        replace khigh := khigh.up gA
        replace kround := kround.up gA
        replace kheavy := kheavy.up gA
        replace eD := gA _ _ eD
        replace eE := gA _ _ eE
        replace eM := gA _ _ eM
        replace gK := gK.trans gA
        clear gA
        repeat walk_at "c8"
        rename_i va Ha A1 B1 C1 ga ka hA oA oB s1 s2 s3 vb Hb A2 B2 C2 gb kb hB oC RB s4 s5 s6
        refine r_neL (ka.up gb) kb (line_two hA hB oA oB oC (al_at h1 i1 j1 n31 RB oC (t_par _ _ _ _ _ _)) nn1) ?_
        repeat walk_at "c8"
        exact ⟨⟨_, rfl⟩, gK.trans (ga.trans gb)⟩
      · refine r_gname ?_
        dsimp only [List.set]
        with_reducible refine r_cut (fun σ H2 => σ = [some (.ref a), some vp, some vq, some (.ref p5), some (.bl (decide (r6 = 1))), some vr, some (.ref D), some (.ref E9), some (.ref DM), some rhigh, some (.int (0 + (2 : Nat))), some rheavy, some rround] ∧ Same H' H2) ?Ua2 ?Va2
        case Va2 =>
          intro N J
          repeat walk_at "c8"
          rename_i o20 H20 g20 n20 e20
          refine r_share (kr.up g20) (M2.up g20) (Fq.lit (q := (2 / 3 : Rat)) e20 (by decide +kernel) (by decide +kernel)) sxr syr mz2 my2 (Sz.lit (by decide +kernel) (by decide +kernel)) rfl rfl (fun r22 H22 g22 k22 => ?_)
          repeat walk_at "c8"
          refine r_neP k22 ((kheavy.up g20).up g22) ⟨t_sh2 _ _ _ _ egx2, t_sh2 _ _ _ _ egy2⟩ ?_
          repeat walk_at "c8"
          exact J _ _ ⟨rfl, g20.trans g22⟩
        rintro σ H22 ⟨rfl, gA⟩
        replace kp := kp.up gA
        replace kq := kq.up gA
        replace kr := kr.up gA
        replace S0 := S0.up gA
        replace S1 := S1.up gA
        replace S2 := S2.up gA
        replace M0 := M0.up gA
        replace M1 := M1.up gA
        replace M2 := M2.up gA
        replace khigh := khigh.up gA
        replace kround := kround.up gA
        replace kheavy := kheavy.up gA
        replace eD := gA _ _ eD
        replace eE := gA _ _ eE
        replace eM := gA _ _ eM
        replace gK := gK.trans gA
        clear gA
        with_reducible refine r_cut (fun σ H2 => σ = [some (.ref a), some vp, some vq, some (.ref p5), some (.bl (decide (r6 = 1))), some vr, some (.ref D), some (.ref E9), some (.ref DM), some rhigh, some (.int (0 + (2 : Nat))), some rheavy, some rround] ∧ Same H22 H2) ?Ub2 ?Vb2
        case Vb2 =>
          intro N J
          repeat walk_at "c8"
          rename_i r23 H23 fx fy g23 k23 of sq zf1 zf2 r24 H24 g24 k24 r25 H25 g25 k25
          refine r_noN (mir_circ2 h2 i2 j2 n12 E2 ehx2 ehy2 of sq) ?_
          repeat walk_at "c8"
          exact J _ _ ⟨rfl, (g23.trans g24).trans g25⟩
        rintro σ H25 ⟨rfl, gA⟩
        replace kp := kp.up gA
        replace kq := kq.up gA
        replace kr := kr.up gA
        replace S0 := S0.up gA
        replace S1 := S1.up gA
        replace S2 := S2.up gA
        replace M0 := M0.up gA
        replace M1 := M1.up gA
        replace M2 := M2.up gA
        replace khigh := khigh.up gA
        replace kround := kround.up gA
        replace kheavy := kheavy.up gA
        replace eD := gA _ _ eD
        replace eE := gA _ _ eE
        replace eM := gA _ _ eM
        replace gK := gK.trans gA
        clear gA
        repeat walk_at "c8"
        rename_i va Ha A1 B1 C1 ga ka hA oA oB s1 s2 s3 vb Hb A2 B2 C2 gb kb hB oC RB s4 s5 s6
        refine r_neL (ka.up gb) kb (line_two hA hB oA oB oC (al_at h2 i2 j2 n12 RB oC (t_par _ _ _ _ _ _)) nn2) ?_
        repeat walk_at "c8"
        exact ⟨⟨_, rfl⟩, gK.trans (ga.trans gb)⟩
    · rintro σ H' ⟨⟨z, rfl⟩, g⟩
      repeat walk_at "c8"
      exact q _
  · repeat walk_at "c8"
    refine r_ite (fun d => ?_) (fun d => ?_)
    · repeat walk_at "c8"
      refine J _ _ ⟨_, ?xa, ?ya, rfl, ?q1, ?q2, ?q3, ?q4, ?q5⟩
      case q1 => walk_at "fq"
      case q2 => walk_at "fq"
      case q3 => walk_at "fq"
      case q4 => exact Sz.mono (s1.add (s5.mul (s3.sub s1))) (by decide)
      case q5 => exact Sz.mono (s2.add (s5.mul (s4.sub s2))) (by decide)
    · repeat walk_at "c8"
      exact J _ _ ⟨_, _, _, rfl, kp7, kq7, kr, s5.mono (by decide), s6.mono (by decide)⟩
end
end Mb
namespace Mb
open PySem PySem.Spec PyProof.Rows L2
def d_common_divisor : He.DefD := ⟨("common_divisor", none), "common_divisor", "common_divisor", defArgs s_common_divisor, defBody s_common_divisor, defScope s_common_divisor, [], []⟩
def d_fraction : He.DefD := ⟨("fraction", none), "fraction", "fraction", defArgs s_fraction, defBody s_fraction, defScope s_fraction, [], []⟩
def d_middle : He.DefD := ⟨("middle", none), "middle", "middle", defArgs s_middle, defBody s_middle, defScope s_middle, [], []⟩
def d_share : He.DefD := ⟨("share", none), "share", "share", defArgs s_share, defBody s_share, defScope s_share, [], []⟩
def d_beyond : He.DefD := ⟨("beyond", none), "beyond", "beyond", defArgs s_beyond, defBody s_beyond, defScope s_beyond, [], []⟩
def d_between : He.DefD := ⟨("between", none), "between", "between", defArgs s_between, defBody s_between, defScope s_between, [], []⟩
def d_cleared : He.DefD := ⟨("cleared", none), "cleared", "cleared", defArgs s_cleared, defBody s_cleared, defScope s_cleared, [], []⟩
def d_through : He.DefD := ⟨("through", none), "through", "through", defArgs s_through, defBody s_through, defScope s_through, [], []⟩
def d_along : He.DefD := ⟨("along", none), "along", "along", defArgs s_along, defBody s_along, defScope s_along, [], []⟩
def d_upright : He.DefD := ⟨("upright", none), "upright", "upright", defArgs s_upright, defBody s_upright, defScope s_upright, [], []⟩
def d_meet : He.DefD := ⟨("meet", none), "meet", "meet", defArgs s_meet, defBody s_meet, defScope s_meet, [], []⟩
def d_foot : He.DefD := ⟨("foot", none), "foot", "foot", defArgs s_foot, defBody s_foot, defScope s_foot, [], []⟩
def d_mirror : He.DefD := ⟨("mirror", none), "mirror", "mirror", defArgs s_mirror, defBody s_mirror, defScope s_mirror, [], []⟩
def d_line_at : He.DefD := ⟨("line_at", none), "line_at", "line_at", defArgs s_line_at, defBody s_line_at, defScope s_line_at, [], []⟩
def d_one_form : He.DefD := ⟨("one_form", none), "one_form", "one_form", defArgs s_one_form, defBody s_one_form, defScope s_one_form, [], []⟩
def d_whole : He.DefD := ⟨("_law_whole", none), "_law_whole", "_law_whole", defArgs s_whole, defBody s_whole, defScope s_whole, [], []⟩
def d_stream : He.DefD := ⟨("_law_stream", none), "_law_stream", "_law_stream", defArgs s_stream, defBody s_stream, defScope s_stream, [], []⟩
def d_take : He.DefD := ⟨("_law_take", none), "_law_take", "_law_take", defArgs s_take, defBody s_take, defScope s_take, [], []⟩
def d_divisor : He.DefD := ⟨("_law_divisor", none), "_law_divisor", "_law_divisor", defArgs s_divisor, defBody s_divisor, defScope s_divisor, [], []⟩
def d_lowest : He.DefD := ⟨("_law_lowest", none), "_law_lowest", "_law_lowest", defArgs s_lowest, defBody s_lowest, defScope s_lowest, [], []⟩
def d_l_plus : He.DefD := ⟨("_law_plus", none), "_law_plus", "_law_plus", defArgs s_l_plus, defBody s_l_plus, defScope s_l_plus, [], []⟩
def d_l_minus : He.DefD := ⟨("_law_minus", none), "_law_minus", "_law_minus", defArgs s_l_minus, defBody s_l_minus, defScope s_l_minus, [], []⟩
def d_l_times : He.DefD := ⟨("_law_times", none), "_law_times", "_law_times", defArgs s_l_times, defBody s_l_times, defScope s_l_times, [], []⟩
def d_same : He.DefD := ⟨("_law_same", none), "_law_same", "_law_same", defArgs s_same, defBody s_same, defScope s_same, [], []⟩
def d_is_fraction : He.DefD := ⟨("_law_is_fraction", none), "_law_is_fraction", "_law_is_fraction", defArgs s_is_fraction, defBody s_is_fraction, defScope s_is_fraction, [], []⟩
def d_is_place : He.DefD := ⟨("_law_is_place", none), "_law_is_place", "_law_is_place", defArgs s_is_place, defBody s_is_place, defScope s_is_place, [], []⟩
def d_l_on : He.DefD := ⟨("_law_on", none), "_law_on", "_law_on", defArgs s_l_on, defBody s_l_on, defScope s_l_on, [], []⟩
def d_cross : He.DefD := ⟨("_law_cross", none), "_law_cross", "_law_cross", defArgs s_cross, defBody s_cross, defScope s_cross, [], []⟩
def d_far : He.DefD := ⟨("_law_far", none), "_law_far", "_law_far", defArgs s_far, defBody s_far, defScope s_far, [], []⟩
def d_l_way : He.DefD := ⟨("_law_way", none), "_law_way", "_law_way", defArgs s_l_way, defBody s_l_way, defScope s_l_way, [], []⟩
def d_small : He.DefD := ⟨("_law_small", none), "_law_small", "_law_small", defArgs s_small, defBody s_small, defScope s_small, [], []⟩
def d_small_place : He.DefD := ⟨("_law_small_place", none), "_law_small_place", "_law_small_place", defArgs s_small_place, defBody s_small_place, defScope s_small_place, [], []⟩
def d_small_near : He.DefD := ⟨("_law_small_near", none), "_law_small_near", "_law_small_near", defArgs s_small_near, defBody s_small_near, defScope s_small_near, [], []⟩
def d_flat : He.DefD := ⟨("_law_flat", none), "_law_flat", "_law_flat", defArgs s_flat, defBody s_flat, defScope s_flat, [], []⟩
def d_one_place : He.DefD := ⟨("_law_one_place", none), "_law_one_place", "_law_one_place", defArgs s_one_place, defBody s_one_place, defScope s_one_place, [], []⟩
def d_law : He.DefD := ⟨("law", none), "law", "law", defArgs s_law, defBody s_law, defScope s_law, [], []⟩
def fn : List He.DefD := [d_common_divisor, d_fraction, d_middle, d_share, d_beyond, d_between, d_cleared, d_through, d_along, d_upright, d_meet, d_foot, d_mirror, d_line_at, d_one_form, d_whole, d_stream, d_take, d_divisor, d_lowest, d_l_plus, d_l_minus, d_l_times, d_same, d_is_fraction, d_is_place, d_l_on, d_cross, d_far, d_l_way, d_small, d_small_place, d_small_near, d_flat, d_one_place, d_law]
def fa : List He.Fa := [.glo "common_divisor", .glo "fraction", .glo "middle", .glo "share", .glo "beyond", .glo "between", .glo "cleared", .glo "through", .glo "along", .glo "upright", .glo "meet", .glo "foot", .glo "mirror", .glo "line_at", .glo "one_form", .glo "_law_whole", .glo "_law_stream", .glo "_law_take", .glo "_law_divisor", .glo "_law_lowest", .glo "_law_plus", .glo "_law_minus", .glo "_law_times", .glo "_law_same", .glo "_law_is_fraction", .glo "_law_is_place", .glo "_law_on", .glo "_law_cross", .glo "_law_far", .glo "_law_way", .glo "_law_small", .glo "_law_small_place", .glo "_law_small_near", .glo "_law_flat", .glo "_law_one_place", .glo "law", .free "abs", .free "bool", .free "int", .free "isinstance", .free "len", .free "range", .free "tuple"]
abbrev R : PySem.W.OpenRow := PySem.W.OpenLaw.row PySem.Challenge.rw_movebook_k16_whole_triangle
abbrev hk : PySem.W.Hook := He.hookD 5 fa fn
def ob (s : PySem.W.SharedT) : He.AlD := He.obsDG 5 fa fn (HandSHeadRun.getT s)
theorem ob_eq (s : PySem.W.SharedT) : ob s = hk.obs s.abs := He.obsDG_eq (HandSHeadRun.getT_eq s)
def names : List PySem.Str := [("BookError" : PySem.Str), ("NoNumber" : PySem.Str), ("common_divisor" : PySem.Str), ("fraction" : PySem.Str), ("middle" : PySem.Str), ("share" : PySem.Str), ("beyond" : PySem.Str), ("between" : PySem.Str), ("cleared" : PySem.Str), ("through" : PySem.Str), ("along" : PySem.Str), ("upright" : PySem.Str), ("meet" : PySem.Str), ("foot" : PySem.Str), ("mirror" : PySem.Str), ("line_at" : PySem.Str), ("one_form" : PySem.Str), ("_law_whole" : PySem.Str), ("_law_stream" : PySem.Str), ("_law_take" : PySem.Str), ("_law_divisor" : PySem.Str), ("_law_lowest" : PySem.Str), ("_law_plus" : PySem.Str), ("_law_minus" : PySem.Str), ("_law_times" : PySem.Str), ("_law_same" : PySem.Str), ("_law_is_fraction" : PySem.Str), ("_law_is_place" : PySem.Str), ("_law_on" : PySem.Str), ("_law_cross" : PySem.Str), ("_law_far" : PySem.Str), ("_law_way" : PySem.Str), ("_law_small" : PySem.Str), ("_law_small_place" : PySem.Str), ("_law_small_near" : PySem.Str), ("_law_flat" : PySem.Str), ("_law_one_place" : PySem.Str)]
theorem run (w : World) : HandSHeadRun.RunEq R (PySem.W.view R.prog [43]) hk ob 4000 names w := by
  intro os
  kernel_rfl
theorem facts {P : Program} {w : World} {K : PySem.W.Frag} {h : Heap} {mg : Str → Option Value} {f : Addr} (X : K.In h) (G : h.Ns mainGlobals mg) (hfa : mg ("law" : Str) = some (.ref f)) (c : He.SaysD fa fn K) :
    ∃ fd : FuncData, (∀ (s : Shared) (v : Value), BindsTo s fd ⟨[v], []⟩ [("_law_script", v)]) ∧ ∀ base : Heap, K.In base → base.Ns mainGlobals mg → FnOk P w K mg base CX0 8 f fd ["_law_script"] (spLaw K) := by
  have F_common_divisor : Fn K mg "common_divisor" s_common_divisor := by
    obtain ⟨fd, F⟩ := c.def_ 0 (d := d_common_divisor) rfl
    exact ⟨_, fd, F, He.glo_ok X G (c.fact 0 (f := .glo "common_divisor") rfl)⟩
  have F_fraction : Fn K mg "fraction" s_fraction := by
    obtain ⟨fd, F⟩ := c.def_ 1 (d := d_fraction) rfl
    exact ⟨_, fd, F, He.glo_ok X G (c.fact 1 (f := .glo "fraction") rfl)⟩
  have F_middle : Fn K mg "middle" s_middle := by
    obtain ⟨fd, F⟩ := c.def_ 2 (d := d_middle) rfl
    exact ⟨_, fd, F, He.glo_ok X G (c.fact 2 (f := .glo "middle") rfl)⟩
  have F_share : Fn K mg "share" s_share := by
    obtain ⟨fd, F⟩ := c.def_ 3 (d := d_share) rfl
    exact ⟨_, fd, F, He.glo_ok X G (c.fact 3 (f := .glo "share") rfl)⟩
  have F_beyond : Fn K mg "beyond" s_beyond := by
    obtain ⟨fd, F⟩ := c.def_ 4 (d := d_beyond) rfl
    exact ⟨_, fd, F, He.glo_ok X G (c.fact 4 (f := .glo "beyond") rfl)⟩
  have F_between : Fn K mg "between" s_between := by
    obtain ⟨fd, F⟩ := c.def_ 5 (d := d_between) rfl
    exact ⟨_, fd, F, He.glo_ok X G (c.fact 5 (f := .glo "between") rfl)⟩
  have F_cleared : Fn K mg "cleared" s_cleared := by
    obtain ⟨fd, F⟩ := c.def_ 6 (d := d_cleared) rfl
    exact ⟨_, fd, F, He.glo_ok X G (c.fact 6 (f := .glo "cleared") rfl)⟩
  have F_through : Fn K mg "through" s_through := by
    obtain ⟨fd, F⟩ := c.def_ 7 (d := d_through) rfl
    exact ⟨_, fd, F, He.glo_ok X G (c.fact 7 (f := .glo "through") rfl)⟩
  have F_along : Fn K mg "along" s_along := by
    obtain ⟨fd, F⟩ := c.def_ 8 (d := d_along) rfl
    exact ⟨_, fd, F, He.glo_ok X G (c.fact 8 (f := .glo "along") rfl)⟩
  have F_upright : Fn K mg "upright" s_upright := by
    obtain ⟨fd, F⟩ := c.def_ 9 (d := d_upright) rfl
    exact ⟨_, fd, F, He.glo_ok X G (c.fact 9 (f := .glo "upright") rfl)⟩
  have F_meet : Fn K mg "meet" s_meet := by
    obtain ⟨fd, F⟩ := c.def_ 10 (d := d_meet) rfl
    exact ⟨_, fd, F, He.glo_ok X G (c.fact 10 (f := .glo "meet") rfl)⟩
  have F_foot : Fn K mg "foot" s_foot := by
    obtain ⟨fd, F⟩ := c.def_ 11 (d := d_foot) rfl
    exact ⟨_, fd, F, He.glo_ok X G (c.fact 11 (f := .glo "foot") rfl)⟩
  have F_mirror : Fn K mg "mirror" s_mirror := by
    obtain ⟨fd, F⟩ := c.def_ 12 (d := d_mirror) rfl
    exact ⟨_, fd, F, He.glo_ok X G (c.fact 12 (f := .glo "mirror") rfl)⟩
  have F_line_at : Fn K mg "line_at" s_line_at := by
    obtain ⟨fd, F⟩ := c.def_ 13 (d := d_line_at) rfl
    exact ⟨_, fd, F, He.glo_ok X G (c.fact 13 (f := .glo "line_at") rfl)⟩
  have F_one_form : Fn K mg "one_form" s_one_form := by
    obtain ⟨fd, F⟩ := c.def_ 14 (d := d_one_form) rfl
    exact ⟨_, fd, F, He.glo_ok X G (c.fact 14 (f := .glo "one_form") rfl)⟩
  have F_whole : Fn K mg "_law_whole" s_whole := by
    obtain ⟨fd, F⟩ := c.def_ 15 (d := d_whole) rfl
    exact ⟨_, fd, F, He.glo_ok X G (c.fact 15 (f := .glo "_law_whole") rfl)⟩
  have F_stream : Fn K mg "_law_stream" s_stream := by
    obtain ⟨fd, F⟩ := c.def_ 16 (d := d_stream) rfl
    exact ⟨_, fd, F, He.glo_ok X G (c.fact 16 (f := .glo "_law_stream") rfl)⟩
  have F_take : Fn K mg "_law_take" s_take := by
    obtain ⟨fd, F⟩ := c.def_ 17 (d := d_take) rfl
    exact ⟨_, fd, F, He.glo_ok X G (c.fact 17 (f := .glo "_law_take") rfl)⟩
  have F_divisor : Fn K mg "_law_divisor" s_divisor := by
    obtain ⟨fd, F⟩ := c.def_ 18 (d := d_divisor) rfl
    exact ⟨_, fd, F, He.glo_ok X G (c.fact 18 (f := .glo "_law_divisor") rfl)⟩
  have F_lowest : Fn K mg "_law_lowest" s_lowest := by
    obtain ⟨fd, F⟩ := c.def_ 19 (d := d_lowest) rfl
    exact ⟨_, fd, F, He.glo_ok X G (c.fact 19 (f := .glo "_law_lowest") rfl)⟩
  have F_l_plus : Fn K mg "_law_plus" s_l_plus := by
    obtain ⟨fd, F⟩ := c.def_ 20 (d := d_l_plus) rfl
    exact ⟨_, fd, F, He.glo_ok X G (c.fact 20 (f := .glo "_law_plus") rfl)⟩
  have F_l_minus : Fn K mg "_law_minus" s_l_minus := by
    obtain ⟨fd, F⟩ := c.def_ 21 (d := d_l_minus) rfl
    exact ⟨_, fd, F, He.glo_ok X G (c.fact 21 (f := .glo "_law_minus") rfl)⟩
  have F_l_times : Fn K mg "_law_times" s_l_times := by
    obtain ⟨fd, F⟩ := c.def_ 22 (d := d_l_times) rfl
    exact ⟨_, fd, F, He.glo_ok X G (c.fact 22 (f := .glo "_law_times") rfl)⟩
  have F_same : Fn K mg "_law_same" s_same := by
    obtain ⟨fd, F⟩ := c.def_ 23 (d := d_same) rfl
    exact ⟨_, fd, F, He.glo_ok X G (c.fact 23 (f := .glo "_law_same") rfl)⟩
  have F_is_fraction : Fn K mg "_law_is_fraction" s_is_fraction := by
    obtain ⟨fd, F⟩ := c.def_ 24 (d := d_is_fraction) rfl
    exact ⟨_, fd, F, He.glo_ok X G (c.fact 24 (f := .glo "_law_is_fraction") rfl)⟩
  have F_is_place : Fn K mg "_law_is_place" s_is_place := by
    obtain ⟨fd, F⟩ := c.def_ 25 (d := d_is_place) rfl
    exact ⟨_, fd, F, He.glo_ok X G (c.fact 25 (f := .glo "_law_is_place") rfl)⟩
  have F_l_on : Fn K mg "_law_on" s_l_on := by
    obtain ⟨fd, F⟩ := c.def_ 26 (d := d_l_on) rfl
    exact ⟨_, fd, F, He.glo_ok X G (c.fact 26 (f := .glo "_law_on") rfl)⟩
  have F_cross : Fn K mg "_law_cross" s_cross := by
    obtain ⟨fd, F⟩ := c.def_ 27 (d := d_cross) rfl
    exact ⟨_, fd, F, He.glo_ok X G (c.fact 27 (f := .glo "_law_cross") rfl)⟩
  have F_far : Fn K mg "_law_far" s_far := by
    obtain ⟨fd, F⟩ := c.def_ 28 (d := d_far) rfl
    exact ⟨_, fd, F, He.glo_ok X G (c.fact 28 (f := .glo "_law_far") rfl)⟩
  have F_l_way : Fn K mg "_law_way" s_l_way := by
    obtain ⟨fd, F⟩ := c.def_ 29 (d := d_l_way) rfl
    exact ⟨_, fd, F, He.glo_ok X G (c.fact 29 (f := .glo "_law_way") rfl)⟩
  have F_small : Fn K mg "_law_small" s_small := by
    obtain ⟨fd, F⟩ := c.def_ 30 (d := d_small) rfl
    exact ⟨_, fd, F, He.glo_ok X G (c.fact 30 (f := .glo "_law_small") rfl)⟩
  have F_small_place : Fn K mg "_law_small_place" s_small_place := by
    obtain ⟨fd, F⟩ := c.def_ 31 (d := d_small_place) rfl
    exact ⟨_, fd, F, He.glo_ok X G (c.fact 31 (f := .glo "_law_small_place") rfl)⟩
  have F_small_near : Fn K mg "_law_small_near" s_small_near := by
    obtain ⟨fd, F⟩ := c.def_ 32 (d := d_small_near) rfl
    exact ⟨_, fd, F, He.glo_ok X G (c.fact 32 (f := .glo "_law_small_near") rfl)⟩
  have F_flat : Fn K mg "_law_flat" s_flat := by
    obtain ⟨fd, F⟩ := c.def_ 33 (d := d_flat) rfl
    exact ⟨_, fd, F, He.glo_ok X G (c.fact 33 (f := .glo "_law_flat") rfl)⟩
  have F_one_place : Fn K mg "_law_one_place" s_one_place := by
    obtain ⟨fd, F⟩ := c.def_ 34 (d := d_one_place) rfl
    exact ⟨_, fd, F, He.glo_ok X G (c.fact 34 (f := .glo "_law_one_place") rfl)⟩
  have F_law : Fn K mg "law" s_law := by
    obtain ⟨fd, F⟩ := c.def_ 35 (d := d_law) rfl
    exact ⟨_, fd, F, He.glo_ok X G (c.fact 35 (f := .glo "law") rfl)⟩
  have z_abs : mg "abs" = none := He.free_ok X G (c.fact 36 (f := .free "abs") rfl)
  have z_bool : mg "bool" = none := He.free_ok X G (c.fact 37 (f := .free "bool") rfl)
  have z_int : mg "int" = none := He.free_ok X G (c.fact 38 (f := .free "int") rfl)
  have z_isinstance : mg "isinstance" = none := He.free_ok X G (c.fact 39 (f := .free "isinstance") rfl)
  have z_len : mg "len" = none := He.free_ok X G (c.fact 40 (f := .free "len") rfl)
  have z_range : mg "range" = none := He.free_ok X G (c.fact 41 (f := .free "range") rfl)
  have z_tuple : mg "tuple" = none := He.free_ok X G (c.fact 42 (f := .free "tuple") rfl)
  obtain ⟨fd, FL⟩ := c.def_ 35 (d := d_law) rfl
  have e := hfa.symm.trans (He.glo_ok X G (c.fact 35 (f := .glo "law") rfl))
  cases e
  have b := FunD.bindsA (ps := ["_law_script"]) FL fun _ _ _ _ _ _ us hl => match us, hl with | [_], _ => rfl
  refine ⟨fd, fun s v => b s [v] rfl, fun base _ _ => ?_⟩
  have G_common_divisor := ok_common_divisor (P := P) (w := w) (base := base) F_common_divisor z_abs
  have G_fraction := ok_fraction (P := P) (w := w) (base := base) F_fraction G_common_divisor
  replace G_fraction := G_fraction.of fun _ _ _ _ h => frQ_of (K := K) h
  have G_between := ok_between (P := P) (w := w) (base := base) F_between G_fraction
  have G_share := ok_share (P := P) (w := w) (base := base) F_share G_between
  have G_middle := ok_middle (P := P) (w := w) (base := base) F_middle G_share
  have G_beyond := ok_beyond (P := P) (w := w) (base := base) F_beyond G_share
  have G_cleared := ok_cleared (P := P) (w := w) (base := base) F_cleared G_common_divisor
  have G_one_form := ok_one_form (P := P) (w := w) (base := base) F_one_form G_common_divisor
  have G_through := ok_through (P := P) (w := w) (base := base) F_through G_cleared G_one_form
  have G_line_at := ok_line_at (P := P) (w := w) (base := base) F_line_at G_cleared G_one_form
  have G_along := ok_along (P := P) (w := w) (base := base) F_along G_line_at
  have G_upright := ok_upright (P := P) (w := w) (base := base) F_upright G_line_at
  have G_meet := ok_meet (P := P) (w := w) (base := base) F_meet G_fraction
  have G_foot := ok_foot (P := P) (w := w) (base := base) F_foot G_upright G_meet
  have G_mirror := ok_mirror (P := P) (w := w) (base := base) F_mirror G_beyond G_foot
  have G_stream := ok_stream (P := P) (w := w) (base := base) F_stream z_len
  have G_take := ok_take (P := P) (w := w) (base := base) F_take
  have G_divisor := ok_divisor (P := P) (w := w) (base := base) F_divisor z_abs
  have G_lowest := ok_lowest (P := P) (w := w) (base := base) F_lowest G_divisor
  have G_whole := ok_whole (P := P) (w := w) (base := base) F_whole z_isinstance z_int z_bool
  have G_is_fraction := ok_is_fraction (P := P) (w := w) (base := base) F_is_fraction G_whole G_divisor z_isinstance z_tuple z_len
  have G_is_place := ok_is_place (P := P) (w := w) (base := base) F_is_place G_is_fraction z_isinstance z_tuple z_len
  replace G_is_place := G_is_place.of fun _ _ _ _ h => isP_of (K := K) h
  have G_l_plus := ok_l_plus (P := P) (w := w) (base := base) F_l_plus
  replace G_l_plus := G_l_plus.of fun _ _ _ _ h => plus_r2 (K := K) h
  have G_l_minus := ok_l_minus (P := P) (w := w) (base := base) F_l_minus
  replace G_l_minus := G_l_minus.of fun _ _ _ _ h => minus_r2 (K := K) h
  have G_l_times := ok_l_times (P := P) (w := w) (base := base) F_l_times
  replace G_l_times := G_l_times.of fun _ _ _ _ h => times_r2 (K := K) h
  have G_same := ok_same (P := P) (w := w) (base := base) F_same
  replace G_same := G_same.of fun _ _ _ _ h => same_r2 (K := K) h
  replace G_lowest := G_lowest.of fun _ _ _ _ h => lowQ_of (K := K) h
  have G_l_on := ok_l_on (P := P) (w := w) (base := base) F_l_on
  have G_l_way := ok_l_way (P := P) (w := w) (base := base) F_l_way G_l_plus G_l_minus G_l_times G_lowest
  replace G_is_fraction := G_is_fraction.of fun _ _ _ _ h => isF_of (K := K) h
  have G_far := ok_far (P := P) (w := w) (base := base) F_far G_l_plus G_l_minus G_l_times
  replace G_through := G_through.of fun _ _ _ _ h => thruO_of (K := K) h
  replace G_meet := G_meet.of fun _ _ _ _ h => meetO_of (K := K) h
  have G_small := ok_small (P := P) (w := w) (base := base) F_small G_take G_lowest
  have G_small_place := ok_small_place (P := P) (w := w) (base := base) F_small_place G_small
  have G_small_near := ok_small_near (P := P) (w := w) (base := base) F_small_near G_take G_small_place
  have G_cross := ok_cross (P := P) (w := w) (base := base) F_cross G_l_minus G_l_times
  have G_one_place := ok_one_place (P := P) (w := w) (base := base) F_one_place G_meet G_is_place G_l_on
  have G_flat := ok_flat (P := P) (w := w) (base := base) F_flat G_upright G_meet z_range
  have G_law := ok_law (P := P) (w := w) (base := base) FL G_stream G_take G_small_place G_small_near G_l_way G_through G_cross G_flat G_middle G_upright G_one_place G_share G_same G_far G_mirror G_along z_range
  exact G_law
end Mb
open PySem PySem.W PySem.Calls PyProof.Rows
set_option maxRecDepth 100000 in
set_option maxHeartbeats 0 in
theorem PySem.Challenge.cw_movebook_k16_whole_triangle_holds : PySem.Challenge.rw_movebook_k16_whole_triangle.Holds := by
  w_on; o_law
  refine HandSHeadRun.head_any (r := OpenLaw.row PySem.Challenge.rw_movebook_k16_whole_triangle) (q := view (OpenLaw.row PySem.Challenge.rw_movebook_k16_whole_triangle).prog [43]) (H := Mb.hk) (ob := Mb.ob) (M := 4000) (loose := Mb.names) (d := HandSHeadRun.topDef (OpenLaw.row PySem.Challenge.rw_movebook_k16_whole_triangle).prog 43) (kwd := []) Mb.ob_eq
    (by kernel_rfl) (fun s => by kernel_rfl) Mb.run (by kernel_rfl) (by kernel_rfl) (by kernel_rfl) (by rfl) (by first | assumption | decide +kernel) (by decide +kernel) ⟨rfl, rfl, rfl, rfl, rfl, by decide +kernel⟩ ?hw ?hc
  case hw => w_witness2
  case hc =>
    refine L2.walk_ofE (l := PySem.Challenge.rw_movebook_k16_whole_triangle) (n := 63) (k := 8) (x := "_law_script") (CX := L2.CX0) rfl (by decide) (by kernel_rfl) ⟨rfl, by decide, by decide⟩ ?F (fun _ _ _ _ z => z)
    intro w mg fa h Y G hmg0
    obtain ⟨K, KX, c⟩ := Y
    have hmg : mg ("law" : PySem.Str) = some (.ref fa) := by
      have e : (HandSHeadRun.topDef (OpenLaw.row PySem.Challenge.rw_movebook_k16_whole_triangle).prog 43).name = ("law" : PySem.Str) := by kernel_rfl
      rw [← e]
      exact hmg0
    obtain ⟨fd, hb, hF⟩ := Mb.facts (P := (PySem.Challenge.rw_movebook_k16_whole_triangle).prog) (w := w) KX G hmg c
    exact ⟨K, fd, Mb.spLaw K, KX, hb, fun H a ns hl _ hS => ⟨a, ns, rfl, hS, hl, fun _ => rfl⟩, hF⟩
