import PyProof.Rows.All
import Wide.All
import OpenK.AllK
import Wide.FinOn
import KE.KStateDown
import Lean
import HandS.ForMost
import HandS.More
import HandS.WordsExc
import HandS.ExcIs
import HandS.ExcOwn
import HandS.TryOnly
import HandS.Exc
import HandS.Defaults
import HandS.Wide
import HandS.WideBits
import HandS.IsInst
import HandS.Head0
import HandS.Head1
import HandS.Head2
import HandS.HeadEnd
import HandS.HeadHook1
import HandS.HeadHook2
import HandS.Conv
import HandS.FStr
import HandS.DeepEq
import HandS.ExcInit
import HandS.ExcValue
import HandS.ExcField
import KE.KExcIs
import HandS.HeadHook3
import HandS.ListItems
import HandS.Iter
import HandS.Dict
import HandS.Star
import PySem.Challenge.RW_movebook_k30_refusals
set_option Elab.async false
set_option linter.all false
set_option maxRecDepth 100000
set_option maxHeartbeats 4000000
namespace Mb
open PySem L2
/-! ### a def that keeps its promise, as its callers take it -/
structure Kn (P : Program) (w : World) (K : PySem.W.Frag) (mg : Str → Option Value) (base : Heap) (k : Nat) (x : Str) (ps : List Str) (sp : Sp) : Prop where
  ex : ∃ f fd, FnOk P w K mg base CX0 k f fd ps sp ∧ mg x = some (.ref f) ∧ PySem.W.keepIn K (.ref f) = true ∧ Binds K fd ps []
theorem pe_kn {X : Cx} {k : Nat} {x : Str} {ps : List Str} {sp : Sp} {e : Expr} {es : List Expr} {p pos : Pos} {t : TA} (G : Kn X.prog X.w X.K X.mg X.base k x ps sp) (hr : Room k X.A) (hg : Gl X x)
    (ha : PA X (e :: es) t) (hdb : (x == ("__debug__" : Str)) = false := by decide) (he : starEach (e :: es) X.env = (false, eval e X.env) :: starEach es X.env := by rfl) (hpl : (backTo pos (starEach es X.env)).any (·.1) = false := by rfl) :
    PE X (.Call (.Name x p) (e :: es) [] pos) (tCall sp [] E0 t) := by
  obtain ⟨f, fd, F, m, kp, b⟩ := G.ex
  exact pe_call F hr hg m kp b .nil pass0 ha hdb he hpl
/-- a def of the text: where it stands -/
abbrev FnP (K : PySem.W.Frag) (x : Str) (st : Stmt) (f : Addr) (fd : FuncData) : Prop := FunD K x x (defArgs st) (defBody st) (defScope st) [] [] f fd
structure Fn (K : PySem.W.Frag) (mg : Str → Option Value) (x : Str) (st : Stmt) : Prop where
  ex : ∃ f fd, FnP K x st f fd ∧ mg x = some (.ref f)
/-- from the walk of its body to its promise -/
theorem Fn.kn {P : Program} {w : World} {K : PySem.W.Frag} {mg : Str → Option Value} {base : Heap} {k : Nat} {x : Str} {st : Stmt} {N ps : List Str} {sp : Sp} (F : Fn K mg x st) (S : FnScope N ps (defScope st)) (len : ∀ vs H Q E, sp vs H Q E → vs.length = ps.length)
    (hbody : ∀ (f : Addr) (cdv : Value) (A : Around) (outer : List Env) (s : Shared) (H : Hp) (vs : List V) (Q : VK) (E : XK), Room k (A.deeper (PyProof.Rows.envOfC x (defScope st) s.heap.objs.size f cdv)) → sp vs H Q E →
      ∃ t, PSs (cxOf CX0 P w K mg base N x (defScope st) f cdv A outer s H E).nox (defBody st) t ∧ t { nx := fun _ H' => Q .non H', rt := Q } (start N vs) H)
    (hb : ∀ (kV doc pm : Value) (an : Option Addr) (cdv ct : Value) (us : List Value), us.length = ps.length → bindArgs (PySem.W.fnOf x x (defArgs st) (defBody st) (defScope st) .none kV doc pm an cdv ct) ⟨us, []⟩ = pure (ps.zip us)) :
    Kn P w K mg base (k + 1) x ps sp := by
  obtain ⟨f, fd, F, m⟩ := F.ex
  refine ⟨f, fd, F.ok S len fun cdv A outer s H vs Q E hr h => ?_, m, F.kp, F.bindsN hb⟩
  obtain ⟨t, p, q⟩ := hbody f cdv A outer s H vs Q E hr h
  exact ⟨t, p.nox, q⟩
/-- the same for the law itself, whose function object is known -/
theorem fnp_ok {P : Program} {w : World} {K : PySem.W.Frag} {mg : Str → Option Value} {base : Heap} {k : Nat} {x : Str} {st : Stmt} {N ps : List Str} {sp : Sp} {f : Addr} {fd : FuncData} (F : FnP K x st f fd) (S : FnScope N ps (defScope st)) (len : ∀ vs H Q E, sp vs H Q E → vs.length = ps.length)
    (hbody : ∀ (cdv : Value) (A : Around) (outer : List Env) (s : Shared) (H : Hp) (vs : List V) (Q : VK) (E : XK), Room k (A.deeper (PyProof.Rows.envOfC x (defScope st) s.heap.objs.size f cdv)) → sp vs H Q E →
      ∃ t, PSs (cxOf CX0 P w K mg base N x (defScope st) f cdv A outer s H E).nox (defBody st) t ∧ t { nx := fun _ H' => Q .non H', rt := Q } (start N vs) H) : FnOk P w K mg base CX0 (k + 1) f fd ps sp := by
  refine F.ok S len fun cdv A outer s H vs Q E hr h => ?_
  obtain ⟨t, p, q⟩ := hbody cdv A outer s H vs Q E hr h
  exact ⟨t, p.nox, q⟩
/-! ### x is True, x is False -/
theorem op_isB {X : Cx} : OpR X (compareOp .Is) (fun x y H Q => ∃ a b, x = .bl a ∧ y = .bl b ∧ Q (.bl (a == b)) H) := by
  intro pins s σ H x y v u Q I rx ry h
  obtain ⟨a, b, rfl, rfl, q⟩ := h
  cases (show v = Value.bool a from rx)
  cases (show u = Value.bool b from ry)
  exact PyProof.Rows.is_bool ⟨.bl (a == b), H, I, rfl, q⟩
/-! ### // by any great divisor but 0 -/
def CDivZ (_ j : Int) : Prop := j ≠ 0 ∧ j.natAbs.log2 < 9000
theorem op_fdivZ {X : Cx} : OpR X (binaryOp .FloorDiv) (rI CDivZ fun i j => .int (i.fdiv j)) := opI fun _ _ _ _ _ _ _ hc q => PyProof.Rows.floordiv_int hc.1 q (.inl (PyProof.noPylong_of_log2 hc.2))
theorem cdivZ {i j : Int} {b : Nat} (h : j ≠ 0) (hb : j.natAbs < 2 ^ b) (h0 : 0 < b) (h9 : b ≤ 9000) : CDivZ i j := ⟨h, Nat.lt_of_lt_of_le (PySem.Flt.log2_lt_of h0 hb) h9⟩
/-! ### readings, step by step -/
section
variable {σ : St} {H : Hp} {Q : VK} {D : Ends} {K : PySem.W.Frag}
theorem r_var {i : Nat} {v : V} (h : σ[i]? = some (some v)) (q : Q v H) : tVar i σ H Q := ⟨v, h, q⟩
theorem r_c {v : V} (q : Q v H) : tC v σ H Q := q
theorem r_op {r : R2} {ta tb : TE} (q : ta σ H fun x H1 => tb σ H1 fun y H2 => r x y H2 Q) : tOp r ta tb σ H Q := q
theorem r_un {r : V → Hp → VK → Prop} {ta : TE} (q : ta σ H fun x H1 => r x H1 Q) : tUn r ta σ H Q := q
theorem r_i {C : Int → Int → Prop} {g : Int → Int → V} {i j : Int} (c : C i j) (q : Q (g i j) H) : rI C g (.int i) (.int j) H Q := ⟨i, j, rfl, rfl, c, q⟩
theorem r_i0 {g : Int → Int → V} {i j : Int} (q : Q (g i j) H) : rI0 g (.int i) (.int j) H Q := ⟨i, j, rfl, rfl, q⟩
theorem r_u {g : Int → V} {i : Int} (q : Q (g i) H) : rU g (.int i) H Q := ⟨i, rfl, q⟩
theorem r_eqI {i j : Int} (q : Q (.bl (decide (i = j))) H) : rEq (.int i) (.int j) H Q := ⟨rfl, by
  rw [show decide (V.int i = V.int j) = decide (i = j) from by simp]; exact q⟩
theorem r_neI {i j : Int} (q : Q (.bl (!decide (i = j))) H) : rNe (.int i) (.int j) H Q := ⟨rfl, by
  rw [show decide (V.int i = V.int j) = decide (i = j) from by simp]; exact q⟩
theorem r_eqB {i j : Bool} (q : Q (.bl (i == j)) H) : rEq (.bl i) (.bl j) H Q := ⟨rfl, by
  rw [show decide (V.bl i = V.bl j) = (i == j) from by cases i <;> cases j <;> rfl]; exact q⟩
theorem r_eqS {i j : Str} (q : Q (.bl (decide (i = j))) H) : rEq (.str i) (.str j) H Q := ⟨rfl, by
  rw [show decide (V.str i = V.str j) = decide (i = j) from by simp]; exact q⟩
theorem r_bits {to : TE} (q : to σ H fun x H1 => ∃ i, x = .int i ∧ Q (.int (Builtin.Int.intBits i : Nat)) H1) : tBits to σ H Q := q
theorem r_int {i : Int} {Q : Int → Prop} (q : Q i) : ∃ k, V.int i = .int k ∧ Q k := ⟨i, rfl, q⟩
theorem r_cb {r : List V → Hp → VK → Prop} {t : TA} (q : t σ H fun vs H1 => r vs H1 Q) : tCB r t σ H Q := q
theorem r_nil {Q : List V → Hp → Prop} (q : Q [] H) : tNil σ H Q := q
theorem r_cons {ta : TE} {tr : TA} {Q : List V → Hp → Prop} (q : ta σ H fun x H1 => tr σ H1 fun xs H2 => Q (x :: xs) H2) : tCons ta tr σ H Q := q
theorem r_tup {t : TA} (q : t σ H fun xs H1 => xs.length ≤ sizeLine ∧ ∀ p, H1 p = none → Q (.ref p) (upd H1 p (.tup xs))) : tTup t σ H Q := q
theorem r_lst {t : TA} (q : t σ H fun xs H1 => xs.length ≤ sizeLine ∧ ∀ p, H1 p = none → Q (.ref p) (upd H1 p (.lst xs))) : tLst t σ H Q := q
theorem r_call {sp : Sp} {E : XK} {t : TA} (q : t σ H fun vs H1 => sp (vs ++ []) H1 Q E) : tCall sp [] E t σ H Q := q
theorem r_seq {t u : TS} (q : t { D with nx := u D } σ H) : tSeq t u D σ H := q
theorem r_seqA {te : TE} {g : TG} {u : TS} (q : te σ H fun x H1 => g x σ H1 (u D)) : tSeq (tAsg te g) u D σ H := q
theorem r_seqD {te : TE} {u : TS} (q : te σ H fun _ H1 => u D σ H1) : tSeq (tDrop te) u D σ H := q
theorem r_seqP {i j : Nat} {ta : TA} {u : TS} (q : ta σ H fun vs H1 => ∃ v w, vs = [v, w] ∧ u D ((σ.set i (some v)).set j (some w)) H1) : tSeq (tPar i j ta) u D σ H := q
theorem r_cut {t u : TS} (R : St → Hp → Prop) (k : ∀ σ1 H1, R σ1 H1 → u D σ1 H1) (h : ∀ N : St → Hp → Prop, (∀ σ1 H1, R σ1 H1 → N σ1 H1) → t { D with nx := N } σ H) : tSeq t u D σ H := h _ k
theorem r_next (q : D.nx σ H) : tNext D σ H := q
theorem r_nx {a c d : St → Hp → Prop} {b : VK} (q : a σ H) : (Ends.mk a b c d).nx σ H := q
theorem r_asg {te : TE} {g : TG} (q : te σ H fun x H1 => g x σ H1 D.nx) : tAsg te g D σ H := q
theorem r_gname {i : Nat} {v : V} {Q : St → Hp → Prop} (q : Q (σ.set i (some v)) H) : gName i v σ H Q := q
theorem r_gsub {to ti : TE} {t : TSet} {v : V} {Q : St → Hp → Prop} (q : to σ H fun o H1 => ti σ H1 fun i H2 => t o i v H2 fun H3 => Q σ H3) : gSub to ti t v σ H Q := q
theorem r_ret {te : TE} (q : te σ H D.rt) : tRet te D σ H := q
theorem r_drop {te : TE} (q : te σ H fun _ H1 => D.nx σ H1) : tDrop te D σ H := q
theorem r_ifs {c : TT} {t u : TS} (q : c σ H fun b H1 => if b = true then t D σ H1 else u D σ H1) : tIfS c t u D σ H := q
theorem r_test {t : TE} {Q : Bool → Hp → Prop} (q : t σ H fun x H' => ∃ k, x = .bl k ∧ Q k H') : tTest t σ H Q := q
theorem r_tB {t : TE} {Q : Bool → Hp → Prop} (q : t σ H fun x H' => ∃ k, x = .bl k ∧ Q k H') : tB t σ H Q := q
theorem r_bl {b : Bool} {Q : Bool → Prop} (q : Q b) : ∃ k, V.bl b = .bl k ∧ Q k := ⟨b, rfl, q⟩
theorem r_and {t u : TT} {Q : Bool → Hp → Prop} (q : t σ H fun c H1 => if c = true then u σ H1 Q else Q false H1) : tAnd t u σ H Q := q
theorem r_or {t u : TT} {Q : Bool → Hp → Prop} (q : t σ H fun c H1 => if c = true then Q true H1 else u σ H1 Q) : tOr t u σ H Q := q
theorem r_not {t : TT} {Q : Bool → Hp → Prop} (q : t σ H fun c H1 => Q (!c) H1) : tNot t σ H Q := q
theorem r_andV {ta tb : TE} (q : ta σ H fun x H1 => ∃ c, x = .bl c ∧ if c = true then tb σ H1 Q else Q (.bl false) H1) : tAndV ta tb σ H Q := q
theorem r_orV {ta tb : TE} (q : ta σ H fun x H1 => ∃ c, x = .bl c ∧ if c = true then Q (.bl true) H1 else tb σ H1 Q) : tOrV ta tb σ H Q := q
theorem r_notV {ta : TE} (q : ta σ H fun x H1 => ∃ c, x = .bl c ∧ Q (.bl (!c)) H1) : tNotV ta σ H Q := q
theorem r_par {i j : Nat} {ta : TA} (q : ta σ H fun vs H1 => ∃ v w, vs = [v, w] ∧ D.nx ((σ.set i (some v)).set j (some w)) H1) : tPar i j ta D σ H := q
theorem r_two {v w : V} {Q : V → V → Prop} (q : Q v w) : ∃ a b, [v, w] = [a, b] ∧ Q a b := ⟨v, w, rfl, q⟩
theorem r_ixL {p : Addr} {xs : List V} {i : Int} {v : V} (h : SqL K H p xs) (a : atI xs i = some v) (q : Q v H) : rIxL K (.ref p) (.int i) H Q := ⟨p, xs, i, v, rfl, rfl, h, a, q⟩
theorem r_ixT {p : Addr} {xs : List V} {i : Int} {v : V} (h : SqT K H p xs) (a : atI xs i = some v) (q : Q v H) : rIxT K (.ref p) (.int i) H Q := ⟨p, xs, i, v, rfl, rfl, h, a, q⟩
theorem r_setL {p : Addr} {xs : List V} {k : Int} {j : Nat} {v : V} {Q : Hp → Prop} (h : H p = some (.lst xs)) (a : ixN xs.length k = some j) (q : Q (upd H p (.lst (xs.set j v)))) : rSetL (.ref p) (.int k) v H Q := ⟨p, xs, k, j, rfl, rfl, h, a, q⟩
theorem r_isi {x : V} {a b : String} {r : Bool} (ty : TyX K H x (.type a)) (h : kitB a b = some r) (q : Q (.bl r) H) : rIsi K [x, .ty b] H Q := ⟨x, .ty b, .type a, .type b, r, rfl, .ty b, ty, kit_ty h, q⟩
theorem r_eqFr {p q : Addr} {a b c d : Int} (h1 : SqT K H p [.int a, .int b]) (h2 : SqT K H q [.int c, .int d]) (e : a = c ∧ b = d) (k : Q (.bl true) H) : rEqD K (.ref p) (.ref q) H Q := by
  obtain ⟨rfl, rfl⟩ := e
  refine ⟨.tuple [.int a, .int b], .tuple [.int a, .int b], .tup h1 (.cons (.int a) (.cons (.int b) .nil)), .tup h2 (.cons (.int a) (.cons (.int b) .nil)), rfl, rfl, ?_⟩
  rw [SeqAt.eqv_refl _ rfl]
  exact k
/-- a test that is open -/
theorem r_ite {c : Prop} [Decidable c] {A B : Prop} (h1 : c → A) (h2 : ¬ c → B) : if decide c = true then A else B := by
  by_cases h : c
  · rw [decide_eq_true h]; exact h1 h
  · rw [decide_eq_false h]; exact h2 h
theorem r_iteN {c : Prop} [Decidable c] {A B : Prop} (h1 : ¬ c → A) (h2 : c → B) : if (!decide c) = true then A else B := by
  by_cases h : c
  · rw [decide_eq_true h]; exact h2 h
  · rw [decide_eq_false h]; exact h1 h
theorem r_T {A B : Prop} (h : A) : if true = true then A else B := iteT h
theorem r_dT {c : Bool} {A B : Prop} (hc : c = true) (h : A) : if c = true then A else B := by rw [hc]; exact iteT h
theorem r_dF {c : Bool} {A B : Prop} (hc : c = false) (h : B) : if c = true then A else B := by rw [hc]; exact iteF h
theorem r_nT {A B : Prop} (h : B) : if (!true) = true then A else B := iteF h
theorem r_nF {A B : Prop} (h : A) : if (!false) = true then A else B := iteT h
theorem r_F {A B : Prop} (h : B) : if false = true then A else B := iteF h
end
/-- a while by a word and a measure -/
theorem r_while {σ : St} {H : Hp} {D : Ends} {c : TT} {tb : TS} (Pv : St → Hp → Prop) (μ : St → Hp → Nat) (h0 : Pv σ H)
    (hs : ∀ σ1 H1, Pv σ1 H1 → c σ1 H1 fun b H2 => if b = true then ∃ N : St → Hp → Prop, (∀ σ2 H2, N σ2 H2 → ∃ m, m < μ σ1 H1 ∧ m = μ σ2 H2 ∧ Pv σ2 H2) ∧ tb { D with nx := N, ct := N, bk := D.nx } σ1 H2 else D.nx σ1 H2) : tWhile c tb D σ H := by
  refine ⟨fun m σ H => m = μ σ H ∧ Pv σ H, ⟨_, rfl, h0⟩, ?_⟩
  rintro m σ H ⟨rfl, p⟩
  exact hs σ H p
theorem r_turn {σ : St} {H : Hp} {D : Ends} {tb : TS} {Pv : St → Hp → Prop} {μ : St → Hp → Nat} {n : Nat} (q : tb { D with nx := fun σ2 H2 => Pv σ2 H2 ∧ μ σ2 H2 < n, ct := fun σ2 H2 => Pv σ2 H2 ∧ μ σ2 H2 < n, bk := D.nx } σ H) :
    ∃ N : St → Hp → Prop, (∀ σ2 H2, N σ2 H2 → ∃ m, m < n ∧ m = μ σ2 H2 ∧ Pv σ2 H2) ∧ tb { D with nx := N, ct := N, bk := D.nx } σ H :=
  ⟨_, fun _ _ h => ⟨_, h.2, rfl, h.1⟩, q⟩
theorem sz {n : Nat} (h : Nat.ble n 1000 = true) : n ≤ sizeLine := Nat.le_of_lt (small1000 (Nat.le_of_ble_eq_true h))
/-! ### heaps -/
/-- all but p is as it was -/
def But (p : Addr) (H H' : Hp) : Prop := ∀ b o, b ≠ p → H b = some o → H' b = some o
theorem But.refl (p : Addr) (H : Hp) : But p H H := fun _ _ _ h => h
theorem But.trans {p : Addr} {H H1 H2 : Hp} (a : But p H H1) (b : But p H1 H2) : But p H H2 := fun c o n h => b c o n (a c o n h)
theorem But.upd (p : Addr) (H : Hp) (o : HO) : But p H (upd H p o) := fun b o' n h => by rw [upd_ne n]; exact h
theorem But.same {p : Addr} {H H' : Hp} (s : Same H H') : But p H H' := fun b o _ h => s b o h
/-- what stood ahead of p's making stands -/
theorem Same.but {H0 H H' : Hp} {p : Addr} (s : Same H0 H) (n : H0 p = none) (b : But p H H') : Same H0 H' := fun c o h => b c o (ne_of_none h n) (s c o h)
theorem same_new {H : Hp} {p : Addr} (h : H p = none) (o : HO) : Same H (upd H p o) := fun b u q => by rw [upd_ne (ne_of_none q h)]; exact q
theorem nw {H : Hp} {p : Addr} (n : H p = none) (o : HO) : ∃ H1, H1 = upd H p o ∧ Same H H1 ∧ H1 p = some o := ⟨_, rfl, same_new n o, upd_same⟩
theorem _root_.L2.Same.tp {K : PySem.W.Frag} {H H' : Hp} {a : Addr} {xs : List V} (e : Same H H') (h : SqT K H a xs) : SqT K H' a xs := by
  rcases h with (h | ⟨o, h⟩) | h
  · exact .inl (.inl (e _ _ h))
  · exact .inl (.inr ⟨o, e _ _ h⟩)
  · exact .inr h
theorem But.tup {K : PySem.W.Frag} {H H' : Hp} {a p : Addr} {xs ys : List V} (e : But p H H') (hp : H p = some (.lst ys)) (h : SqT K H a xs) : SqT K H' a xs := by
  rcases h with (h | ⟨o, h⟩) | h
  · exact .inl (.inl (e _ _ (fun z => by rw [z, hp] at h; cases h) h))
  · exact .inl (.inr ⟨o, e _ _ (fun z => by rw [z, hp] at h; cases h) h⟩)
  · exact .inr h
theorem tupOf {K : PySem.W.Frag} {H : Hp} {a : Addr} {xs : List V} (h : H a = some (.tup xs)) : SqT K H a xs := .inl (.inl h)
theorem lstOf {K : PySem.W.Frag} {H : Hp} {a : Addr} {xs : List V} (h : H a = some (.lst xs)) : SqL K H a xs := .inl (.inl h)
/-! ### sizes -/
abbrev Sm (n : Nat) (i : Int) : Prop := i.natAbs < 2 ^ n
theorem Sm.mono {m n : Nat} {i : Int} (h : Sm m i) (l : m ≤ n) : Sm n i := Nat.lt_of_lt_of_le h (Nat.pow_le_pow_right (by decide) l)
theorem Sm.le {n : Nat} {i j : Int} (h : Sm n j) (l : i.natAbs ≤ j.natAbs) : Sm n i := Nat.lt_of_le_of_lt l h
theorem Sm.mul {m n : Nat} {i j : Int} (h : Sm m i) (l : Sm n j) : Sm (m + n) (i * j) := wide_lt h l
theorem Sm.neg {n : Nat} {i : Int} (h : Sm n i) : Sm n (-i) := by rw [Sm, Int.natAbs_neg]; exact h
theorem Sm.add {n : Nat} {i j : Int} (h : Sm n i) (l : Sm n j) : Sm (n + 1) (i + j) := by
  have := Int.natAbs_add_le i j
  unfold Sm at *
  rw [Nat.pow_succ]
  omega
theorem Sm.sub {n : Nat} {i j : Int} (h : Sm n i) (l : Sm n j) : Sm (n + 1) (i - j) := by
  rw [Int.sub_eq_add_neg]; exact h.add l.neg
theorem Sm.cmul {m n : Nat} {i j : Int} (h : Sm m i) (l : Sm n j) (h0 : 0 < m := by decide) (h1 : 0 < n := by decide) (s : m + n ≤ 1000000 := by decide) : CMulW i j := wide_mul h l h0 h1 s
theorem Sm.cdiv {n : Nat} {i j : Int} (p : 0 < j) (l : Sm n j) (h1 : 0 < n := by decide) (s : n ≤ 9000 := by decide) : CDivW i j := wide_div p l h1 s
theorem Sm.of_lt {n : Nat} {i j : Int} (h0 : 0 ≤ i) (h : i < j) (s : j.natAbs ≤ 2 ^ n) : Sm n i := by unfold Sm; omega
end Mb
namespace Mb
open PySem L2
theorem Sm.addm {m n : Nat} {i j : Int} (h : Sm m i) (l : Sm n j) : Sm (max m n + 1) (i + j) := (h.mono (Nat.le_max_left _ _)).add (l.mono (Nat.le_max_right _ _))
theorem Sm.subm {m n : Nat} {i j : Int} (h : Sm m i) (l : Sm n j) : Sm (max m n + 1) (i - j) := (h.mono (Nat.le_max_left _ _)).sub (l.mono (Nat.le_max_right _ _))
theorem Sm.lit {i : Int} (h : i.natAbs < 2 ^ 64) : Sm 64 i := h
theorem Sm.lit2 {i : Int} (h : i.natAbs < 2 ^ 512) : Sm 512 i := h
/-! ### lowest terms -/
def lowT (t b : Int) : Int := (if b < 0 then -t else t) / (Int.gcd t b : Int)
def lowB (t b : Int) : Int := (if b < 0 then -b else b) / (Int.gcd t b : Int)
theorem gcd_pos {t b : Int} (hb : b ≠ 0) : 0 < (Int.gcd t b : Int) := by
  have := Int.gcd_pos_of_ne_zero_right t hb
  omega
theorem lowB_pos {t b : Int} (hb : b ≠ 0) : 0 < lowB t b := by
  unfold lowB
  have g := gcd_pos (t := t) hb
  have d : (Int.gcd t b : Int) ∣ (if b < 0 then -b else b) := by
    split
    · exact (Int.dvd_neg).mpr (Int.gcd_dvd_right t b)
    · exact Int.gcd_dvd_right t b
  have p : 0 < (if b < 0 then -b else b) := by split <;> omega
  exact Int.ediv_pos_of_pos_of_dvd p (by omega) d
theorem ediv_abs {x g : Int} (hg : 0 < g) (d : g ∣ x) : (x / g).natAbs ≤ x.natAbs := by
  obtain ⟨k, rfl⟩ := d
  rw [Int.mul_ediv_cancel_left k (by omega), Int.natAbs_mul]
  have : 1 ≤ g.natAbs := by omega
  calc k.natAbs = 1 * k.natAbs := by rw [Nat.one_mul]
    _ ≤ g.natAbs * k.natAbs := Nat.mul_le_mul_right _ this
theorem lowT_le {t b : Int} (hb : b ≠ 0) : (lowT t b).natAbs ≤ t.natAbs := by
  unfold lowT
  have g := gcd_pos (t := t) hb
  have d : (Int.gcd t b : Int) ∣ (if b < 0 then -t else t) := by
    split
    · exact (Int.dvd_neg).mpr (Int.gcd_dvd_left t b)
    · exact Int.gcd_dvd_left t b
  have := ediv_abs g d
  split at this <;> split <;> simp_all
theorem lowB_le {t b : Int} (hb : b ≠ 0) : (lowB t b).natAbs ≤ b.natAbs := by
  unfold lowB
  have g := gcd_pos (t := t) hb
  have d : (Int.gcd t b : Int) ∣ (if b < 0 then -b else b) := by
    split
    · exact (Int.dvd_neg).mpr (Int.gcd_dvd_right t b)
    · exact Int.gcd_dvd_right t b
  have := ediv_abs g d
  split at this <;> split <;> simp_all
theorem low_gcd {t b : Int} (hb : b ≠ 0) : Int.gcd (lowT t b) (lowB t b) = 1 := by
  have g : 0 < Int.gcd t b := Int.gcd_pos_of_ne_zero_right t hb
  have key : ∀ x y : Int, Int.gcd x y = Int.gcd t b → Int.gcd (x / (Int.gcd t b : Int)) (y / (Int.gcd t b : Int)) = 1 := by
    intro x y e
    rw [← e]
    rw [← e] at g
    exact Int.gcd_ediv_gcd_ediv_gcd g
  unfold lowT lowB
  split
  · exact key _ _ (by rw [Int.neg_gcd, Int.gcd_neg])
  · exact key _ _ rfl
theorem low_cross {t b : Int} (hb : b ≠ 0) : lowT t b * b = t * lowB t b := by
  have g := gcd_pos (t := t) hb
  obtain ⟨x, hx⟩ := Int.gcd_dvd_left t b
  obtain ⟨y, hy⟩ := Int.gcd_dvd_right t b
  have eT : ∀ s : Int, s = (Int.gcd t b : Int) * x → s / (Int.gcd t b : Int) = x := fun s e => by rw [e, Int.mul_ediv_cancel_left _ (by omega)]
  have eB : ∀ s : Int, s = (Int.gcd t b : Int) * y → s / (Int.gcd t b : Int) = y := fun s e => by rw [e, Int.mul_ediv_cancel_left _ (by omega)]
  unfold lowT lowB
  by_cases h : b < 0
  · rw [if_pos h, if_pos h]
    rw [show -t = (Int.gcd t b : Int) * (-x) by rw [Int.mul_neg, ← hx], show -b = (Int.gcd t b : Int) * (-y) by rw [Int.mul_neg, ← hy], Int.mul_ediv_cancel_left _ (by omega), Int.mul_ediv_cancel_left _ (by omega)]
    have e1 : b = (Int.gcd t b : Int) * y := hy
    have e2 : t = (Int.gcd t b : Int) * x := hx
    generalize (Int.gcd t b : Int) = q at *
    subst e1 e2
    simp only [Int.neg_mul, Int.mul_neg, Int.mul_assoc, Int.mul_comm, Int.mul_left_comm]
  · rw [if_neg h, if_neg h, eT t hx, eB b hy]
    have e1 : b = (Int.gcd t b : Int) * y := hy
    have e2 : t = (Int.gcd t b : Int) * x := hx
    generalize (Int.gcd t b : Int) = q at *
    subst e1 e2
    simp only [Int.mul_assoc, Int.mul_comm, Int.mul_left_comm]
theorem cop_dvd {u t y : Int} (g : Int.gcd t u = 1) (d : u ∣ t * y) : u ∣ y := by
  have d1 : u.natAbs ∣ t.natAbs * y.natAbs := by rw [← Int.natAbs_mul]; exact Int.natAbs_dvd_natAbs.mpr d
  have c : Nat.Coprime u.natAbs t.natAbs := by rw [Nat.coprime_comm]; exact g
  exact Int.natAbs_dvd_natAbs.mp (c.dvd_of_dvd_mul_left d1)
/-- one worth has one form in lowest terms -/
theorem frac_unique {t u x y : Int} (hu : 0 < u) (hy : 0 < y) (g1 : Int.gcd t u = 1) (g2 : Int.gcd x y = 1) (e : t * y = x * u) : t = x ∧ u = y := by
  have d1 : u ∣ y := cop_dvd g1 ⟨x, by rw [e, Int.mul_comm]⟩
  have d2 : y ∣ u := cop_dvd g2 ⟨t, by rw [← e, Int.mul_comm]⟩
  have e2 : u = y := Int.dvd_antisymm (by omega) (by omega) d1 d2
  subst e2
  exact ⟨Int.eq_of_mul_eq_mul_right (by omega) e, rfl⟩
theorem low_eq {a b t u : Int} (hb : b ≠ 0) (hu : 0 < u) (g : Int.gcd t u = 1) (e : a * u = t * b) : lowT a b = t ∧ lowB a b = u := by
  refine frac_unique (lowB_pos hb) hu (low_gcd hb) g ?_
  have c := low_cross (t := a) hb
  apply Int.eq_of_mul_eq_mul_right hb
  calc lowT a b * u * b = lowT a b * b * u := by simp only [Int.mul_assoc, Int.mul_comm, Int.mul_left_comm]
    _ = a * lowB a b * u := by rw [c]
    _ = a * u * lowB a b := by simp only [Int.mul_assoc, Int.mul_comm, Int.mul_left_comm]
    _ = t * b * lowB a b := by rw [e]
    _ = t * lowB a b * b := by simp only [Int.mul_assoc, Int.mul_comm, Int.mul_left_comm]
theorem fdiv_exact {x g : Int} (d : g ∣ x) (c : Bool) : x.fdiv (if c then -g else g) = (if c then -x else x) / g := by
  cases c with
  | false => exact Int.fdiv_eq_ediv_of_dvd d
  | true =>
    show x.fdiv (-g) = -x / g
    rw [Int.fdiv_eq_ediv_of_dvd (Int.neg_dvd.mpr d), Int.ediv_neg, Int.neg_ediv_of_dvd d]
theorem gcd_step {x y : Int} (hx : 0 ≤ x) (hy : 0 < y) : Int.gcd y (x % y) = Int.gcd x y := by
  have e : ∃ m n : Nat, x = m ∧ y = n := ⟨x.toNat, y.toNat, by omega, by omega⟩
  obtain ⟨m, n, rfl, rfl⟩ := e
  have c : ((m : Int) % (n : Int)) = ((m % n : Nat) : Int) := by norm_cast
  rw [c, Int.gcd_natCast_natCast, Int.gcd_natCast_natCast, Nat.gcd_comm n, ← Nat.gcd_rec, Nat.gcd_comm]
theorem gcd_sm {t b : Int} {n : Nat} (hb : b ≠ 0) (sb : Sm n b) : Sm n (Int.gcd t b : Int) := sb.le (by
  have : (Int.gcd t b : Int) ∣ b := Int.gcd_dvd_right t b
  have := Int.le_of_dvd (show 0 < (b.natAbs : Int) by omega) (Int.dvd_natAbs.mpr this)
  omega)
end Mb
namespace Mb
open PySem L2
/-! ### promises of the law's own drawing -/
/-- a pool of draws at p: three numbers, the second from 0 to b -/
def Pl (H : Hp) (p : Addr) (b : Int) : Prop := ∃ x y z : Int, H p = some (.lst [.int x, .int y, .int z]) ∧ 0 ≤ y ∧ y ≤ b
theorem Pl.mono {H : Hp} {p : Addr} {b c : Int} (h : Pl H p b) (l : b ≤ c) : Pl H p c := by
  obtain ⟨x, y, z, h1, h2, h3⟩ := h
  exact ⟨x, y, z, h1, h2, by omega⟩
theorem Pl.same {H H' : Hp} {p : Addr} {b : Int} (h : Pl H p b) (s : Same H H') : Pl H' p b := by
  obtain ⟨x, y, z, h1, h2, h3⟩ := h
  exact ⟨x, y, z, s _ _ h1, h2, h3⟩
theorem Pl.but {H H' : Hp} {p q : Addr} {b : Int} (h : Pl H p b) (n : p ≠ q) (s : But q H H') : Pl H' p b := by
  obtain ⟨x, y, z, h1, h2, h3⟩ := h
  exact ⟨x, y, z, s _ _ n h1, h2, h3⟩
theorem Pl.tup {K : PySem.W.Frag} {H H' : Hp} {a p : Addr} {b : Int} {xs : List V} (h : Pl H p b) (s : But p H H') (t : SqT K H a xs) : SqT K H' a xs := by
  obtain ⟨x, y, z, h1, _⟩ := h
  exact s.tup h1 t
def spPool (K : PySem.W.Frag) : Sp := fun vs H Q _ => ∃ (a : Addr) (ns : List Int) (i : Int), vs = [.ref a, .int i] ∧ SqL K H a (ns.map V.int) ∧ ns.length ≤ 63 ∧ 0 ≤ i ∧ i ≤ 1000 ∧
  ∀ (p : Addr) (H' : Hp), Same H H' → H p = none → Pl H' p 1000000 → Q (.ref p) H'
def spTake : Sp := fun vs H Q _ => ∃ (p : Addr) (k b : Int), vs = [.ref p, .int k] ∧ Pl H p b ∧ b ≤ 2000000 ∧ 1 ≤ k ∧ k ≤ 1000000 ∧
  ∀ (r : Int) (H' : Hp), But p H H' → Pl H' p (b + 1) → 0 ≤ r → r < k → Q (.int r) H'
def spGcd : Sp := fun vs H Q _ => ∃ a b : Int, vs = [.int a, .int b] ∧ Q (.int (Int.gcd a b)) H
def spLow : Sp := fun vs H Q _ => ∃ t b : Int, vs = [.int t, .int b] ∧ b ≠ 0 ∧ Sm 8000 b ∧
  ∀ (p : Addr) (H' : Hp), Same H H' → H p = none → H' p = some (.tup [.int (lowT t b), .int (lowB t b)]) → Q (.ref p) H'
/-- a number of the pool, from 0 on, below 2 ^ 210 -/
def spNumber : Sp := fun vs H Q _ => ∃ (p : Addr) (b : Int), vs = [.ref p] ∧ Pl H p b ∧ b ≤ 1900000 ∧
  ∀ (r : Int) (H' : Hp), But p H H' → Pl H' p (b + 100) → 0 ≤ r → Sm 210 r → Q (.int r) H'
/-- a fraction: its two numbers, in lowest terms -/
structure Fr (t u : Int) : Prop where
  pos : 0 < u
  one : Int.gcd t u = 1
  st : Sm 211 t
  su : Sm 211 u
def spWide : Sp := fun vs H Q _ => ∃ (p : Addr) (b : Int), vs = [.ref p] ∧ Pl H p b ∧ b ≤ 1800000 ∧
  ∀ (q : Addr) (t u : Int) (H' : Hp), But p H H' → Pl H' p (b + 300) → H' q = some (.tup [.int t, .int u]) → Fr t u → Q (.ref q) H'
def spPair (K : PySem.W.Frag) : Sp := fun vs H Q _ => ∃ (a : Addr) (ns : List Int) (i : Int), vs = [.ref a, .int i] ∧ SqL K H a (ns.map V.int) ∧ ns.length ≤ 63 ∧ 0 ≤ i ∧ i ≤ 900 ∧
  ∀ (r p q : Addr) (t u x y : Int) (H' : Hp), Same H H' → H' r = some (.tup [.ref p, .ref q]) → SqT K H' p [.int t, .int u] → SqT K H' q [.int x, .int y] → Fr t u → Fr x y → Q (.ref r) H'
def spAsked (K : PySem.W.Frag) : Sp := fun vs H Q _ => ∃ (a : Addr) (ns : List Int) (i : Int), vs = [.ref a, .int i] ∧ SqL K H a (ns.map V.int) ∧ ns.length ≤ 63 ∧ 0 ≤ i ∧ i ≤ 900 ∧ ∀ H', Same H H' → Q (.bl true) H'
def spLaw (K : PySem.W.Frag) : Sp := fun vs H Q _ => ∃ (a : Addr) (ns : List Int), vs = [.ref a] ∧ SqL K H a (ns.map V.int) ∧ ns.length ≤ 63 ∧ ∀ H', Q (.bl true) H'
end Mb
namespace Mb
open PySem L2
/-! ### promises of what reckons with fractions -/
def spArith (K : PySem.W.Frag) (T B : Int → Int → Int → Int → Int) : Sp := fun vs H Q _ => ∃ (a b : Addr) (x y u v : Int), vs = [.ref a, .ref b] ∧ SqT K H a [.int x, .int y] ∧ SqT K H b [.int u, .int v] ∧ Sm 2000 x ∧ Sm 2000 y ∧ Sm 2000 u ∧ Sm 2000 v ∧ B x y u v ≠ 0 ∧
  ∀ (p : Addr) (H' : Hp), Same H H' → H p = none → H' p = some (.tup [.int (lowT (T x y u v) (B x y u v)), .int (lowB (T x y u v) (B x y u v))]) → Q (.ref p) H'
def spRaw (K : PySem.W.Frag) (T B : Int → Int → Int → Int → Int) : Sp := fun vs H Q _ => ∃ (a b : Addr) (x y u v : Int), vs = [.ref a, .ref b] ∧ SqT K H a [.int x, .int y] ∧ SqT K H b [.int u, .int v] ∧ Sm 2000 x ∧ Sm 2000 y ∧ Sm 2000 u ∧ Sm 2000 v ∧
  ∀ (p : Addr) (H' : Hp), Same H H' → H p = none → H' p = some (.tup [.int (T x y u v), .int (B x y u v)]) → Q (.ref p) H'
def spEven (K : PySem.W.Frag) : Sp := fun vs H Q _ => ∃ (a b : Addr) (x y u v : Int), vs = [.ref a, .ref b] ∧ SqT K H a [.int x, .int y] ∧ SqT K H b [.int u, .int v] ∧ Sm 5000 x ∧ Sm 5000 y ∧ Sm 5000 u ∧ Sm 5000 v ∧ Q (.bl (decide (x * v = u * y))) H
def spWhole : Sp := fun vs H Q _ => ∃ i : Int, vs = [.int i] ∧ Q (.bl true) H
def spIsFrac : Sp := fun vs H Q _ => ∃ (p : Addr) (t u : Int), vs = [.ref p] ∧ H p = some (.tup [.int t, .int u]) ∧ 0 < u ∧ Int.gcd t u = 1 ∧ Q (.bl true) H
end Mb
namespace Mb
open PySem L2
/-! ### defs that may raise -/
structure KnX (P : Program) (w : World) (K : PySem.W.Frag) (mg : Str → Option Value) (base : Heap) (k : Nat) (x : Str) (ps : List Str) (sp : Sp) : Prop where
  ex : ∃ f fd, FnOk P w K mg base (L2.CX P w) k f fd ps sp ∧ mg x = some (.ref f) ∧ PySem.W.keepIn K (.ref f) = true ∧ Binds K fd ps []
section
variable {X : Cx} {k : Nat} {x : Str} {ps : List Str} {sp : Sp} {e : Expr} {es : List Expr} {p pos : Pos} {t : TA}
/-- a call that is known not to raise -/
theorem pe_knX (G : KnX X.prog X.w X.K X.mg X.base k x ps sp) (hr : Room k X.A) (hg : Gl X x)
    (ha : PA X (e :: es) t) (hdb : (x == ("__debug__" : Str)) = false := by decide) (he : starEach (e :: es) X.env = (false, eval e X.env) :: starEach es X.env := by rfl) (hpl : (backTo pos (starEach es X.env)).any (·.1) = false := by rfl) :
    PE X (.Call (.Name x p) (e :: es) [] pos) (tCall sp [] E0 t) := by
  obtain ⟨f, fd, F, m, kp, b⟩ := G.ex
  exact pe_call F hr hg m kp b .nil passL ha hdb he hpl
/-- a call in a def that lets out what it raises -/
theorem pe_knXX {E : XK} (tk : Takes X (fun cls d _ H => E cls d H)) (G : KnX X.prog X.w X.K X.mg X.base k x ps sp) (hr : Room k X.A) (hg : Gl X x)
    (ha : PA X (e :: es) t) (hdb : (x == ("__debug__" : Str)) = false := by decide) (he : starEach (e :: es) X.env = (false, eval e X.env) :: starEach es X.env := by rfl) (hpl : (backTo pos (starEach es X.env)).any (·.1) = false := by rfl) :
    PE X (.Call (.Name x p) (e :: es) [] pos) (tCall sp [] E t) := by
  obtain ⟨f, fd, F, m, kp, b⟩ := G.ex
  exact pe_call F hr hg m kp b .nil (passes_call tk fun _ _ _ _ h => h) ha hdb he hpl
/-- a call in a try's body -/
theorem pe_knS {W : WX} (tk : Takes X W) (G : KnX X.prog X.w X.K X.mg X.base k x ps sp) (hr : Room k X.A) (hg : Gl X x)
    (ha : PA X (e :: es) t) (hdb : (x == ("__debug__" : Str)) = false := by decide) (he : starEach (e :: es) X.env = (false, eval e X.env) :: starEach es X.env := by rfl) (hpl : (backTo pos (starEach es X.env)).any (·.1) = false := by rfl) :
    PE X (.Call (.Name x p) (e :: es) [] pos) (tCallS sp (WE W) t) := by
  obtain ⟨f, fd, F, m, kp, b⟩ := G.ex
  exact pe_callS F hr hg m kp b (fun σ => passAt tk σ) ha hdb he hpl
end
theorem Fn.knX {P : Program} {w : World} {K : PySem.W.Frag} {mg : Str → Option Value} {base : Heap} {k : Nat} {x : Str} {st : Stmt} {N ps : List Str} {sp : Sp} (F : Fn K mg x st) (S : FnScope N ps (defScope st)) (len : ∀ vs H Q E, sp vs H Q E → vs.length = ps.length)
    (hbody : ∀ (f : Addr) (cdv : Value) (A : Around) (outer : List Env) (s : Shared) (H : Hp) (vs : List V) (Q : VK) (E : XK), Room k (A.deeper (PyProof.Rows.envOfC x (defScope st) s.heap.objs.size f cdv)) → sp vs H Q E →
      ∃ t, PSs (cxOf (L2.CX P w) P w K mg base N x (defScope st) f cdv A outer s H E) (defBody st) t ∧ t { nx := fun _ H' => Q .non H', rt := Q } (start N vs) H)
    (hb : ∀ (kV doc pm : Value) (an : Option Addr) (cdv ct : Value) (us : List Value), us.length = ps.length → bindArgs (PySem.W.fnOf x x (defArgs st) (defBody st) (defScope st) .none kV doc pm an cdv ct) ⟨us, []⟩ = pure (ps.zip us)) :
    KnX P w K mg base (k + 1) x ps sp := by
  obtain ⟨f, fd, F, m⟩ := F.ex
  exact ⟨f, fd, F.ok S len fun cdv A outer s H vs Q E hr h => hbody f cdv A outer s H vs Q E hr h, m, F.kp, F.bindsN hb⟩
/-! ### an own error class without arguments -/
structure XCls (K : PySem.W.Frag) (mg : Str → Option Value) (x : Str) (C : Addr) : Prop where
  g : mg x = some (.ref C)
  q : PySem.W.excIn K C He.veBase "ValueError.__new__" = true
  k : PySem.W.keepIn K (.ref C) = true
  b : PySem.W.subIn K (.ref C) (.type "BaseException") = some true
  t : PySem.W.typeIn K (.ref C) = some (.type "type")
theorem pmk_own0 {X : Cx} {x : Str} {C : Addr} {p pos : Pos} (T : XCls X.K X.mg x C) (hg : Gl X x) (hdb : (x == ("__debug__" : Str)) = false := by decide) :
    PMk X (.Call (.Name x p) [] [] pos) (fun _ H Q => Q (.ref C) none H) := by
  intro pins s σ H Q I h
  refine wpAny_Call_Name_kw (ld_glob I hg T.g ?_ hdb)
  obtain ⟨bm, N, nm, qn, bs, hdct, sn, sub, ab, col, dd, k0, k1, k2, k3, k5, mN, hC, hN, hni, TT⟩ := exc_obj I.kIn T.q
  obtain ⟨hp1, g1, d1, tk1, os1⟩ := s
  exact PySem.W.callWith_K0 I.kIn T.k (wpAny_call_exc_subT PySem.F.excBase_ValueError TT hC hN hni (fun h1 a mk => mk_of I mk (raises_own T.b T.t) h (I.hok.gone mk.new)) (Nat.zero_le _))
/-! ### a reading that holds under a condition -/
theorem pss_when {X : Cx} {sts : List Stmt} {p : Prop} {t : TS} (h : p → PSs X sts t) : PSs X sts (fun D σ H => p ∧ t D σ H) := ⟨fun pins s σ H D I q => (h q.1).run pins s σ H D I q.2⟩
/-! ### except clauses, with and without a name, one after the other -/
inductive Hds (X : Cx) (Wout : WX) : List ExceptHandler → (Ends → WX) → Prop
  | nil : Hds X Wout [] (fun _ => Wout)
  | plain {x : Str} {c : Value} {ts : Addr → Value → Option Addr → TS} {b0 : Stmt} {su : List Stmt} {np pq : Pos} {hds : List ExceptHandler} {w : Ends → WX} (hc : Names X x c)
      (hsu : ∀ (a : Addr) (oe : Obj) (cls : Value) (d : Option Addr) (pn : List (Addr × Obj)), Zc cls d oe → (∃ vs, oe.data = .fields vs) → PSs (X.suite a ((a, oe) :: pn)) (b0 :: su) (ts a cls d)) (r : Hds X Wout hds w) :
      Hds X Wout (.ExceptHandler (some (.Name x np)) none (b0 :: su) pq :: hds) (fun D cls d σ H => ∃ b, PySem.W.exmOne X.K cls c = some b ∧ (b = true → ∀ a, H a = none → ts a cls d D σ H) ∧ (b = false → w D cls d σ H))
  | named {x n : Str} {i : Nat} {c : Value} {ts : Addr → Value → Option Addr → TS} {b0 : Stmt} {su : List Stmt} {np pq : Pos} {hds : List ExceptHandler} {w : Ends → WX} (hN : X.N.Nodup) (hi : X.N[i]? = some n) (hln : X.env.kindOf n = some .local) (hc : Names X x c)
      (hsu : ∀ (a : Addr) (oe : Obj) (cls : Value) (d : Option Addr) (pn : List (Addr × Obj)), Zc cls d oe → (∃ vs, oe.data = .fields vs) → PSs (X.suite a ((a, oe) :: pn)) (b0 :: su) (ts a cls d)) (r : Hds X Wout hds w) :
      Hds X Wout (.ExceptHandler (some (.Name x np)) (some n) (b0 :: su) pq :: hds)
        (fun D cls d σ H => ∃ b, PySem.W.exmOne X.K cls c = some b ∧ (b = true → ∀ a, H a = none → ts a cls d { nx := fun σ1 H1 => D.nx (σ1.set i none) H1, rt := D.rt, bk := fun σ1 H1 => D.bk (σ1.set i none) H1, ct := fun σ1 H1 => D.ct (σ1.set i none) H1 } (σ.set i (some (.ref a))) H) ∧ (b = false → w D cls d σ H))
section
variable {X : Cx} {body : List Stmt} {h0 : ExceptHandler} {hds : List ExceptHandler} {w : Ends → WX} {pos : Pos} {tb : WX → TS} {Wout : WX}
theorem ps_try_hs (hs : X.stack = X.env :: X.outer) (hf : X.env.frame = some X.env.locals) (tk : Takes X Wout)
    (hb : ∀ (W : WX) (pn : List (Addr × Obj)) (xe : Value → Shared → Prop), Takes (X.tr pn xe) W → PSs (X.tr pn xe) body (tb W)) (hh : Hds X Wout (h0 :: hds) w) : PS X (.Try body (h0 :: hds) [] [] pos) (fun D σ H => tb (w D) D σ H) := by
  constructor
  intro pins s σ H D I q
  have ok := I.ok
  have hfr : X.A.frames = some (X.env :: X.outer) := hs ▸ ok.frames
  refine wpAny_Try_except (wpAny_mono ((hb (w D) (X.pn ++ pins) _ ?caught).run [] s σ H D (I.toTry _) q) ?back fun _ _ z => z)
  case back =>
    intro fl s1 z
    cases fl with
    | ret u => obtain ⟨v, σ1, H1, J, r, z⟩ := z; exact ⟨v, σ1, H1, J.ofTry ok, r, z⟩
    | cont => obtain ⟨σ1, H1, J, z⟩ := z; exact ⟨σ1, H1, J.ofTry ok, z⟩
    | brk => obtain ⟨σ1, H1, J, z⟩ := z; exact ⟨σ1, H1, J.ofTry ok, z⟩
    | next => obtain ⟨σ1, H1, J, z⟩ := z; exact wpAny_execs_nil ⟨σ1, H1, J.ofTry ok, z⟩
  case caught =>
    rintro u sx ⟨a, B, sI, pins1, σ1, H1, cls, d, rfl, J0, nb, up, sky, na, os, ag, wish⟩
    have J : Inv X pins σ1 H1 sI := J0.ofTry ok
    have skyX : Sky B (X.env :: X.outer) a (Zc cls d) X.env.locals sx.heap := hs ▸ sky
    show wpAny (model X.prog X.w) X.A (noteFrame (.ref a) X.env) _ _ _
    refine Sky.land Zc.steady hfr hf skyX fun hp fly upp => ?_
    have Jl : Inv X pins σ1 H1 { sx with heap := hp } := J.landed nb fly.1 (up.trans upp) os ag
    obtain ⟨ob, vs, hob, hz, hdat⟩ := fly.there
    have nfr : a ∉ frs (X.env :: X.outer) := fun hm => by
      obtain ⟨_, o1, e1, hnf⟩ := fly.2.2.1.mem hm
      rw [hob] at e1
      cases e1
      exact hnf _ hdat
    have nL : a ≠ X.env.locals := fun z => nfr (List.mem_filterMap.mpr ⟨X.env, List.mem_cons_self, by rw [hf, z]⟩)
    have nF : a ∉ X.fs := fun hm => by
      obtain ⟨en, hen, z⟩ := List.mem_filterMap.mp hm
      exact nfr (List.mem_filterMap.mpr ⟨en, List.mem_cons_of_mem _ hen, z⟩)
    have Su := Jl.suite hob hdat na nL nF
    have ask : ∀ {x : Str} {c : Value} {np : Pos} {Q : Value → Shared → Prop} {E : Value → Shared → Prop}, Names X x c → Q c { sx with heap := hp } → wpAny (model X.prog X.w) (X.A.mark (some (.ref a))) (eval (.Name x np) X.env) Q E { sx with heap := hp } := fun hc z => by
      obtain ⟨hg, hdbg, hm | ⟨hm, hv, hnn⟩⟩ := hc
      · exact ld_glob (X := X.suite a ((a, ob) :: (X.pn ++ pins))) Su hg hm z hdbg
      · exact ld_blt (X := X.suite a ((a, ob) :: (X.pn ++ pins))) Su hg hm hv z hnn hdbg
    have LT : PySem.W.Looks (model X.prog X.w) hp (typeOf (.ref a)) cls := fun _ _ _ _ kp z => wpAny_typeOf_ref (kp _ _ hob) (by rw [hz.1]; exact z)
    have go : ∀ {hs1 : List ExceptHandler} {w1 : Ends → WX}, Hds X Wout hs1 w1 → w1 D cls d σ1 H1 → wpAny (model X.prog X.w) X.A (handleBy (.ref a) X.env hs1) (SP X pins D) X.xe { sx with heap := hp } := by
      intro hs1 w1 hk
      induction hk with
      | nil =>
        intro z
        refine wpAny_handleBy_nil ?_
        obtain ⟨f1, f2, f3, oe, vs1, T, oT, tr, e1, e2, e3, e4, e5⟩ := id fly
        unfold PySem.passOn
        refine wpAny_bind (wpAny_field e1 e3 e4 ?_)
        rw [if_neg (by simp : ¬ ((Value.ref T == Value.none) = true))]
        have out : wpAny (model X.prog X.w) X.A (setFlight (.ref a) X.env.frame) (fun _ s4 => wpAny (model X.prog X.w) X.A (throw (.ref a) : Sem Flow) (SP X pins D) X.xe s4) X.xe { sx with heap := hp } := by
          rw [hf]
          exact HandSPX.setFlight_upZ fly fun h4 held up4 => wpAny_throw (tk _ _ ⟨a, B, sI, pins, σ1, H1, cls, d, rfl, J, nb, (up.trans upp).trans up4, .inr (.inr (hs ▸ held)), na, os, ag, z⟩)
        first
          | exact wpAny_bind out
          | exact wpAny_bind (wpAny_pure (wpAny_bind out))
      | @plain x c ts b0 su np pq hd2 w2 hc hsu r ih =>
        rintro ⟨b, hb1, yes, no⟩
        refine wpAny_handleBy_cons (codeAny_handlers_test (ask hc ((PySem.W.exm_one (M := model X.prog X.w) Jl.kIn LT hb1).here ?_))) (by intro z; cases z)
        cases b with
        | false => exact ih (no rfl)
        | true =>
          refine codeAny_handlers_suite (HandSPX.lands_againZ fly fun h4 fly4 up4 => ?_)
          have J4 : Inv X pins σ1 H1 { sx with heap := h4 } := J.landed nb fly4.1 ((up.trans upp).trans up4) os ag
          obtain ⟨o4, vs4, e4, z4, d4⟩ := fly4.there
          refine wpAny_mono ((hsu a o4 cls d (X.pn ++ pins) z4 ⟨_, d4⟩).run [] _ _ H1 _ (J4.suite e4 d4 na nL nF) (yes rfl a na)) ?_ fun _ _ z => False.elim z
          intro fl s6 z
          cases fl with
          | ret u => obtain ⟨v, σ6, H6, S6, r6, z⟩ := z; exact ⟨_, _, _, S6.unsuite ok, r6, z⟩
          | cont => obtain ⟨σ6, H6, S6, z⟩ := z; exact ⟨_, _, S6.unsuite ok, z⟩
          | brk => obtain ⟨σ6, H6, S6, z⟩ := z; exact ⟨_, _, S6.unsuite ok, z⟩
          | next => obtain ⟨σ6, H6, S6, z⟩ := z; exact ⟨_, _, S6.unsuite ok, z⟩
      | @named x n i c ts b0 su np pq hd2 w2 hN hi hln hc hsu r ih =>
        rintro ⟨b, hb1, yes, no⟩
        refine wpAny_handleBy_cons (codeAny_handlers_test (ask hc ((PySem.W.exm_one (M := model X.prog X.w) Jl.kIn LT hb1).here ?_))) (by intro z; cases z)
        cases b with
        | false => exact ih (no rfl)
        | true =>
          refine codeAny_handlers_suite_as (HandSPX.lands_againZ fly fun h4 fly4 up4 => ?_)
          have J4 : Inv X pins σ1 H1 { sx with heap := h4 } := J.landed nb fly4.1 ((up.trans upp).trans up4) os ag
          obtain ⟨o4, vs4, e4, z4, d4⟩ := fly4.there
          have S4 := J4.suite e4 d4 na nL nF
          refine store_ok (X := X.suite a ((a, o4) :: (X.pn ++ pins))) (v := .ref a) S4 hN hi (.inl hln) rfl (fun s5 S5 => ?_) (.inr hln)
          refine wpAny_mono ((hsu a o4 cls d (X.pn ++ pins) z4 ⟨_, d4⟩).run [] s5 _ H1 _ S5 (yes rfl a na)) ?_ fun _ _ z => False.elim z
          intro fl s6 z
          cases fl with
          | ret u => obtain ⟨v, σ6, H6, S6, r6, z⟩ := z; exact gone_ok (S6.unsuite ok) hN hi hln fun _ J7 => ⟨_, _, _, J7, r6, z⟩
          | cont => obtain ⟨σ6, H6, S6, z⟩ := z; exact gone_ok (S6.unsuite ok) hN hi hln fun _ J7 => ⟨_, _, J7, z⟩
          | brk => obtain ⟨σ6, H6, S6, z⟩ := z; exact gone_ok (S6.unsuite ok) hN hi hln fun _ J7 => ⟨_, _, J7, z⟩
          | next => obtain ⟨σ6, H6, S6, z⟩ := z; exact gone_ok (S6.unsuite ok) hN hi hln fun _ J7 => ⟨_, _, J7, z⟩
    exact go hh wish
end
theorem r_callS {σ : St} {H : Hp} {Q : VK} {sp : Sp} {E : St → XK} {t : TA} (q : t σ H fun vs H1 => sp vs H1 Q (E σ)) : tCallS sp E t σ H Q := q
/-! ### promises of defs that may raise: C is the class of the error -/
def spFracX (C : Addr) : Sp := fun vs H Q E => ∃ t b : Int, vs = [.int t, .int b] ∧ Sm 8000 b ∧ (b = 0 → E (.ref C) none H) ∧
  (b ≠ 0 → ∀ (p : Addr) (H' : Hp), Same H H' → H p = none → H' p = some (.tup [.int (lowT t b), .int (lowB t b)]) → Q (.ref p) H')
def spOverX (K : PySem.W.Frag) (C : Addr) : Sp := fun vs H Q E => ∃ (a b : Addr) (x y u v : Int), vs = [.ref a, .ref b] ∧ SqT K H a [.int x, .int y] ∧ SqT K H b [.int u, .int v] ∧ Sm 2000 x ∧ Sm 2000 y ∧ Sm 2000 u ∧ Sm 2000 v ∧
  (y * u = 0 → E (.ref C) none H) ∧ (y * u ≠ 0 → ∀ (p : Addr) (H' : Hp), Same H H' → H p = none → H' p = some (.tup [.int (lowT (x * v) (y * u)), .int (lowB (x * v) (y * u))]) → Q (.ref p) H')
/-! ### facts of the written part -/
def eqV (a b : Option Bool) : Bool := decide (a = b)
/-- what isinstance asks of an own error's class -/
def excCB (K : PySem.W.Frag) (x : Str) : Bool :=
  He.eqO (PySem.W.findIn K (.ref (He.ga K x)) "__getattribute__") (some (some (.builtin "BaseException.__getattribute__"))) && (He.eqO (PySem.W.findIn K (.ref (He.ga K x)) "__getattr__") (some none) &&
  (eqV (PySem.W.subIn K (.ref (He.ga K x)) (.type "BaseException")) (some true) && (PySem.W.hasDictIn K (He.ga K x) && (He.eqO (PySem.W.findIn K (.ref (He.ga K x)) "__class__") (some (some (.builtin "object.__class__"))) &&
  (He.eqO (PySem.W.specialIn K (.builtin "object.__class__") "__get__") (some (some (.builtin "getset_descriptor.__get__"))) && (eqV (PySem.W.takesIn K (.builtin "object.__class__")) (some true) && eqV (PySem.W.mroIn K (He.ga K x) (.type "object")) (some true)))))))
theorem excCB_ok {K : PySem.W.Frag} {x : Str} (h : excCB K x = true) : ExcC K (He.ga K x) := by
  obtain ⟨h1, h⟩ := He.ba h
  obtain ⟨h2, h⟩ := He.ba h
  obtain ⟨h3, h⟩ := He.ba h
  obtain ⟨h4, h⟩ := He.ba h
  obtain ⟨h5, h⟩ := He.ba h
  obtain ⟨h6, h⟩ := He.ba h
  obtain ⟨h7, h8⟩ := He.ba h
  exact ⟨He.eqO_ok h1, He.eqO_ok h2, of_decide_eq_true h3, h4, He.eqO_ok h5, He.eqO_ok h6, of_decide_eq_true h7, of_decide_eq_true h8⟩
/-- whether an error of the class x is one of the class y -/
def kitIs (K : PySem.W.Frag) (x y : Str) (b : Bool) : Bool := eqV (PySem.W.kitOne K (.ref (He.ga K x)) (.ref (He.ga K y))) (some b)
theorem kitIs_ok {K : PySem.W.Frag} {x y : Str} {b : Bool} (h : kitIs K x y b = true) : PySem.W.kitOne K (.ref (He.ga K x)) (.ref (He.ga K y)) = some b := of_decide_eq_true h
theorem xcls_of {K : PySem.W.Frag} {h : Heap} {mg : Str → Option Value} (X : K.In h) (G : h.Ns mainGlobals mg) {x : Str} (c : (He.Fa.exc x).ok K = true) (g : (He.Fa.glo x).ok K = true) : XCls K mg x (He.ga K x) := by
  obtain ⟨h1, h2, h3, h4⟩ := He.exc_ok c
  exact ⟨He.glo_ok X G g, h1, h2, h3, h4⟩
/-- the head's facts with some of one's own -/
def obsXG (n : Nat) (fa : List He.Fa) (fn : List He.DefD) (xb : PySem.W.Frag → Bool) (g : Addr → Option Obj) : He.AlD × Bool := (He.obsD fa fn (He.frG g (He.asD g n ++ [cStatics])), xb (He.frG g (He.asD g n ++ [cStatics])))
def hookX (n : Nat) (fa : List He.Fa) (fn : List He.DefD) (xb : PySem.W.Frag → Bool) : PySem.W.Hook where
  α := He.AlD × Bool
  obs := fun s => obsXG n fa fn xb s.heap.get?
  val := fun _ => (He.valD fn, true)
  says := fun _ h => ∃ K : PySem.W.Frag, K.In h ∧ He.SaysD fa fn K ∧ xb K = true
  of := fun _ _ e => ⟨_, He.frG_in, congrArg Prod.fst e, congrArg Prod.snd e⟩
  keeps := fun _ _ _ ⟨K, hK, c⟩ k => ⟨K, PySem.W.Frag.In.keeps hK k, c⟩
theorem obsXG_eq {n : Nat} {fa : List He.Fa} {fn : List He.DefD} {xb : PySem.W.Frag → Bool} {g : Addr → Option Obj} {s : Shared} (h : ∀ a, g a = s.heap.get? a) : obsXG n fa fn xb g = (hookX n fa fn xb).obs s := by
  have e : g = s.heap.get? := funext h
  subst e
  rfl
end Mb
namespace Mb
open PySem L2
/-! ### errors made and held as values -/
/-- what the written part says of an own class over ValueError whose __init__ is asked by the class's name -/
structure BeI (K : PySem.W.Frag) (B : Addr) : Prop where
  ga : PySem.W.specialIn K (.ref B) "__getattribute__" = some (some (.builtin "type.__getattribute__"))
  rd : PySem.W.readsIn K B (.type "type") = true
  fc : PySem.W.findCls K (.ref B) (.type "type") "__init__" = some (.val (.builtin "ValueError.__init__"))
/-- C(e, ..) as a value, C's own __init__ keeping sp -/
def tMkV (C : Addr) (sp : Sp) (ta : TA) : TE := fun σ H Q => ta σ H fun vs H1 => vs.length ≤ 1000 ∧ ∀ a, H1 a = none → sp (.ref a :: vs) (upd H1 a (exo a C none)) (fun v H2 => v = .non ∧ Q (.ref a) H2) (fun _ _ _ => False)
section
variable {X : Cx} {e : Expr} {es : List Expr} {te : TE} {ta : TA} {x : Str} {p p1 p2 pos : Pos} {B C : Addr}
theorem pe_beinit {pl : Sem Bool} (hg : Gl X x) (hm : X.mg x = some (.ref B)) (T : BeI X.K B) (ha : PA X (e :: es) ta) (hdb : (x == ("__debug__" : Str)) = false := by decide)
    (hc : eval (.Call (.Attribute (.Name x p1) "__init__" p2) (e :: es) [] pos) X.env = (do
        let ov ← eval (.Name x p1) X.env
        standAt p2.atName
        let (f, first) ← holding [ov] (getMethod ov "__init__" pl)
        callWith pos f first (backTo pos (starEach (e :: es) X.env)) (backToKw pos (keywordEach [] X.env))) := by rfl)
    (he : starEach (e :: es) X.env = (false, eval e X.env) :: starEach es X.env := by rfl) (hpl : (backTo pos (starEach es X.env)).any (·.1) = false := by rfl) :
    PE X (.Call (.Attribute (.Name x p1) "__init__" p2) (e :: es) [] pos) (tVeI X.K ta) := by
  constructor
  intro pins s σ H Q I h
  refine PySem.W.methodCall_KW (ld_glob I hg hm ?_ hdb) hc
  refine PySem.W.method_cls I.kIn T.ga (PySem.W.cls_value I.kIn T.rd T.fc (by decide +kernel) ?_)
  show wpAny _ _ (callWith pos (Value.builtin "ValueError.__init__") [] (backTo pos (starEach (e :: es) X.env)) []) _ _ _
  refine PyProof.Rows.callWith_method1 (thn (ha.run pos pins _ σ H _ (I.tok _) h) ?_) he hpl
  rintro us s1 ⟨vs, H1, I1, r1, a, C, ws, ev, hl, T, ea, q⟩
  subst ev
  cases r1 with
  | @cons _ u0 _ ur ra rr =>
    obtain rfl : u0 = Value.ref a := ra
    have hlen : ur.length ≤ sizeLine := Nat.le_of_lt (small1000 (by rw [← Paired.length rr]; exact hl))
    exact oinit_ok T I1 ea hlen fun s2 J => ⟨.non, H1, J, rfl, q⟩
theorem pe_mkO {fI : Addr} {k : Nat} {fd : FuncData} {ps : List Str} {sp : Sp} (T : OexC X.K C) (iC : PySem.W.findIn X.K (.ref C) "__init__" = some (some (.ref fI))) (tI : PySem.W.typeIn X.K (.ref fI) = some (.type "function"))
    (F1 : FnOk X.prog X.w X.K X.mg X.base CX0 k fI fd ps sp) (hr : Room (k + 1) X.A) (hb : Binds X.K fd ps []) (hg : Gl X x) (hm : X.mg x = some (.ref C)) (ha : PA X (e :: es) ta)
    (hdb : (x == ("__debug__" : Str)) = false := by decide) (he : starEach (e :: es) X.env = (false, eval e X.env) :: starEach es X.env := by rfl) (hpl : (backTo pos (starEach es X.env)).any (·.1) = false := by rfl) :
    PE X (.Call (.Name x p) (e :: es) [] pos) (tMkV C sp ta) := by
  constructor
  intro pins s σ H Q I h
  obtain ⟨nm, q, N, bs, bm, sn, sub, ab, col, dd, k0, k1, k2, k3, k5, hC, hbm⟩ := T.cls
  refine wpAny_Call_Name_kw (ld_glob I hg hm ?_ hdb)
  refine PySem.W.callWith_K (h₀ := X.base) I.ok.mod.kin T.kC (thn (ha.run pos pins s σ H _ I h) ?_) he hpl
  rintro us s1 ⟨vs, H1, I1, r1, hz, q1⟩
  refine ⟨I1.kIn, ?_⟩
  show wpAny _ _ (call (.ref C) us) _ _ _
  obtain ⟨hp, g, dr, tk, os⟩ := s1
  have hn : H1 (hp.objs.size + 1) = none := I1.hok.fresh (Nat.le_succ _)
  have hq := q1 (hp.objs.size + 1) hn
  generalize hh : (hp.push (PySem.W.kdv_tup us)).push (PySem.HandSPX.excO C hp.objs.size) = h2
  have kk : ∀ b o, hp.get? b = some o → h2.get? b = some o := fun b o z => by
    subst hh
    exact Heap.get?_push_of_some _ (Heap.get?_push_of_some _ z)
  have hget : h2.get? (hp.objs.size + 1) = some (PySem.HandSPX.excO C hp.objs.size) := by
    subst hh
    heap_get
  have I2 : Inv X pins σ (upd H1 (hp.objs.size + 1) (exo (hp.objs.size + 1) C none)) ⟨h2, g, dr, tk, os⟩ := I1.laid (t' := tk) (a := hp.objs.size + 1) (h' := h2) kk (Nat.le_succ _) (exo_ok hget)
  have r2 : Vals (V.ref (hp.objs.size + 1) :: vs) (Value.ref (hp.objs.size + 1) :: us) := .cons rfl r1
  have hl : (Value.ref (hp.objs.size + 1) :: us).length = ps.length := by
    rw [← r2.length]
    exact F1.len _ _ _ _ hq
  have hus : us.length ≤ sizeLine := Nat.le_of_lt (small1000 (by rw [← Paired.length r1]; exact hz))
  have bt := hb ⟨h2, g, dr, tk, os⟩ (Value.ref (hp.objs.size + 1) :: us) I2.kIn (by rw [List.append_nil]; exact hl)
  rw [List.append_nil] at bt
  have run := F1.run (X.A.under (.builtin "type.__call__" ⟨.ref C :: us, []⟩)) X.stack ⟨h2, g, dr, tk, os⟩ _ ⟨Value.ref (hp.objs.size + 1) :: us, []⟩ _ _ _ _ (hr.make C us []) (I2.env0.make C us []) bt r2 hq
  rw [← hh] at run
  refine wpAny_call (PySem.HandSPX.call_own F.excBase_ValueError (fun Y => PySem.HandSPX.refsVE_contains Y bm hbm) (I1.kIn _ _ hC) (PySem.W.looks_findIn I1.kIn iC) (fun self => PySem.W.bind_fn I1.kIn self tI) hus (codeAny_mono run ?_))
  intro r s2 z
  cases r with
  | error er => exact False.elim z
  | ok fl =>
    cases fl with
    | ret u =>
      obtain ⟨v, H2, os2, bare2, un2, hok2, rv, ev, q2⟩ := z
      subst ev
      rw [hh] at un2
      exact ⟨rv, .ref (hp.objs.size + 1), H2, I2.call' (ch := []) os2 un2 hok2 bare2 (fun b y => absurd y (by simp)), rfl, q2⟩
    | next => exact False.elim z
    | brk => exact False.elim z
    | cont => exact False.elim z
/-- C() as a value, C without own __init__ -/
theorem pe_exc0 (T : XCls X.K X.mg x C) (hg : Gl X x) (hdb : (x == ("__debug__" : Str)) = false := by decide) :
    PE X (.Call (.Name x p) [] [] pos) (fun _ H Q => ∀ a, H a = none → Q (.ref a) (upd H a (exo a C none))) := by
  constructor
  intro pins s σ H Q I h
  refine wpAny_Call_Name_kw (ld_glob I hg T.g ?_ hdb)
  obtain ⟨bm, N, nm, qn, bs, hdct, sn, sub, ab, col, dd, k0, k1, k2, k3, k5, mN, hC, hN, hni, TT⟩ := exc_obj I.kIn T.q
  obtain ⟨hp1, g1, d1, tk1, os1⟩ := s
  refine PySem.W.callWith_K0 I.kIn T.k (wpAny_call_exc_subT PySem.F.excBase_ValueError TT hC hN hni (fun h1 a mk => ?_) (Nat.zero_le _))
  have hn : H a = none := I.hok.gone mk.new
  obtain ⟨t, ht, _, _⟩ := mk.there
  exact ⟨.ref a, upd H a (exo a C none), I.laidN (t' := tk1) mk.keeps mk.new hn (exo_ok ht), rfl, h a hn⟩
end
/-- an error at a of the class at C, with its fields -/
def Er (H : Hp) (a C : Addr) (fs : List (Str × V)) : Prop := (fs = [] ∧ H a = some (exo a C none)) ∨ ∃ dx, H a = some (exo a C (some dx)) ∧ H dx = some (exd dx fs)
theorem Er.same {H H1 : Hp} {a C : Addr} {fs : List (Str × V)} (h : Er H a C fs) (s : Same H H1) : Er H1 a C fs := by
  rcases h with ⟨e, h⟩ | ⟨dx, h1, h2⟩
  · exact .inl ⟨e, s _ _ h⟩
  · exact .inr ⟨dx, s _ _ h1, s _ _ h2⟩
theorem Er.inst {X : Cx} {pins : List (Addr × Obj)} {σ : St} {H : Hp} {s : Shared} {a C : Addr} {fs : List (Str × V)} (I : Inv X pins σ H s) (h : Er H a C fs) :
    ∃ ox od, PySem.W.InstAt s.heap a ox C od ∧ ∀ (n : Str) (v : V), fs.lookup n = some v → ∃ o u, od = some o ∧ PySem.W.lookIn n o = some (some u) ∧ RelV v u := by
  rcases h with ⟨rfl, h⟩ | ⟨dx, h1, h2⟩
  · obtain ⟨t1, ho⟩ := exo_at I.hok h
    exact ⟨_, none, ⟨ho, rfl, rfl, trivial⟩, fun n v z => by cases z⟩
  · obtain ⟨t1, ho⟩ := exo_at I.hok h1
    obtain ⟨mA, hns, hr⟩ := exd_at I.hok h2
    obtain ⟨od, hod, hl⟩ := lookIn_ns hns
    refine ⟨_, some od, ⟨ho, rfl, rfl, hod⟩, fun n v z => ?_⟩
    obtain ⟨u, hu, ru⟩ := RelO.some_of (v := v) (o := mA n) (by rw [← z]; exact hr n)
    exact ⟨od, u, rfl, by rw [hl, hu], ru⟩
def rIsX (K : PySem.W.Frag) : List V → Hp → VK → Prop := fun xs H Q => ∃ (a C : Addr) (fs : List (Str × V)) (c : V) (cv : Value) (b : Bool), xs = [.ref a, c] ∧ Er H a C fs ∧ ExcC K C ∧ (∀ u, RelV c u → u = cv) ∧ PySem.W.kitOne K (.ref C) cv = some b ∧ Q (.bl b) H
theorem call_isX {X : Cx} : CallR X (.builtin "isinstance") (rIsX X.K) := by
  intro pins s σ H xs us Q I r h
  obtain ⟨a, C, fs, c, cv, b, rfl, er, T, hcv, e, q⟩ := h
  obtain ⟨u1, u2, rfl, rx, rt⟩ := vals2 r
  obtain rfl : u1 = Value.ref a := rx
  obtain rfl := hcv _ rt
  obtain ⟨ox, od, J, _⟩ := er.inst I
  have hcl : (PySem.W.clsIn X.K C).isSome = true := by
    obtain ⟨cd, hc, _⟩ := PySem.W.any_some T.hd
    rw [hc]
    rfl
  exact PySem.W.kia_one (PySem.W.kitx_exc hcl T.hg T.hk T.hs T.ha T.hn T.ht T.hm) I.kIn J e (fun z => nomatch z) fun tk => ⟨.bl b, H, I.tok tk, rfl, q⟩
def tXv (K : PySem.W.Frag) (n : Str) (te : TE) : TE := fun σ H Q => te σ H fun x H1 => ∃ (a C : Addr) (fs : List (Str × V)) (v : V), x = .ref a ∧ Er H1 a C fs ∧ ExcC K C ∧ PySem.W.findIn K (.ref C) n = some none ∧ fs.lookup n = some v ∧ Q v H1
theorem pe_xv {X : Cx} {e : Expr} {te : TE} {pos : Pos} {n : Str} (he : PE X e te) (hb : attributeBase e n X.env (eval e X.env) = eval e X.env := by rfl) : PE X (.Attribute e n pos) (tXv X.K n te) := by
  constructor
  intro pins s σ H Q I h
  refine attr_of hb (thn (he.run pins s σ H _ I h) ?_)
  rintro u s1 ⟨y, H1, I1, ry, a, C, fs, v, rfl, er, T, hno, l, q⟩
  obtain rfl : u = Value.ref a := ry
  obtain ⟨ox, od, J, fl⟩ := er.inst I1
  obtain ⟨o, w, rfl, ho, rw'⟩ := fl n v l
  exact HandSPX.exc_get I1.kIn J T.hg T.hk T.hs (PySem.W.findObj_own T.hd hno rfl ho) (handed_of rw') ⟨v, H1, I1.tok _, rw', q⟩
end Mb
namespace Mb
open PySem L2
/-! ### a class with its own __init__, as its callers take it -/
structure MkC (P : Program) (w : World) (K : PySem.W.Frag) (mg : Str → Option Value) (base : Heap) (k : Nat) (x : Str) (C : Addr) (sp : Sp) : Prop where
  ex : ∃ fI fd ps, OexC K C ∧ PySem.W.findIn K (.ref C) "__init__" = some (some (.ref fI)) ∧ PySem.W.typeIn K (.ref fI) = some (.type "function") ∧ FnOk P w K mg base CX0 k fI fd ps sp ∧ Binds K fd ps [] ∧ mg x = some (.ref C)
theorem pe_mkv {X : Cx} {k : Nat} {x : Str} {C : Addr} {sp : Sp} {e : Expr} {es : List Expr} {ta : TA} {p pos : Pos} (M : MkC X.prog X.w X.K X.mg X.base k x C sp) (hr : Room (k + 1) X.A) (hg : Gl X x) (ha : PA X (e :: es) ta)
    (hdb : (x == ("__debug__" : Str)) = false := by decide) (he : starEach (e :: es) X.env = (false, eval e X.env) :: starEach es X.env := by rfl) (hpl : (backTo pos (starEach es X.env)).any (·.1) = false := by rfl) :
    PE X (.Call (.Name x p) (e :: es) [] pos) (tMkV C sp ta) := by
  obtain ⟨fI, fd, ps, T, iC, tI, F, b, m⟩ := M.ex
  exact pe_mkO T iC tI F hr b hg m ha hdb he hpl
/-- the __init__ of a class, as it stands -/
structure FnI (K : PySem.W.Frag) (mg : Str → Option Value) (x qual : Str) (C : Addr) (st : Stmt) : Prop where
  ex : ∃ fI fd, FunD K "__init__" qual (defArgs st) (defBody st) (defScope st) [] [] fI fd ∧ OexC K C ∧ PySem.W.findIn K (.ref C) "__init__" = some (some (.ref fI)) ∧ PySem.W.typeIn K (.ref fI) = some (.type "function") ∧ mg x = some (.ref C)
theorem FnI.made {P : Program} {w : World} {K : PySem.W.Frag} {mg : Str → Option Value} {base : Heap} {k : Nat} {x qual : Str} {C : Addr} {st : Stmt} {N ps : List Str} {sp : Sp} (F : FnI K mg x qual C st) (S : FnScope N ps (defScope st)) (len : ∀ vs H Q E, sp vs H Q E → vs.length = ps.length)
    (hbody : ∀ (f : Addr) (cdv : Value) (A : Around) (outer : List Env) (s : Shared) (H : Hp) (vs : List V) (Q : VK) (E : XK), Room k (A.deeper (PyProof.Rows.envOfC qual (defScope st) s.heap.objs.size f cdv)) → sp vs H Q E → OexC K C →
      ∃ t, PSs (cxOf CX0 P w K mg base N qual (defScope st) f cdv A outer s H E).nox (defBody st) t ∧ t { nx := fun _ H' => Q .non H', rt := Q } (start N vs) H)
    (hb : ∀ (kV doc pm : Value) (an : Option Addr) (cdv ct : Value) (us : List Value), us.length = ps.length → bindArgs (PySem.W.fnOf "__init__" qual (defArgs st) (defBody st) (defScope st) .none kV doc pm an cdv ct) ⟨us, []⟩ = pure (ps.zip us)) :
    MkC P w K mg base (k + 1) x C sp := by
  obtain ⟨fI, fd, F, T, iC, tI, m⟩ := F.ex
  refine ⟨fI, fd, ps, T, iC, tI, F.ok S len fun cdv A outer s H vs Q E hr h => ?_, F.bindsN hb, m⟩
  obtain ⟨t, p, q⟩ := hbody fI cdv A outer s H vs Q E hr h T
  exact ⟨t, p.nox, q⟩
/-- __init__(self, v) keeps v as the field f -/
def spInit (C : Addr) (f : Str) (ok : V → Prop) : Sp := fun vs H Q _ => ∃ (a : Addr) (v : V), vs = [.ref a, v] ∧ ok v ∧ H a = some (exo a C none) ∧ ∀ H', But a H H' → Er H' a C [(f, v)] → Q .non H'
/-- __init__(self, l) keeps a new list with the items of l -/
def spInitL (K : PySem.W.Frag) (C : Addr) (f : Str) : Sp := fun vs H Q _ => ∃ (a h : Addr) (zs : List V), vs = [.ref a, .ref h] ∧ SqL K H h zs ∧ H a = some (exo a C none) ∧ ∀ (l : Addr) (H' : Hp), But a H H' → H l = none → l ≠ a → H' l = some (.lst zs) → Er H' a C [(f, .ref l)] → Q .non H'
def okStr (v : V) : Prop := ∃ z : Str, v = .str z ∧ z.length ≤ 1000
def okInt (v : V) : Prop := ∃ i : Int, v = .int i
theorem er_new {H : Hp} {a C dx : Addr} {f : Str} {v : V} (n : H dx = none) (ne : dx ≠ a) : Er (upd (upd H dx (exd dx [(f, v)])) a (exo a C (some dx))) a C [(f, v)] := .inr ⟨dx, upd_same, by rw [upd_ne ne, upd_same]⟩
theorem but_new {H : Hp} {a C dx : Addr} {fs : List (Str × V)} (n : H dx = none) : But a H (upd (upd H dx (exd dx fs)) a (exo a C (some dx))) := fun b o nb h => by
  rw [upd_ne nb, upd_ne (ne_of_none h n)]
  exact h
theorem but_made {H H' : Hp} {a : Addr} {o : HO} (b : But a (upd H a o) H') (n : H a = none) : Same H H' := fun c u h => b c u (ne_of_none h n) (by rw [upd_ne (ne_of_none h n)]; exact h)
/-! ### the nineteen refusals, by number -/
def nms : List Str := ["BadName", "Taken", "NoThing", "WrongSort", "NotFree", "Far", "TooHeavy", "Ring", "Locked", "NoGroup", "NoWatcher", "NoMark", "Rooted", "TooWide", "Hung", "BadText", "Nought", "NoNumber", "NoStep"]
def nm (i : Nat) : Str := nms.getD i ""
structure Cs (K : PySem.W.Frag) (mg : Str → Option Value) (c : Nat → Addr) (B : Addr) : Prop where
  g : ∀ i, i < 19 → mg (nm i) = some (.ref (c i))
  gB : mg "BookError" = some (.ref B)
  ex : ∀ i, i < 19 → ExcC K (c i)
  ki : ∀ i j, i < 19 → j < 19 → PySem.W.kitOne K (.ref (c i)) (.ref (c j)) = some (decide (((j : Nat) : Int) = ((i : Nat) : Int)))
  kB : ∀ i, i < 19 → PySem.W.kitOne K (.ref (c i)) (.ref B) = some true
  kV : ∀ i, i < 19 → PySem.W.kitOne K (.ref (c i)) (.type "ValueError") = some true
def bls (l : List Bool) : List V := l.map V.bl
theorem paired_flat {K : PySem.W.Frag} {H : Hp} : ∀ {xs : List V}, (∀ x ∈ xs, flatB x = true) → Paired (EqV K H 1) xs xs
  | [], _ => .nil
  | x :: xs, h => .cons (.inl ⟨rfl, h x List.mem_cons_self⟩) (paired_flat fun y hy => h y (List.mem_cons_of_mem _ hy))
theorem r_eqFlat {K : PySem.W.Frag} {H : Hp} {Q : VK} {a b : Addr} {xs : List V} (h1 : SqL K H a xs) (h2 : SqL K H b xs) (hf : ∀ x ∈ xs, flatB x = true) (q : Q (.bl true) H) : rEqV K (.ref a) (.ref b) H Q :=
  ⟨1, by decide, .inl ⟨a, b, xs, xs, rfl, rfl, h1, h2, paired_flat hf⟩, q⟩
section
variable {σ : St} {H : Hp} {Q : VK} {D : Ends} {K : PySem.W.Frag}
theorem r_vei {ta : TA} (q : ta σ H fun vs H1 => ∃ (a C : Addr) (ws : List V), vs = .ref a :: ws ∧ ws.length ≤ 1000 ∧ OexC K C ∧ H1 a = some (exo a C none) ∧ Q .non H1) : tVeI K ta σ H Q := q
theorem r_ost {f : Str} {to te : TE} (q : te σ H fun y H1 => to σ H1 fun x H2 => ∃ a C : Addr, x = .ref a ∧ OexC K C ∧ PySem.W.findIn K (.ref C) f = some none ∧
    ((H2 a = some (exo a C none) ∧ ∀ dx, H2 dx = none → dx ≠ a → D.nx σ (upd (upd H2 dx (exd dx [(f, y)])) a (exo a C (some dx)))) ∨ ∃ (dx : Addr) (fs : List (Str × V)), H2 a = some (exo a C (some dx)) ∧ H2 dx = some (exd dx fs) ∧ fs.length ≤ 900 ∧ D.nx σ (upd H2 dx (exd dx ((f, y) :: fs))))) : tOst K f to te D σ H := q
theorem r_js1 {t : TE} {ts : List TE} {acc : Str} {R : Str → Hp → Prop} (q : t σ H fun x H1 => ∃ y : Str, x = .str y ∧ (acc ++ y).length ≤ sizeLine ∧ tJs ts (acc ++ y) σ H1 R) : tJs (t :: ts) acc σ H R := q
theorem r_yes {R : Bool → Hp → Prop} (q : R true H) : tYes σ H R := q
theorem r_bm {T : String} {r : V → List V → Hp → VK → Prop} {to : TE} {t : TA} (q : to σ H fun x H1 => tyV K T x H1 ∧ t σ H1 fun xs H2 => r x xs H2 Q) : tBM K T r to t σ H Q := q
theorem r_forR {ta : TA} {g : TG} {tb : TS} (q : ta σ H fun vs H1 => ∃ j : Int, vs = [.int j] ∧ -(2 ^ 62) ≤ j ∧ j < 2 ^ 62 ∧ ∃ W : Nat → Nat → St → Hp → Prop, (∃ m, W 0 m σ H1) ∧ ∀ i m σ H, W i m σ H →
    ((Itr 0 j.toNat).stop i H ∧ D.nx σ H) ∨ ((Itr 0 j.toNat).go i H ∧ ∃ N : St → Hp → Prop, (∀ σ1 H1, N σ1 H1 → ∃ m1, m1 < m ∧ W (i + 1) m1 σ1 H1) ∧ ∀ x H1, (Itr 0 j.toNat).yld i H x H1 → g x σ H1 fun σ2 H2 => tb { D with nx := N, ct := N, bk := D.nx } σ2 H2)) : tFor (iRng1 ta) g tb D σ H := q
theorem r_js0 {acc : Str} {R : Str → Hp → Prop} (q : R acc H) : tJs [] acc σ H R := q
theorem r_fmt {te : TE} (q : te σ H fun x H1 => (∃ y : Str, x = .str y ∧ y.length ≤ sizeLine ∧ Q (.str y) H1) ∨ ∃ i : Int, x = .int i ∧ i.natAbs.log2 < 1920 ∧ Q (.str (toString i)) H1) : tFmt te σ H Q := q
theorem r_xv {n : Str} {te : TE} (q : te σ H fun x H1 => ∃ (a C : Addr) (fs : List (Str × V)) (v : V), x = .ref a ∧ Er H1 a C fs ∧ ExcC K C ∧ PySem.W.findIn K (.ref C) n = some none ∧ fs.lookup n = some v ∧ Q v H1) : tXv K n te σ H Q := q
theorem r_mkv {C : Addr} {sp : Sp} {ta : TA} (q : ta σ H fun vs H1 => vs.length ≤ 1000 ∧ ∀ a, H1 a = none → sp (.ref a :: vs) (upd H1 a (exo a C none)) (fun v H2 => v = .non ∧ Q (.ref a) H2) (fun _ _ _ => False)) : tMkV C sp ta σ H Q := q
end
theorem cat_len (a b : Str) : (a ++ b).length = a.length + b.length := by
  show (a.cps ++ b.cps).size = a.cps.size + b.cps.size
  exact Array.size_append
theorem at_strK {z : Str} {r : Int} {n : Nat} (hn : z.cps.toList.length = n) (r0 : 0 ≤ r) (r1 : r < n) : ∃ c, atI z.cps.toList r = some c := by
  have hk : r.toNat < z.cps.toList.length := by omega
  refine ⟨z.cps.toList[r.toNat], ?_⟩
  have e : r = ((r.toNat : Nat) : Int) := by omega
  have q : atI z.cps.toList ((r.toNat : Nat) : Int) = some z.cps.toList[r.toNat] := atI_nat (List.getElem?_eq_getElem hk)
  rw [← e] at q
  exact q
/-- a name drawn from the pool, unlike those had -/
def spName (K : PySem.W.Frag) : Sp := fun vs H Q _ => ∃ (p h : Addr) (b : Int) (zs : List Str), vs = [.ref p, .ref h] ∧ Pl H p b ∧ b ≤ 1900000 ∧ SqL K H h (zs.map V.str) ∧ h ≠ p ∧ zs.length ≤ 8 ∧ ∀ (z : Str) (H' : Hp), But p H H' → Pl H' p (b + 30) → z.length ≤ 40 → Q (.str z) H'
/-- an error of the class number w, with a name -/
def spMade (c : Nat → Addr) : Sp := fun vs H Q _ => ∃ (w : Nat) (z : Str), vs = [.int w, .str z] ∧ w < 14 ∧ z.length ≤ 1000 ∧ ∀ (a : Addr) (H' : Hp), Same H H' → Er H' a (c w) [("name", .str z)] → Q (.ref a) H'
/-- it is of its own class, of the base and of ValueError, and of none of the others -/
def spIs (c : Nat → Addr) : Sp := fun vs H Q _ => ∃ (w : Nat) (a : Addr) (fs : List (Str × V)), vs = [.int w, .ref a] ∧ w < 19 ∧ Er H a (c w) fs ∧ ∀ H', Same H H' → Q (.bl true) H'
theorem Er.set {H : Hp} {a C l : Addr} {fs : List (Str × V)} {xs ys : List V} (h : Er H a C fs) (hl : H l = some (.lst xs)) : Er (L2.upd H l (.lst ys)) a C fs := by
  have ne : ∀ {b : Addr} {φ : Heap → Prop}, H b = some (HO.ext φ) → b ≠ l := fun hb z => by
    rw [z, hl] at hb
    cases hb
  rcases h with ⟨e, h⟩ | ⟨dx, h1, h2⟩
  · exact .inl ⟨e, by rw [upd_ne (ne h)]; exact h⟩
  · exact .inr ⟨dx, by rw [upd_ne (ne h1)]; exact h1, by rw [upd_ne (ne h2)]; exact h2⟩
end Mb
namespace Mb
open PySem PySem.Spec PyProof.Rows L2
/-! ### Base.__init__(self, ..) where Base has a def of its own -/
structure BoI (K : PySem.W.Frag) (B fB : Addr) : Prop where
  ga : PySem.W.specialIn K (.ref B) "__getattribute__" = some (some (.builtin "type.__getattribute__"))
  rd : PySem.W.readsIn K B (.type "type") = true
  fc : PySem.W.findCls K (.ref B) (.type "type") "__init__" = some (.val (.ref fB))
  ty : PySem.W.typeIn K (.ref fB) = some (.type "function")
  kp : PySem.W.keepIn K (.ref fB) = true
/-- Base.__init__ as its callers take it -/
structure KnB (P : Program) (w : World) (K : PySem.W.Frag) (mg : Str → Option Value) (base : Heap) (k : Nat) (x : Str) (ps : List Str) (sp : Sp) : Prop where
  ex : ∃ B fB fd, FnOk P w K mg base CX0 k fB fd ps sp ∧ BoI K B fB ∧ mg x = some (.ref B) ∧ Binds K fd ps []
section
variable {X : Cx} {e : Expr} {es : List Expr} {ta : TA} {x : Str} {p p1 p2 pos : Pos} {k : Nat} {ps : List Str} {sp : Sp}
theorem pe_own {pl : Sem Bool} (G : KnB X.prog X.w X.K X.mg X.base k x ps sp) (hr : Room k X.A) (hg : Gl X x) (ha : PA X (e :: es) ta) (hdb : (x == ("__debug__" : Str)) = false := by decide)
    (hc : eval (.Call (.Attribute (.Name x p1) "__init__" p2) (e :: es) [] pos) X.env = (do
        let ov ← eval (.Name x p1) X.env
        standAt p2.atName
        let (f, first) ← holding [ov] (getMethod ov "__init__" pl)
        callWith pos f first (backTo pos (starEach (e :: es) X.env)) (backToKw pos (keywordEach [] X.env))) := by rfl)
    (he : starEach (e :: es) X.env = (false, eval e X.env) :: starEach es X.env := by rfl) (hpl : (backTo pos (starEach es X.env)).any (·.1) = false := by rfl) :
    PE X (.Call (.Attribute (.Name x p1) "__init__" p2) (e :: es) [] pos) (tCall sp [] E0 ta) := by
  obtain ⟨B, fB, fd, F, T, hm, hb⟩ := G.ex
  constructor
  intro pins s σ H Q I h
  refine PySem.W.methodCall_KW (ld_glob I hg hm ?_ hdb) hc
  refine PySem.W.method_cls I.kIn T.ga (PySem.W.cls_value I.kIn T.rd T.fc rfl ?_)
  show wpAny _ _ (callWith pos (Value.ref fB) [] (backTo pos (starEach (e :: es) X.env)) []) _ _ _
  refine PySem.W.callWith_K (h₀ := X.base) I.ok.mod.kin T.kp (thn (ha.run pos pins _ σ H _ (I.tok _) h) fun us s1 ⟨vs, H1, I1, r, q⟩ => ⟨I1.kIn, ?_⟩) he hpl
  exact run_fn F hr hb .nil pass0 I1 r q
/-- C() raised, C's own __init__ keeping sp -/
theorem pmk_mk0 {C : Addr} (M : MkC X.prog X.w X.K X.mg X.base k x C sp) (hr : Room (k + 1) X.A) (hg : Gl X x) (hdb : (x == ("__debug__" : Str)) = false := by decide) :
    PMk X (.Call (.Name x p) [] [] pos) (tMkO C sp [] tNil) := by
  obtain ⟨fI, fd, ps, T, iC, tI, F1, hb, hm⟩ := M.ex
  intro pins s σ H Q I h
  obtain ⟨nm, q, N, bs, bm, sn, sub, ab, col, dd, k0, k1, k2, k3, k5, hC, hbm⟩ := T.cls
  refine wpAny_Call_Name_kw (ld_glob I hg hm ?_ hdb)
  refine PySem.W.callWith_K0 I.kIn T.kC ?_
  obtain ⟨hz, q1⟩ := h
  have I1 := I
  obtain ⟨hp, g, dr, tk, os⟩ := s
  have hsz : hp.objs.size ≤ hp.objs.size + 1 := Nat.le_succ _
  have hn : H (hp.objs.size + 1) = none := I1.hok.fresh hsz
  have hq := q1 (hp.objs.size + 1) hn
  have kk : ∀ b o, hp.get? b = some o → ((hp.push (PySem.W.kdv_tup [])).push (PySem.HandSPX.excO C hp.objs.size)).get? b = some o := fun b o e => Heap.get?_push_of_some _ (Heap.get?_push_of_some _ e)
  have hget : ((hp.push (PySem.W.kdv_tup [])).push (PySem.HandSPX.excO C hp.objs.size)).get? (hp.objs.size + 1) = some (PySem.HandSPX.excO C hp.objs.size) := by heap_get
  have I2 : Inv X pins σ (upd H (hp.objs.size + 1) (exo (hp.objs.size + 1) C none)) ⟨(hp.push (PySem.W.kdv_tup [])).push (PySem.HandSPX.excO C hp.objs.size), g, dr, tk, os⟩ :=
    I1.laid (t' := tk) (a := hp.objs.size + 1) (o := exo (hp.objs.size + 1) C none) (h' := (hp.push (PySem.W.kdv_tup [])).push (PySem.HandSPX.excO C hp.objs.size)) kk hsz (exo_ok hget)
  have r2 : Vals [V.ref (hp.objs.size + 1)] [Value.ref (hp.objs.size + 1)] := .cons rfl .nil
  have hl : ([Value.ref (hp.objs.size + 1)] ++ ([] : List Value)).length = ps.length := F1.len _ _ _ _ hq
  refine wpAny_call (PySem.HandSPX.call_own F.excBase_ValueError (fun Y => PySem.HandSPX.refsVE_contains Y bm hbm) (I1.kIn _ _ hC) (PySem.W.looks_findIn I1.kIn iC) (fun self => PySem.W.bind_fn I1.kIn self tI) (Nat.zero_le _)
    (codeAny_mono (F1.run _ X.stack _ _ ⟨[Value.ref (hp.objs.size + 1)], []⟩ [Value.ref (hp.objs.size + 1)] _ _ (fun _ _ _ => False) (hr.make C [] []) (I2.env0.make C [] []) (hb _ [Value.ref (hp.objs.size + 1)] I2.kIn hl) r2 hq) fun r s' hq' => ?_))
  cases r with
  | error er => exact False.elim hq'
  | ok fl =>
    cases fl with
    | ret u =>
      obtain ⟨v, H2, os2, bare2, un2, hok2, rv, ev, d, fs, ea, ed, hd1, q2⟩ := hq'
      subst ev
      obtain ⟨h2, g2, d2, t2, os'⟩ := s'
      exact ⟨rv, mk_end (raises_own T.exC T.tyC) I1 hsz kk un2 hok2 os2 bare2 ea ed hd1 q2⟩
    | next => exact False.elim hq'
    | brk => exact False.elim hq'
    | cont => exact False.elim hq'
theorem pmk_mk {C : Addr} (M : MkC X.prog X.w X.K X.mg X.base k x C sp) (hr : Room (k + 1) X.A) (hg : Gl X x) (ha : PA X (e :: es) ta)
    (hdb : (x == ("__debug__" : Str)) = false := by decide) (he : starEach (e :: es) X.env = (false, eval e X.env) :: starEach es X.env := by rfl) (hpl : (backTo pos (starEach es X.env)).any (·.1) = false := by rfl) :
    PMk X (.Call (.Name x p) (e :: es) [] pos) (tMkO C sp [] ta) := by
  obtain ⟨fI, fd, ps, T, iC, tI, F1, hb, hm⟩ := M.ex
  exact pmk_oex T iC tI F1 hr hb .nil pass0 hg hm ha hdb he hpl
end
/-- isinstance(e, c) of a caught error with fields -/
def rIsED (K : PySem.W.Frag) (D a : Addr) (d : Option Addr) : List V → Hp → VK → Prop := fun xs H Q => ∃ (c : V) (cv : Value) (b : Bool) (dd : Addr) (fs : List (Str × V)), xs = [.ref a, c] ∧ (∀ u, RelV c u → u = cv) ∧ PySem.W.kitOne K (.ref D) cv = some b ∧ d = some dd ∧ H dd = some (.xd fs) ∧ Q (.bl b) H
theorem call_isED {X : Cx} {a D : Addr} {d : Option Addr} {oe : Obj} {pn : List (Addr × Obj)} (C : ExcC X.K D) (hz : Zc (.ref D) d oe) (hf : ∃ vs, oe.data = .fields vs) : CallR (X.suite a ((a, oe) :: pn)) (.builtin "isinstance") (rIsED X.K D a d) := by
  intro pins s σ H xs us Q I r h
  obtain ⟨c, cv, b, dd, fs, rfl, hcv, e, rfl, ea, q⟩ := h
  cases r with
  | cons rx rr =>
    cases rr with
    | cons rt rr =>
      cases rr
      cases rx
      have ec := hcv _ rt
      subst ec
      obtain ⟨hget, _⟩ := I.pin (a, oe) (List.mem_append.mpr (.inl List.mem_cons_self))
      obtain ⟨vs, hv⟩ := hf
      have hx : ObjOk X.prog X.w H s.heap dd (.xd fs) := I.hok dd _ ea
      obtain ⟨mA, hns, hr⟩ := hx
      obtain ⟨od, ho, hl⟩ := lookIn_ns hns
      have J : PySem.W.InstAt s.heap a oe D (some od) := ⟨hget, hz.1, by unfold PySem.W.notCls; rw [hv] <;> rfl, by rw [hz.2]; exact ho⟩
      have hcl : (PySem.W.clsIn X.K D).isSome = true := by
        obtain ⟨cd, hc, _⟩ := PySem.W.any_some C.hd
        rw [hc]
        rfl
      exact PySem.W.kia_one (PySem.W.kitx_exc hcl C.hg C.hk C.hs C.ha C.hn C.ht C.hm) I.kIn J e (fun z => nomatch z) fun tk => ⟨.bl b, H, I.kept (t' := tk) fun _ _ z => z, rfl, q⟩
theorem call_isEC {X : Cx} {a D : Addr} {cls : Value} {d : Option Addr} {oe : Obj} {pn : List (Addr × Obj)} (C : ExcC X.K D) (hp : cls = .ref D) (hz : Zc cls d oe) (hf : ∃ vs, oe.data = .fields vs) : CallR (X.suite a ((a, oe) :: pn)) (.builtin "isinstance") (rIsED X.K D a d) := by
  subst hp
  exact call_isED C hz hf
/-! ### the base's __init__(self, message, words) -/
structure FnB (K : PySem.W.Frag) (mg : Str → Option Value) (x qual : Str) (st : Stmt) : Prop where
  ex : ∃ B fB fd u v, FunD K "__init__" qual (defArgs st) (defBody st) (defScope st) [u, v] [] fB fd ∧ BoI K B fB ∧ mg x = some (.ref B)
theorem FnB.made {P : Program} {w : World} {K : PySem.W.Frag} {mg : Str → Option Value} {base : Heap} {k : Nat} {x qual : Str} {st : Stmt} {N ps : List Str} {sp : Sp} (F : FnB K mg x qual st) (S : FnScope N ps (defScope st)) (len : ∀ vs H Q E, sp vs H Q E → vs.length = ps.length)
    (hbody : ∀ (f : Addr) (cdv : Value) (A : Around) (outer : List Env) (s : Shared) (H : Hp) (vs : List V) (Q : VK) (E : XK), Room k (A.deeper (PyProof.Rows.envOfC qual (defScope st) s.heap.objs.size f cdv)) → sp vs H Q E →
      ∃ t, PSs (cxOf CX0 P w K mg base N qual (defScope st) f cdv A outer s H E).nox (defBody st) t ∧ t { nx := fun _ H' => Q .non H', rt := Q } (start N vs) H)
    (h3 : ps.length = 3) (hb : ∀ (T : Addr) (kV doc pm : Value) (an : Option Addr) (cdv ct : Value) (us its : List Value), us.length = 3 → its.length = 2 →
      ∃ k, bindArgs (PySem.W.fnOf "__init__" qual (defArgs st) (defBody st) (defScope st) (.ref T) kV doc pm an cdv ct) ⟨us, []⟩ = seqItems? (.ref T) >>= k ∧ k (some its.toArray) = pure (ps.zip (us ++ its.drop 2))) :
    KnB P w K mg base (k + 1) x ps sp := by
  obtain ⟨B, fB, fd, u, v, F, T, m⟩ := F.ex
  obtain ⟨ds, r, b⟩ := F.binds1 (ps := ps) 3 2 (by simp) (by simp [h3]) hb
  have : ds = [] := by
    have := r.length
    simp at this
    exact List.eq_nil_of_length_eq_zero this.symm
  subst this
  refine ⟨B, fB, fd, F.ok S len fun cdv A outer s H vs Q E hr h => ?_, T, m, b⟩
  obtain ⟨t, p, q⟩ := hbody fB cdv A outer s H vs Q E hr h
  exact ⟨t, p.nox, q⟩
def spBook (K : PySem.W.Frag) : Sp := fun vs H Q _ => ∃ (a C wd : Addr) (m : Str), vs = [.ref a, .str m, .ref wd] ∧ H a = some (exo a C none) ∧ OexC K C ∧ PySem.W.findIn K (.ref C) "words" = some none ∧
  ∀ (dx : Addr) (H' : Hp), H dx = none → dx ≠ a → But a H H' → H' a = some (exo a C (some dx)) → H' dx = some (exd dx [("words", .ref wd)]) → Q .non H'
/-- an __init__(self) without a value of its own -/
def spInit0 (C : Addr) : Sp := fun vs H Q _ => ∃ a : Addr, vs = [.ref a] ∧ H a = some (exo a C none) ∧ ∀ (dx : Addr) (fs : List (Str × V)) (H' : Hp), H dx = none → dx ≠ a → But a H H' → H' a = some (exo a C (some dx)) → H' dx = some (exd dx fs) → Q .non H'
/-- the facts of the base in the head -/
def boB (K : PySem.W.Frag) (x : Str) : Bool := He.eqO (PySem.W.specialIn K (.ref (He.ga K x)) "__getattribute__") (some (some (.builtin "type.__getattribute__"))) && (PySem.W.readsIn K (He.ga K x) (.type "type") && (match PySem.W.findCls K (.ref (He.ga K x)) (.type "type") "__init__" with
    | some (.val a) => decide (a = .ref (He.ma K (He.ga K x) "__init__")) && (decide (PySem.W.typeIn K (.ref (He.ma K (He.ga K x) "__init__")) = some (.type "function")) && PySem.W.keepIn K (.ref (He.ma K (He.ga K x) "__init__")))
    | _ => false))
theorem boB_ok {K : PySem.W.Frag} {x : Str} (h : boB K x = true) : BoI K (He.ga K x) (He.ma K (He.ga K x) "__init__") := by
  obtain ⟨h1, h⟩ := He.ba h
  obtain ⟨h2, h3⟩ := He.ba h
  split at h3
  · rename_i a e
    obtain ⟨a1, h3⟩ := He.ba h3
    obtain ⟨a5, a6⟩ := He.ba h3
    rw [of_decide_eq_true a1] at e
    exact ⟨He.eqO_ok h1, h2, e, of_decide_eq_true a5, a6⟩
  · cases h3
def veB (K : PySem.W.Frag) : Bool := match PySem.W.findCls K (.type "ValueError") (.type "type") "__init__" with
    | some (.val v) => decide (v = .builtin "ValueError.__init__")
    | _ => false
theorem veB_ok {K : PySem.W.Frag} (h : veB K = true) : PySem.W.findCls K (.type "ValueError") (.type "type") "__init__" = some (.val (.builtin "ValueError.__init__")) := by
  unfold veB at h
  split at h
  · rename_i v e
    rw [e, of_decide_eq_true h]
  · cases h
/-! ### promises of defs that may raise an error with fields: C is its class -/
def spFracD (C : Addr) : Sp := fun vs H Q E => ∃ t b : Int, vs = [.int t, .int b] ∧ Sm 8000 b ∧ (b = 0 → ∀ (d : Addr) (fs : List (Str × V)) (H' : Hp), Same H H' → H' d = some (.xd fs) → E (.ref C) (some d) H') ∧
  (b ≠ 0 → ∀ (p : Addr) (H' : Hp), Same H H' → H p = none → H' p = some (.tup [.int (lowT t b), .int (lowB t b)]) → Q (.ref p) H')
def spOverD (K : PySem.W.Frag) (C : Addr) : Sp := fun vs H Q E => ∃ (a b : Addr) (x y u v : Int), vs = [.ref a, .ref b] ∧ SqT K H a [.int x, .int y] ∧ SqT K H b [.int u, .int v] ∧ Sm 2000 x ∧ Sm 2000 y ∧ Sm 2000 u ∧ Sm 2000 v ∧
  (y * u = 0 → ∀ (d : Addr) (fs : List (Str × V)) (H' : Hp), Same H H' → H' d = some (.xd fs) → E (.ref C) (some d) H') ∧ (y * u ≠ 0 → ∀ (p : Addr) (H' : Hp), Same H H' → H p = none → H' p = some (.tup [.int (lowT (x * v) (y * u)), .int (lowB (x * v) (y * u))]) → Q (.ref p) H')
/-- what a raised error leaves: the heap as it was, and its fields -/
theorem same_raised {H H' : Hp} {a dx : Addr} {o : HO} {fs : List (Str × V)} (na : H a = none) (nd : H dx = none) (b : But a (upd H a o) H') : Same H (upd (del H' a) dx (.xd fs)) := fun x u hx => by
  have n1 : x ≠ a := ne_of_none hx na
  have n2 : x ≠ dx := ne_of_none hx nd
  rw [upd_ne n2, del_ne n1]
  exact b x u n1 (by rw [upd_ne n1]; exact hx)
theorem r_mk0 {C : Addr} {σ : L2.St} {H : Hp} {Q : XK} (q : ∀ (d : Addr) (fs : List (Str × V)) (H' : Hp), Same H H' → H' d = some (.xd fs) → Q (.ref C) (some d) H') : tMkO C (spInit0 C) [] tNil σ H Q := by
  refine ⟨by simp, fun a na => ⟨a, rfl, upd_same, fun dx fs H' nd ne bt e1 e2 => ?_⟩⟩
  have nd' : H dx = none := by rw [upd_ne ne] at nd; exact nd
  exact ⟨rfl, dx, fs, e1, e2, nd', q dx fs _ (same_raised na nd' bt) upd_same⟩
def ownOexB (K : PySem.W.Frag) (C : Addr) : Bool := (match K.lookup C with
    | some ⟨.type "type", _, .cls cd, sl⟩ => (match cd.mro, sl.toList with
        | .ref D :: bm, [_, _, _, _, some (.builtin n), _] => decide (D = C) && (decide (n = "ValueError.__new__") && ((!cd.hasDel) && (cd.hasDict && PySem.HandSPX.refsVE bm)))
        | _, _ => false)
    | _ => false) && (He.eqO (PySem.W.findIn K (.ref C) "__setattr__") (some (some (.builtin "object.__setattr__"))) && (eqV (PySem.W.subIn K (.ref C) (.type "BaseException")) (some true) && (decide (PySem.W.typeIn K (.ref C) = some (.type "type")) && PySem.W.keepIn K (.ref C))))
theorem ownOexB_ok {K : PySem.W.Frag} {C : Addr} (h : ownOexB K C = true) : OexC K C := by
  obtain ⟨h0, h⟩ := He.ba h
  obtain ⟨h1, h⟩ := He.ba h
  obtain ⟨h2, h⟩ := He.ba h
  obtain ⟨h3, h4⟩ := He.ba h
  refine ⟨?_, He.eqO_ok h1, of_decide_eq_true h2, of_decide_eq_true h3, h4⟩
  split at h0
  · rename_i dd cd sl ho
    split at h0
    · rename_i D bm k0 k1 k2 k3 n k5 hm hs
      obtain ⟨a1, a⟩ := He.ba h0
      obtain ⟨a2, a⟩ := He.ba a
      obtain ⟨a3, a⟩ := He.ba a
      obtain ⟨a4, a5⟩ := He.ba a
      have e1 := of_decide_eq_true a1
      have e2 := of_decide_eq_true a2
      have e3 : cd.hasDel = false := by simpa using a3
      obtain ⟨x1, x2, x3, x4, x5, x6, x7, x8, x9, x10, x11⟩ := cd
      obtain ⟨l⟩ := sl
      dsimp only at hm hs e3 a4
      subst e1 e2 e3 a4 hm hs
      exact ⟨_, _, _, _, _, _, _, _, _, _, _, _, _, _, _, ho, a5⟩
    · cases h0
  · cases h0
/-! ### refusals as values -/
def spInitD (C : Addr) (f : Str) (ok : V → Prop) : Sp := fun vs H Q _ => ∃ (a : Addr) (v : V), vs = [.ref a, v] ∧ ok v ∧ H a = some (exo a C none) ∧ ∀ (wd : Addr) (H' : Hp), But a H H' → Er H' a C [(f, v), ("words", .ref wd)] → Q .non H'
def spInitLD (K : PySem.W.Frag) (C : Addr) (f : Str) : Sp := fun vs H Q _ => ∃ (a h : Addr) (zs : List V), vs = [.ref a, .ref h] ∧ SqL K H h zs ∧ zs.length ≤ 100 ∧ H a = some (exo a C none) ∧ ∀ (wd l : Addr) (H' : Hp), But a H H' → H l = none → l ≠ a → H' l = some (.lst zs) → Er H' a C [(f, .ref l), ("words", .ref wd)] → Q .non H'
def spMadeD (c : Nat → Addr) : Sp := fun vs H Q _ => ∃ (w : Nat) (z : Str), vs = [.int w, .str z] ∧ w < 14 ∧ z.length ≤ 1000 ∧ ∀ (a wd : Addr) (H' : Hp), Same H H' → Er H' a (c w) [("name", .str z), ("words", .ref wd)] → Q (.ref a) H'
theorem exo_lst {a C : Addr} {d : Option Addr} {xs : List V} : ¬ (exo a C d = .lst xs) := fun z => by unfold exo at z; cases z
theorem exo_frz {a C : Addr} {d : Option Addr} {o : Obj} {u : HO} : ¬ (exo a C d = .frz o u) := fun z => by unfold exo at z; cases z
theorem but_updR' {p D : Addr} {H H' : Hp} {o : HO} (h : But p H H') (n : H D = none) : But p H (upd H' D o) := fun b o' ne hb => by
  have : b ≠ D := fun z => by rw [z, n] at hb; cases hb
  rw [upd_ne this]
  exact h b o' ne hb
section
variable {X : Cx} {x : Str} {p pos : Pos} {k : Nat} {sp : Sp}
/-- C() as a value, C's own __init__ keeping sp -/
theorem pe_mkv0 {C : Addr} (M : MkC X.prog X.w X.K X.mg X.base k x C sp) (hr : Room (k + 1) X.A) (hg : Gl X x) (hdb : (x == ("__debug__" : Str)) = false := by decide) :
    PE X (.Call (.Name x p) [] [] pos) (tMkV C sp tNil) := by
  obtain ⟨fI, fd, ps, T, iC, tI, F1, hb, hm⟩ := M.ex
  constructor
  intro pins s σ H Q I h
  obtain ⟨nm, q, N, bs, bm, sn, sub, ab, col, dd, k0, k1, k2, k3, k5, hC, hbm⟩ := T.cls
  refine wpAny_Call_Name_kw (ld_glob I hg hm ?_ hdb)
  refine PySem.W.callWith_K0 I.kIn T.kC ?_
  obtain ⟨hz, q1⟩ := h
  have I1 := I
  obtain ⟨hp, g, dr, tk, os⟩ := s
  have hn : H (hp.objs.size + 1) = none := I1.hok.fresh (Nat.le_succ _)
  have hq := q1 (hp.objs.size + 1) hn
  generalize hh : (hp.push (PySem.W.kdv_tup [])).push (PySem.HandSPX.excO C hp.objs.size) = h2
  have kk : ∀ b o, hp.get? b = some o → h2.get? b = some o := fun b o z => by
    subst hh
    exact Heap.get?_push_of_some _ (Heap.get?_push_of_some _ z)
  have hget : h2.get? (hp.objs.size + 1) = some (PySem.HandSPX.excO C hp.objs.size) := by
    subst hh
    heap_get
  have I2 : Inv X pins σ (upd H (hp.objs.size + 1) (exo (hp.objs.size + 1) C none)) ⟨h2, g, dr, tk, os⟩ := I1.laid (t' := tk) (a := hp.objs.size + 1) (h' := h2) kk (Nat.le_succ _) (exo_ok hget)
  have r2 : Vals [V.ref (hp.objs.size + 1)] [Value.ref (hp.objs.size + 1)] := .cons rfl .nil
  have hl : ([Value.ref (hp.objs.size + 1)] ++ ([] : List Value)).length = ps.length := F1.len _ _ _ _ hq
  have bt := hb ⟨h2, g, dr, tk, os⟩ [Value.ref (hp.objs.size + 1)] I2.kIn hl
  have run := F1.run (X.A.under (.builtin "type.__call__" ⟨.ref C :: [], []⟩)) X.stack ⟨h2, g, dr, tk, os⟩ _ ⟨[Value.ref (hp.objs.size + 1)], []⟩ _ _ _ _ (hr.make C [] []) (I2.env0.make C [] []) bt r2 hq
  rw [← hh] at run
  refine wpAny_call (PySem.HandSPX.call_own F.excBase_ValueError (fun Y => PySem.HandSPX.refsVE_contains Y bm hbm) (I1.kIn _ _ hC) (PySem.W.looks_findIn I1.kIn iC) (fun self => PySem.W.bind_fn I1.kIn self tI) (Nat.zero_le _) (codeAny_mono run ?_))
  intro r s2 z
  cases r with
  | error er => exact False.elim z
  | ok fl =>
    cases fl with
    | ret u =>
      obtain ⟨v, H2, os2, bare2, un2, hok2, rv, ev, q2⟩ := z
      subst ev
      rw [hh] at un2
      exact ⟨rv, .ref (hp.objs.size + 1), H2, I2.call' (ch := []) os2 un2 hok2 bare2 (fun b y => absurd y (by simp)), rfl, q2⟩
    | next => exact False.elim z
    | brk => exact False.elim z
    | cont => exact False.elim z
end
end Mb
namespace Mb
open PySem L2
def upTo (n : Nat) (f : Nat → Bool) : Bool := (List.range n).all f
theorem upTo_ok {n : Nat} {f : Nat → Bool} (h : upTo n f = true) (i : Nat) (hi : i < n) : f i = true := List.all_eq_true.mp h i (List.mem_range.mpr hi)
def noF (K : PySem.W.Frag) (f : Str) (i : Nat) : Bool := He.eqO (PySem.W.findIn K (.ref (He.ga K (nm i))) f) (some none)
def xb (K : PySem.W.Frag) : Bool :=
  upTo 19 (fun i => (He.Fa.glo (nm i)).ok K) && (upTo 19 (fun i => excCB K (nm i)) && (upTo 19 (fun i => upTo 19 fun j => kitIs K (nm i) (nm j) (decide (((j : Nat) : Int) = ((i : Nat) : Int)))) && (upTo 19 (fun i => kitIs K (nm i) "BookError" true) &&
  (upTo 19 (fun i => eqV (PySem.W.kitOne K (.ref (He.ga K (nm i))) (.type "ValueError")) (some true)) && (upTo 14 (noF K "name") && (noF K "names" 14 && (noF K "number" 15 && (noF K "number" 16 &&
  (upTo 19 (fun i => ownOexB K (He.ga K (nm i))) && (upTo 19 (fun i => (He.Fa.meth (nm i) "__init__").ok K) && (boB K "BookError" && (veB K && upTo 19 (noF K "words")))))))))))))
structure Xs (K : PySem.W.Frag) (mg : Str → Option Value) : Prop where
  S : Cs K mg (fun i => He.ga K (nm i)) (He.ga K "BookError")
  nN : ∀ i, i < 14 → PySem.W.findIn K (.ref (He.ga K (nm i))) "name" = some none
  nL : PySem.W.findIn K (.ref (He.ga K (nm 14))) "names" = some none
  n15 : PySem.W.findIn K (.ref (He.ga K (nm 15))) "number" = some none
  n16 : PySem.W.findIn K (.ref (He.ga K (nm 16))) "number" = some none
  ox : ∀ i, i < 19 → OexC K (He.ga K (nm i))
  me : ∀ i, i < 19 → Meth K (He.ga K (nm i)) "__init__" (He.ma K (He.ga K (nm i)) "__init__")
  BI : BoI K (He.ga K "BookError") (He.ma K (He.ga K "BookError") "__init__")
  VI : PySem.W.findCls K (.type "ValueError") (.type "type") "__init__" = some (.val (.builtin "ValueError.__init__"))
  nW : ∀ i, i < 19 → PySem.W.findIn K (.ref (He.ga K (nm i))) "words" = some none
theorem xs_of {K : PySem.W.Frag} {h : Heap} {mg : Str → Option Value} (X : K.In h) (G : h.Ns mainGlobals mg) (gB : mg "BookError" = some (.ref (He.ga K "BookError"))) (c : xb K = true) : Xs K mg := by
  obtain ⟨c1, c⟩ := He.ba c
  obtain ⟨c2, c⟩ := He.ba c
  obtain ⟨c3, c⟩ := He.ba c
  obtain ⟨c4, c⟩ := He.ba c
  obtain ⟨c5, c⟩ := He.ba c
  obtain ⟨c6, c⟩ := He.ba c
  obtain ⟨c7, c⟩ := He.ba c
  obtain ⟨c8, c⟩ := He.ba c
  obtain ⟨c9, c⟩ := He.ba c
  obtain ⟨c10, c⟩ := He.ba c
  obtain ⟨c11, c⟩ := He.ba c
  obtain ⟨c12, c⟩ := He.ba c
  obtain ⟨c13, c14⟩ := He.ba c
  exact ⟨⟨fun i hi => He.glo_ok X G (upTo_ok c1 i hi), gB, fun i hi => excCB_ok (upTo_ok c2 i hi), fun i j hi hj => kitIs_ok (upTo_ok (upTo_ok c3 i hi) j hj), fun i hi => kitIs_ok (upTo_ok c4 i hi), fun i hi => of_decide_eq_true (upTo_ok c5 i hi)⟩,
    fun i hi => He.eqO_ok (upTo_ok c6 i hi), He.eqO_ok c7, He.eqO_ok c8, He.eqO_ok c9, fun i hi => ownOexB_ok (upTo_ok c10 i hi), fun i hi => He.meth_ok (upTo_ok c11 i hi), boB_ok c12, veB_ok c13, fun i hi => He.eqO_ok (upTo_ok c14 i hi)⟩
end Mb
namespace Mb
open PySem L2
def top (i : Nat) : Stmt := PySem.Challenge.pw_movebook_k30_refusals.main.body.getD i (.Pass ⟨0, 0, 0, 0⟩)
abbrev s_pool : Stmt := top 22
theorem sc_pool : FnScope ["_law_script", "_law_at", "_law_cell", "_law_digits"] ["_law_script", "_law_at"] (defScope s_pool) := ⟨rfl, rfl, rfl, by decide +kernel, rfl, by decide +kernel, by decide +kernel⟩
abbrev s_take : Stmt := top 23
theorem sc_take : FnScope ["_law_pool_here", "_law_wide", "_law_found", "_law_seed"] ["_law_pool_here", "_law_wide"] (defScope s_take) := ⟨rfl, rfl, rfl, by decide +kernel, rfl, by decide +kernel, by decide +kernel⟩
abbrev s_whole : Stmt := top 24
theorem sc_whole : FnScope ["_law_found"] ["_law_found"] (defScope s_whole) := ⟨rfl, rfl, rfl, by decide +kernel, rfl, by decide +kernel, by decide +kernel⟩
abbrev s_name : Stmt := top 25
theorem sc_name : FnScope ["_law_pool_here", "_law_had", "_law_words", "_law_name_here", "_law_k"] ["_law_pool_here", "_law_had"] (defScope s_name) := ⟨rfl, rfl, rfl, by decide +kernel, rfl, by decide +kernel, by decide +kernel⟩
abbrev s_made : Stmt := top 26
theorem sc_made : FnScope ["_law_way", "_law_name_here"] ["_law_way", "_law_name_here"] (defScope s_made) := ⟨rfl, rfl, rfl, by decide +kernel, rfl, by decide +kernel, by decide +kernel⟩
abbrev s_is : Stmt := top 27
theorem sc_is : FnScope ["_law_way", "_law_made_here", "_law_first", "_law_k"] ["_law_way", "_law_made_here"] (defScope s_is) := ⟨rfl, rfl, rfl, by decide +kernel, rfl, by decide +kernel, by decide +kernel⟩
abbrev s_law : Stmt := top 28
theorem sc_law : FnScope ["_law_script", "_law_pool_here", "_law_way", "_law_name_here", "_law_number", "_law_names", "_law_k", "_law_made_here", "_law_handed"] ["_law_script"] (defScope s_law) := ⟨rfl, rfl, rfl, by decide +kernel, rfl, by decide +kernel, by decide +kernel⟩
/-! ### the steps of a reading, taken by a word of one's own -/
local macro_rules | `(tactic| walk_at "sm") => `(tactic| first
  | assumption
  | ((with_reducible refine Mb.Sm.mul (m := ?mm) (n := ?nn) ?ga ?gb); (case ga => walk_at "sm"); (case gb => walk_at "sm"))
  | ((with_reducible refine Mb.Sm.addm (m := ?mm) (n := ?nn) ?ga ?gb); (case ga => walk_at "sm"); (case gb => walk_at "sm"))
  | ((with_reducible refine Mb.Sm.subm (m := ?mm) (n := ?nn) ?ga ?gb); (case ga => walk_at "sm"); (case gb => walk_at "sm"))
  | ((with_reducible refine Mb.Sm.neg (n := ?nn) ?ga); (case ga => walk_at "sm"))
  | exact Mb.Sm.lit (by decide)
  | exact Mb.Sm.lit2 (by decide +kernel))
local macro_rules | `(tactic| walk_at "c") => `(tactic| first
  | assumption
  | exact ⟨by decide, by decide, by decide⟩
  | (show (0 : Int) < _; omega)
  | exact Mb.Sm.cdiv (n := 64) (by decide) (by decide)
  | exact Mb.Sm.cmul (by walk_at "sm") (by walk_at "sm"))
local macro_rules | `(tactic| walk_at "st") => `(tactic| first
  | ((with_reducible refine Mb.r_var (v := ?vv) ?hv ?_); (case hv => rfl))
  | with_reducible refine Mb.r_c ?_
  | with_reducible refine Mb.r_op ?_
  | with_reducible refine Mb.r_un ?_
  | with_reducible refine Mb.r_i0 ?_
  | with_reducible refine Mb.r_u ?_
  | with_reducible refine Mb.r_eqI ?_
  | with_reducible refine Mb.r_neI ?_
  | with_reducible refine Mb.r_eqB ?_
  | with_reducible refine Mb.r_eqS ?_
  | with_reducible refine Mb.r_cb ?_
  | with_reducible refine Mb.r_bits ?_
  | with_reducible refine Mb.r_int ?_
  | with_reducible refine Mb.r_nil ?_
  | with_reducible refine Mb.r_cons ?_
  | with_reducible refine Mb.r_tup ?_
  | with_reducible refine Mb.r_lst ?_
  | with_reducible refine Mb.r_call ?_
  | with_reducible refine Mb.r_seqA ?_
  | with_reducible refine Mb.r_seqD ?_
  | with_reducible refine Mb.r_seqP ?_
  | with_reducible refine Mb.r_next ?_
  | with_reducible refine Mb.r_nx ?_
  | with_reducible refine Mb.r_asg ?_
  | ((with_reducible refine Mb.r_gname ?_); dsimp only [List.set])
  | with_reducible refine Mb.r_gsub ?_
  | with_reducible refine Mb.r_ret ?_
  | with_reducible refine Mb.r_drop ?_
  | with_reducible refine Mb.r_ifs ?_
  | with_reducible refine Mb.r_test ?_
  | with_reducible refine Mb.r_tB ?_
  | with_reducible refine Mb.r_bl ?_
  | (dsimp only; (with_reducible refine Mb.r_bl ?_))
  | with_reducible refine Mb.r_and ?_
  | with_reducible refine Mb.r_or ?_
  | with_reducible refine Mb.r_not ?_
  | with_reducible refine Mb.r_andV ?_
  | with_reducible refine Mb.r_orV ?_
  | with_reducible refine Mb.r_notV ?_
  | with_reducible refine Mb.r_par ?_
  | ((with_reducible refine Mb.r_two ?_); dsimp only [List.set])
  | ((with_reducible refine Mb.r_ixL (xs := ?xx) (v := ?vv) ?h1 ?h2 ?_); (case h1 => first | assumption | exact Mb.lstOf (by assumption)); (case h2 => rfl))
  | ((with_reducible refine Mb.r_ixT (xs := ?xx) (v := ?vv) ?h1 ?h2 ?_); (case h1 => first | assumption | exact Mb.tupOf (by assumption)); (case h2 => rfl))
  | ((with_reducible refine Mb.r_i ?c ?_); (case c => walk_at "c"))
  | with_reducible refine Mb.r_T ?_
  | with_reducible refine Mb.r_F ?_
  | with_reducible refine Mb.r_nT ?_
  | with_reducible refine Mb.r_nF ?_)
section
variable {P : Program} {w : World} {K : PySem.W.Frag} {mg : Str → Option Value} {base : Heap}
abbrev s_init_BookError : Stmt := inClass (top 1) 0
theorem sc_init_BookError : FnScope ["self", "message", "words"] ["self", "message", "words"] (defScope s_init_BookError) := ⟨rfl, rfl, rfl, by decide +kernel, rfl, by decide +kernel, by decide +kernel⟩
theorem ok_init_BookError (F : FnB K mg "BookError" "BookError.__init__" s_init_BookError) (z_ValueError : mg "ValueError" = none) (VI : PySem.W.findCls K (.type "ValueError") (.type "type") "__init__" = some (.val (.builtin "ValueError.__init__"))) : KnB P w K mg base 1 "BookError" ["self", "message", "words"] (spBook K) := by
  refine F.made sc_init_BookError (fun vs H Q E h => ?_) (fun f cdv A outer s H vs Q E hr h => ?_) rfl (fun _ _ _ _ _ _ _ us its h1 h2 => match us, h1, its, h2 with | [_, _, _], _, [_, _], _ => ⟨_, rfl, rfl⟩)
  · obtain ⟨a, C, wd, m, rfl, _⟩ := h
    rfl
  obtain ⟨a, C, wd, m, rfl, ha, T, hno, q⟩ := h
  refine ⟨_, (pss_cons (ps_expr (pe_veinit (by rfl) z_ValueError VI (pa_cons (pv 0) (pa_cons (pv 1) pa_nil))))
    (pss_one (ps_ost (pv 0) (pv 2)))), ?_⟩
  show (_ : TS) _ [some (.ref a), some (.str m), some (.ref wd)] _
  repeat walk_at "st"
  refine r_vei ?_
  repeat walk_at "st"
  refine ⟨a, C, _, rfl, (by show 1 ≤ 1000; decide), T, ha, ?_⟩
  refine r_ost ?_
  repeat walk_at "st"
  refine ⟨a, C, rfl, T, hno, .inl ⟨ha, fun dx nd ne => ?_⟩⟩
  exact q dx _ nd ne (but_new nd) upd_same (by rw [upd_ne ne]; exact upd_same)
abbrev s_init_BadName : Stmt := inClass (top 2) 0
theorem sc_init_BadName : FnScope ["self", "name"] ["self", "name"] (defScope s_init_BadName) := ⟨rfl, rfl, rfl, by decide +kernel, rfl, by decide +kernel, by decide +kernel⟩
theorem ok_init_BadName {C : Addr} (F : FnI K mg "BadName" "BadName.__init__" C s_init_BadName) (G_init_BookError : KnB P w K mg base 1 "BookError" ["self", "message", "words"] (spBook K)) (hnoW : PySem.W.findIn K (.ref C) "words" = some none) (hno : PySem.W.findIn K (.ref C) "name" = some none) : MkC P w K mg base 2 "BadName" C (spInitD C "name" okStr) := by
  refine F.made sc_init_BadName (fun vs H Q E h => ?_) (fun f cdv A outer s H vs Q E hr h T => ?_) (fun _ _ _ _ _ _ us hl => match us, hl with | [_, _], _ => rfl)
  · obtain ⟨a, v, rfl, _⟩ := h
    rfl
  obtain ⟨a, v, rfl, ⟨z, rfl, hz⟩, ha, q⟩ := h
  refine ⟨_, (pss_cons (ps_expr (pe_own G_init_BookError (hr.mono (by decide)) (by rfl) (pa_cons (pv 0) (pa_cons (pe_joined (.cons pe_str (.cons (pe_fmt (pv 1)) .nil))) (pa_cons (pe_tup (pa_cons pe_str (pa_cons (pv 1) pa_nil))) pa_nil)))))
    (pss_one (ps_ost (pv 0) (pv 1)))), ?_⟩
  show (_ : TS) _ [some (.ref a), some (.str z)] _
  repeat walk_at "st"
  refine r_js1 ?_
  repeat walk_at "st"
  refine ⟨_, rfl, by decide +kernel, ?_⟩
  refine r_js1 ?_
  refine r_fmt ?_
  repeat walk_at "st"
  refine .inl ⟨z, rfl, Nat.le_trans hz (by decide), ?_⟩
  refine ⟨z, rfl, ?_, ?_⟩
  · rw [cat_len, cat_len]
    exact Nat.le_trans (Nat.add_le_add (Nat.add_le_add (Nat.le_refl _) (show _ ≤ 100 by decide +kernel)) hz) (by decide +kernel)
  refine r_js0 ?_
  dsimp only
  repeat walk_at "st"
  refine ⟨sz rfl, fun wd nwd => ?_⟩
  have s1 := same_new nwd (.tup [V.str "BadName", .str z])
  repeat walk_at "st"
  refine ⟨a, C, wd, _, rfl, s1 _ _ ha, T, hnoW, fun dx H2 nd ne b2 e1 e2 => ?_⟩
  refine r_ost ?_
  repeat walk_at "st"
  refine ⟨a, C, rfl, T, hno, .inr ⟨dx, _, e1, e2, by simp, ?_⟩⟩
  exact q wd _ (but_updR' (fun c o nc hc => b2 c o nc (s1 _ _ hc)) (s1.free nd)) (.inr ⟨dx, by rw [upd_ne (Ne.symm ne)]; exact e1, upd_same⟩)
abbrev s_init_Taken : Stmt := inClass (top 3) 0
theorem sc_init_Taken : FnScope ["self", "name"] ["self", "name"] (defScope s_init_Taken) := ⟨rfl, rfl, rfl, by decide +kernel, rfl, by decide +kernel, by decide +kernel⟩
theorem ok_init_Taken {C : Addr} (F : FnI K mg "Taken" "Taken.__init__" C s_init_Taken) (G_init_BookError : KnB P w K mg base 1 "BookError" ["self", "message", "words"] (spBook K)) (hnoW : PySem.W.findIn K (.ref C) "words" = some none) (hno : PySem.W.findIn K (.ref C) "name" = some none) : MkC P w K mg base 2 "Taken" C (spInitD C "name" okStr) := by
  refine F.made sc_init_Taken (fun vs H Q E h => ?_) (fun f cdv A outer s H vs Q E hr h T => ?_) (fun _ _ _ _ _ _ us hl => match us, hl with | [_, _], _ => rfl)
  · obtain ⟨a, v, rfl, _⟩ := h
    rfl
  obtain ⟨a, v, rfl, ⟨z, rfl, hz⟩, ha, q⟩ := h
  refine ⟨_, (pss_cons (ps_expr (pe_own G_init_BookError (hr.mono (by decide)) (by rfl) (pa_cons (pv 0) (pa_cons (pe_joined (.cons pe_str (.cons (pe_fmt (pv 1)) .nil))) (pa_cons (pe_tup (pa_cons pe_str (pa_cons (pv 1) pa_nil))) pa_nil)))))
    (pss_one (ps_ost (pv 0) (pv 1)))), ?_⟩
  show (_ : TS) _ [some (.ref a), some (.str z)] _
  repeat walk_at "st"
  refine r_js1 ?_
  repeat walk_at "st"
  refine ⟨_, rfl, by decide +kernel, ?_⟩
  refine r_js1 ?_
  refine r_fmt ?_
  repeat walk_at "st"
  refine .inl ⟨z, rfl, Nat.le_trans hz (by decide), ?_⟩
  refine ⟨z, rfl, ?_, ?_⟩
  · rw [cat_len, cat_len]
    exact Nat.le_trans (Nat.add_le_add (Nat.add_le_add (Nat.le_refl _) (show _ ≤ 100 by decide +kernel)) hz) (by decide +kernel)
  refine r_js0 ?_
  dsimp only
  repeat walk_at "st"
  refine ⟨sz rfl, fun wd nwd => ?_⟩
  have s1 := same_new nwd (.tup [V.str "Taken", .str z])
  repeat walk_at "st"
  refine ⟨a, C, wd, _, rfl, s1 _ _ ha, T, hnoW, fun dx H2 nd ne b2 e1 e2 => ?_⟩
  refine r_ost ?_
  repeat walk_at "st"
  refine ⟨a, C, rfl, T, hno, .inr ⟨dx, _, e1, e2, by simp, ?_⟩⟩
  exact q wd _ (but_updR' (fun c o nc hc => b2 c o nc (s1 _ _ hc)) (s1.free nd)) (.inr ⟨dx, by rw [upd_ne (Ne.symm ne)]; exact e1, upd_same⟩)
abbrev s_init_NoThing : Stmt := inClass (top 4) 0
theorem sc_init_NoThing : FnScope ["self", "name"] ["self", "name"] (defScope s_init_NoThing) := ⟨rfl, rfl, rfl, by decide +kernel, rfl, by decide +kernel, by decide +kernel⟩
theorem ok_init_NoThing {C : Addr} (F : FnI K mg "NoThing" "NoThing.__init__" C s_init_NoThing) (G_init_BookError : KnB P w K mg base 1 "BookError" ["self", "message", "words"] (spBook K)) (hnoW : PySem.W.findIn K (.ref C) "words" = some none) (hno : PySem.W.findIn K (.ref C) "name" = some none) : MkC P w K mg base 2 "NoThing" C (spInitD C "name" okStr) := by
  refine F.made sc_init_NoThing (fun vs H Q E h => ?_) (fun f cdv A outer s H vs Q E hr h T => ?_) (fun _ _ _ _ _ _ us hl => match us, hl with | [_, _], _ => rfl)
  · obtain ⟨a, v, rfl, _⟩ := h
    rfl
  obtain ⟨a, v, rfl, ⟨z, rfl, hz⟩, ha, q⟩ := h
  refine ⟨_, (pss_cons (ps_expr (pe_own G_init_BookError (hr.mono (by decide)) (by rfl) (pa_cons (pv 0) (pa_cons (pe_joined (.cons pe_str (.cons (pe_fmt (pv 1)) .nil))) (pa_cons (pe_tup (pa_cons pe_str (pa_cons (pv 1) pa_nil))) pa_nil)))))
    (pss_one (ps_ost (pv 0) (pv 1)))), ?_⟩
  show (_ : TS) _ [some (.ref a), some (.str z)] _
  repeat walk_at "st"
  refine r_js1 ?_
  repeat walk_at "st"
  refine ⟨_, rfl, by decide +kernel, ?_⟩
  refine r_js1 ?_
  refine r_fmt ?_
  repeat walk_at "st"
  refine .inl ⟨z, rfl, Nat.le_trans hz (by decide), ?_⟩
  refine ⟨z, rfl, ?_, ?_⟩
  · rw [cat_len, cat_len]
    exact Nat.le_trans (Nat.add_le_add (Nat.add_le_add (Nat.le_refl _) (show _ ≤ 100 by decide +kernel)) hz) (by decide +kernel)
  refine r_js0 ?_
  dsimp only
  repeat walk_at "st"
  refine ⟨sz rfl, fun wd nwd => ?_⟩
  have s1 := same_new nwd (.tup [V.str "NoThing", .str z])
  repeat walk_at "st"
  refine ⟨a, C, wd, _, rfl, s1 _ _ ha, T, hnoW, fun dx H2 nd ne b2 e1 e2 => ?_⟩
  refine r_ost ?_
  repeat walk_at "st"
  refine ⟨a, C, rfl, T, hno, .inr ⟨dx, _, e1, e2, by simp, ?_⟩⟩
  exact q wd _ (but_updR' (fun c o nc hc => b2 c o nc (s1 _ _ hc)) (s1.free nd)) (.inr ⟨dx, by rw [upd_ne (Ne.symm ne)]; exact e1, upd_same⟩)
abbrev s_init_WrongSort : Stmt := inClass (top 5) 0
theorem sc_init_WrongSort : FnScope ["self", "name"] ["self", "name"] (defScope s_init_WrongSort) := ⟨rfl, rfl, rfl, by decide +kernel, rfl, by decide +kernel, by decide +kernel⟩
theorem ok_init_WrongSort {C : Addr} (F : FnI K mg "WrongSort" "WrongSort.__init__" C s_init_WrongSort) (G_init_BookError : KnB P w K mg base 1 "BookError" ["self", "message", "words"] (spBook K)) (hnoW : PySem.W.findIn K (.ref C) "words" = some none) (hno : PySem.W.findIn K (.ref C) "name" = some none) : MkC P w K mg base 2 "WrongSort" C (spInitD C "name" okStr) := by
  refine F.made sc_init_WrongSort (fun vs H Q E h => ?_) (fun f cdv A outer s H vs Q E hr h T => ?_) (fun _ _ _ _ _ _ us hl => match us, hl with | [_, _], _ => rfl)
  · obtain ⟨a, v, rfl, _⟩ := h
    rfl
  obtain ⟨a, v, rfl, ⟨z, rfl, hz⟩, ha, q⟩ := h
  refine ⟨_, (pss_cons (ps_expr (pe_own G_init_BookError (hr.mono (by decide)) (by rfl) (pa_cons (pv 0) (pa_cons (pe_joined (.cons pe_str (.cons (pe_fmt (pv 1)) .nil))) (pa_cons (pe_tup (pa_cons pe_str (pa_cons (pv 1) pa_nil))) pa_nil)))))
    (pss_one (ps_ost (pv 0) (pv 1)))), ?_⟩
  show (_ : TS) _ [some (.ref a), some (.str z)] _
  repeat walk_at "st"
  refine r_js1 ?_
  repeat walk_at "st"
  refine ⟨_, rfl, by decide +kernel, ?_⟩
  refine r_js1 ?_
  refine r_fmt ?_
  repeat walk_at "st"
  refine .inl ⟨z, rfl, Nat.le_trans hz (by decide), ?_⟩
  refine ⟨z, rfl, ?_, ?_⟩
  · rw [cat_len, cat_len]
    exact Nat.le_trans (Nat.add_le_add (Nat.add_le_add (Nat.le_refl _) (show _ ≤ 100 by decide +kernel)) hz) (by decide +kernel)
  refine r_js0 ?_
  dsimp only
  repeat walk_at "st"
  refine ⟨sz rfl, fun wd nwd => ?_⟩
  have s1 := same_new nwd (.tup [V.str "WrongSort", .str z])
  repeat walk_at "st"
  refine ⟨a, C, wd, _, rfl, s1 _ _ ha, T, hnoW, fun dx H2 nd ne b2 e1 e2 => ?_⟩
  refine r_ost ?_
  repeat walk_at "st"
  refine ⟨a, C, rfl, T, hno, .inr ⟨dx, _, e1, e2, by simp, ?_⟩⟩
  exact q wd _ (but_updR' (fun c o nc hc => b2 c o nc (s1 _ _ hc)) (s1.free nd)) (.inr ⟨dx, by rw [upd_ne (Ne.symm ne)]; exact e1, upd_same⟩)
abbrev s_init_NotFree : Stmt := inClass (top 6) 0
theorem sc_init_NotFree : FnScope ["self", "name"] ["self", "name"] (defScope s_init_NotFree) := ⟨rfl, rfl, rfl, by decide +kernel, rfl, by decide +kernel, by decide +kernel⟩
theorem ok_init_NotFree {C : Addr} (F : FnI K mg "NotFree" "NotFree.__init__" C s_init_NotFree) (G_init_BookError : KnB P w K mg base 1 "BookError" ["self", "message", "words"] (spBook K)) (hnoW : PySem.W.findIn K (.ref C) "words" = some none) (hno : PySem.W.findIn K (.ref C) "name" = some none) : MkC P w K mg base 2 "NotFree" C (spInitD C "name" okStr) := by
  refine F.made sc_init_NotFree (fun vs H Q E h => ?_) (fun f cdv A outer s H vs Q E hr h T => ?_) (fun _ _ _ _ _ _ us hl => match us, hl with | [_, _], _ => rfl)
  · obtain ⟨a, v, rfl, _⟩ := h
    rfl
  obtain ⟨a, v, rfl, ⟨z, rfl, hz⟩, ha, q⟩ := h
  refine ⟨_, (pss_cons (ps_expr (pe_own G_init_BookError (hr.mono (by decide)) (by rfl) (pa_cons (pv 0) (pa_cons (pe_joined (.cons pe_str (.cons (pe_fmt (pv 1)) .nil))) (pa_cons (pe_tup (pa_cons pe_str (pa_cons (pv 1) pa_nil))) pa_nil)))))
    (pss_one (ps_ost (pv 0) (pv 1)))), ?_⟩
  show (_ : TS) _ [some (.ref a), some (.str z)] _
  repeat walk_at "st"
  refine r_js1 ?_
  repeat walk_at "st"
  refine ⟨_, rfl, by decide +kernel, ?_⟩
  refine r_js1 ?_
  refine r_fmt ?_
  repeat walk_at "st"
  refine .inl ⟨z, rfl, Nat.le_trans hz (by decide), ?_⟩
  refine ⟨z, rfl, ?_, ?_⟩
  · rw [cat_len, cat_len]
    exact Nat.le_trans (Nat.add_le_add (Nat.add_le_add (Nat.le_refl _) (show _ ≤ 100 by decide +kernel)) hz) (by decide +kernel)
  refine r_js0 ?_
  dsimp only
  repeat walk_at "st"
  refine ⟨sz rfl, fun wd nwd => ?_⟩
  have s1 := same_new nwd (.tup [V.str "NotFree", .str z])
  repeat walk_at "st"
  refine ⟨a, C, wd, _, rfl, s1 _ _ ha, T, hnoW, fun dx H2 nd ne b2 e1 e2 => ?_⟩
  refine r_ost ?_
  repeat walk_at "st"
  refine ⟨a, C, rfl, T, hno, .inr ⟨dx, _, e1, e2, by simp, ?_⟩⟩
  exact q wd _ (but_updR' (fun c o nc hc => b2 c o nc (s1 _ _ hc)) (s1.free nd)) (.inr ⟨dx, by rw [upd_ne (Ne.symm ne)]; exact e1, upd_same⟩)
abbrev s_init_Far : Stmt := inClass (top 7) 0
theorem sc_init_Far : FnScope ["self", "name"] ["self", "name"] (defScope s_init_Far) := ⟨rfl, rfl, rfl, by decide +kernel, rfl, by decide +kernel, by decide +kernel⟩
theorem ok_init_Far {C : Addr} (F : FnI K mg "Far" "Far.__init__" C s_init_Far) (G_init_BookError : KnB P w K mg base 1 "BookError" ["self", "message", "words"] (spBook K)) (hnoW : PySem.W.findIn K (.ref C) "words" = some none) (hno : PySem.W.findIn K (.ref C) "name" = some none) : MkC P w K mg base 2 "Far" C (spInitD C "name" okStr) := by
  refine F.made sc_init_Far (fun vs H Q E h => ?_) (fun f cdv A outer s H vs Q E hr h T => ?_) (fun _ _ _ _ _ _ us hl => match us, hl with | [_, _], _ => rfl)
  · obtain ⟨a, v, rfl, _⟩ := h
    rfl
  obtain ⟨a, v, rfl, ⟨z, rfl, hz⟩, ha, q⟩ := h
  refine ⟨_, (pss_cons (ps_expr (pe_own G_init_BookError (hr.mono (by decide)) (by rfl) (pa_cons (pv 0) (pa_cons (pe_joined (.cons pe_str (.cons (pe_fmt (pv 1)) .nil))) (pa_cons (pe_tup (pa_cons pe_str (pa_cons (pv 1) pa_nil))) pa_nil)))))
    (pss_one (ps_ost (pv 0) (pv 1)))), ?_⟩
  show (_ : TS) _ [some (.ref a), some (.str z)] _
  repeat walk_at "st"
  refine r_js1 ?_
  repeat walk_at "st"
  refine ⟨_, rfl, by decide +kernel, ?_⟩
  refine r_js1 ?_
  refine r_fmt ?_
  repeat walk_at "st"
  refine .inl ⟨z, rfl, Nat.le_trans hz (by decide), ?_⟩
  refine ⟨z, rfl, ?_, ?_⟩
  · rw [cat_len, cat_len]
    exact Nat.le_trans (Nat.add_le_add (Nat.add_le_add (Nat.le_refl _) (show _ ≤ 100 by decide +kernel)) hz) (by decide +kernel)
  refine r_js0 ?_
  dsimp only
  repeat walk_at "st"
  refine ⟨sz rfl, fun wd nwd => ?_⟩
  have s1 := same_new nwd (.tup [V.str "Far", .str z])
  repeat walk_at "st"
  refine ⟨a, C, wd, _, rfl, s1 _ _ ha, T, hnoW, fun dx H2 nd ne b2 e1 e2 => ?_⟩
  refine r_ost ?_
  repeat walk_at "st"
  refine ⟨a, C, rfl, T, hno, .inr ⟨dx, _, e1, e2, by simp, ?_⟩⟩
  exact q wd _ (but_updR' (fun c o nc hc => b2 c o nc (s1 _ _ hc)) (s1.free nd)) (.inr ⟨dx, by rw [upd_ne (Ne.symm ne)]; exact e1, upd_same⟩)
abbrev s_init_TooHeavy : Stmt := inClass (top 8) 0
theorem sc_init_TooHeavy : FnScope ["self", "name"] ["self", "name"] (defScope s_init_TooHeavy) := ⟨rfl, rfl, rfl, by decide +kernel, rfl, by decide +kernel, by decide +kernel⟩
theorem ok_init_TooHeavy {C : Addr} (F : FnI K mg "TooHeavy" "TooHeavy.__init__" C s_init_TooHeavy) (G_init_BookError : KnB P w K mg base 1 "BookError" ["self", "message", "words"] (spBook K)) (hnoW : PySem.W.findIn K (.ref C) "words" = some none) (hno : PySem.W.findIn K (.ref C) "name" = some none) : MkC P w K mg base 2 "TooHeavy" C (spInitD C "name" okStr) := by
  refine F.made sc_init_TooHeavy (fun vs H Q E h => ?_) (fun f cdv A outer s H vs Q E hr h T => ?_) (fun _ _ _ _ _ _ us hl => match us, hl with | [_, _], _ => rfl)
  · obtain ⟨a, v, rfl, _⟩ := h
    rfl
  obtain ⟨a, v, rfl, ⟨z, rfl, hz⟩, ha, q⟩ := h
  refine ⟨_, (pss_cons (ps_expr (pe_own G_init_BookError (hr.mono (by decide)) (by rfl) (pa_cons (pv 0) (pa_cons (pe_joined (.cons pe_str (.cons (pe_fmt (pv 1)) .nil))) (pa_cons (pe_tup (pa_cons pe_str (pa_cons (pv 1) pa_nil))) pa_nil)))))
    (pss_one (ps_ost (pv 0) (pv 1)))), ?_⟩
  show (_ : TS) _ [some (.ref a), some (.str z)] _
  repeat walk_at "st"
  refine r_js1 ?_
  repeat walk_at "st"
  refine ⟨_, rfl, by decide +kernel, ?_⟩
  refine r_js1 ?_
  refine r_fmt ?_
  repeat walk_at "st"
  refine .inl ⟨z, rfl, Nat.le_trans hz (by decide), ?_⟩
  refine ⟨z, rfl, ?_, ?_⟩
  · rw [cat_len, cat_len]
    exact Nat.le_trans (Nat.add_le_add (Nat.add_le_add (Nat.le_refl _) (show _ ≤ 100 by decide +kernel)) hz) (by decide +kernel)
  refine r_js0 ?_
  dsimp only
  repeat walk_at "st"
  refine ⟨sz rfl, fun wd nwd => ?_⟩
  have s1 := same_new nwd (.tup [V.str "TooHeavy", .str z])
  repeat walk_at "st"
  refine ⟨a, C, wd, _, rfl, s1 _ _ ha, T, hnoW, fun dx H2 nd ne b2 e1 e2 => ?_⟩
  refine r_ost ?_
  repeat walk_at "st"
  refine ⟨a, C, rfl, T, hno, .inr ⟨dx, _, e1, e2, by simp, ?_⟩⟩
  exact q wd _ (but_updR' (fun c o nc hc => b2 c o nc (s1 _ _ hc)) (s1.free nd)) (.inr ⟨dx, by rw [upd_ne (Ne.symm ne)]; exact e1, upd_same⟩)
abbrev s_init_Ring : Stmt := inClass (top 9) 0
theorem sc_init_Ring : FnScope ["self", "name"] ["self", "name"] (defScope s_init_Ring) := ⟨rfl, rfl, rfl, by decide +kernel, rfl, by decide +kernel, by decide +kernel⟩
theorem ok_init_Ring {C : Addr} (F : FnI K mg "Ring" "Ring.__init__" C s_init_Ring) (G_init_BookError : KnB P w K mg base 1 "BookError" ["self", "message", "words"] (spBook K)) (hnoW : PySem.W.findIn K (.ref C) "words" = some none) (hno : PySem.W.findIn K (.ref C) "name" = some none) : MkC P w K mg base 2 "Ring" C (spInitD C "name" okStr) := by
  refine F.made sc_init_Ring (fun vs H Q E h => ?_) (fun f cdv A outer s H vs Q E hr h T => ?_) (fun _ _ _ _ _ _ us hl => match us, hl with | [_, _], _ => rfl)
  · obtain ⟨a, v, rfl, _⟩ := h
    rfl
  obtain ⟨a, v, rfl, ⟨z, rfl, hz⟩, ha, q⟩ := h
  refine ⟨_, (pss_cons (ps_expr (pe_own G_init_BookError (hr.mono (by decide)) (by rfl) (pa_cons (pv 0) (pa_cons (pe_joined (.cons pe_str (.cons (pe_fmt (pv 1)) .nil))) (pa_cons (pe_tup (pa_cons pe_str (pa_cons (pv 1) pa_nil))) pa_nil)))))
    (pss_one (ps_ost (pv 0) (pv 1)))), ?_⟩
  show (_ : TS) _ [some (.ref a), some (.str z)] _
  repeat walk_at "st"
  refine r_js1 ?_
  repeat walk_at "st"
  refine ⟨_, rfl, by decide +kernel, ?_⟩
  refine r_js1 ?_
  refine r_fmt ?_
  repeat walk_at "st"
  refine .inl ⟨z, rfl, Nat.le_trans hz (by decide), ?_⟩
  refine ⟨z, rfl, ?_, ?_⟩
  · rw [cat_len, cat_len]
    exact Nat.le_trans (Nat.add_le_add (Nat.add_le_add (Nat.le_refl _) (show _ ≤ 100 by decide +kernel)) hz) (by decide +kernel)
  refine r_js0 ?_
  dsimp only
  repeat walk_at "st"
  refine ⟨sz rfl, fun wd nwd => ?_⟩
  have s1 := same_new nwd (.tup [V.str "Ring", .str z])
  repeat walk_at "st"
  refine ⟨a, C, wd, _, rfl, s1 _ _ ha, T, hnoW, fun dx H2 nd ne b2 e1 e2 => ?_⟩
  refine r_ost ?_
  repeat walk_at "st"
  refine ⟨a, C, rfl, T, hno, .inr ⟨dx, _, e1, e2, by simp, ?_⟩⟩
  exact q wd _ (but_updR' (fun c o nc hc => b2 c o nc (s1 _ _ hc)) (s1.free nd)) (.inr ⟨dx, by rw [upd_ne (Ne.symm ne)]; exact e1, upd_same⟩)
abbrev s_init_Locked : Stmt := inClass (top 10) 0
theorem sc_init_Locked : FnScope ["self", "name"] ["self", "name"] (defScope s_init_Locked) := ⟨rfl, rfl, rfl, by decide +kernel, rfl, by decide +kernel, by decide +kernel⟩
theorem ok_init_Locked {C : Addr} (F : FnI K mg "Locked" "Locked.__init__" C s_init_Locked) (G_init_BookError : KnB P w K mg base 1 "BookError" ["self", "message", "words"] (spBook K)) (hnoW : PySem.W.findIn K (.ref C) "words" = some none) (hno : PySem.W.findIn K (.ref C) "name" = some none) : MkC P w K mg base 2 "Locked" C (spInitD C "name" okStr) := by
  refine F.made sc_init_Locked (fun vs H Q E h => ?_) (fun f cdv A outer s H vs Q E hr h T => ?_) (fun _ _ _ _ _ _ us hl => match us, hl with | [_, _], _ => rfl)
  · obtain ⟨a, v, rfl, _⟩ := h
    rfl
  obtain ⟨a, v, rfl, ⟨z, rfl, hz⟩, ha, q⟩ := h
  refine ⟨_, (pss_cons (ps_expr (pe_own G_init_BookError (hr.mono (by decide)) (by rfl) (pa_cons (pv 0) (pa_cons (pe_joined (.cons pe_str (.cons (pe_fmt (pv 1)) .nil))) (pa_cons (pe_tup (pa_cons pe_str (pa_cons (pv 1) pa_nil))) pa_nil)))))
    (pss_one (ps_ost (pv 0) (pv 1)))), ?_⟩
  show (_ : TS) _ [some (.ref a), some (.str z)] _
  repeat walk_at "st"
  refine r_js1 ?_
  repeat walk_at "st"
  refine ⟨_, rfl, by decide +kernel, ?_⟩
  refine r_js1 ?_
  refine r_fmt ?_
  repeat walk_at "st"
  refine .inl ⟨z, rfl, Nat.le_trans hz (by decide), ?_⟩
  refine ⟨z, rfl, ?_, ?_⟩
  · rw [cat_len, cat_len]
    exact Nat.le_trans (Nat.add_le_add (Nat.add_le_add (Nat.le_refl _) (show _ ≤ 100 by decide +kernel)) hz) (by decide +kernel)
  refine r_js0 ?_
  dsimp only
  repeat walk_at "st"
  refine ⟨sz rfl, fun wd nwd => ?_⟩
  have s1 := same_new nwd (.tup [V.str "Locked", .str z])
  repeat walk_at "st"
  refine ⟨a, C, wd, _, rfl, s1 _ _ ha, T, hnoW, fun dx H2 nd ne b2 e1 e2 => ?_⟩
  refine r_ost ?_
  repeat walk_at "st"
  refine ⟨a, C, rfl, T, hno, .inr ⟨dx, _, e1, e2, by simp, ?_⟩⟩
  exact q wd _ (but_updR' (fun c o nc hc => b2 c o nc (s1 _ _ hc)) (s1.free nd)) (.inr ⟨dx, by rw [upd_ne (Ne.symm ne)]; exact e1, upd_same⟩)
abbrev s_init_NoGroup : Stmt := inClass (top 11) 0
theorem sc_init_NoGroup : FnScope ["self", "name"] ["self", "name"] (defScope s_init_NoGroup) := ⟨rfl, rfl, rfl, by decide +kernel, rfl, by decide +kernel, by decide +kernel⟩
theorem ok_init_NoGroup {C : Addr} (F : FnI K mg "NoGroup" "NoGroup.__init__" C s_init_NoGroup) (G_init_BookError : KnB P w K mg base 1 "BookError" ["self", "message", "words"] (spBook K)) (hnoW : PySem.W.findIn K (.ref C) "words" = some none) (hno : PySem.W.findIn K (.ref C) "name" = some none) : MkC P w K mg base 2 "NoGroup" C (spInitD C "name" okStr) := by
  refine F.made sc_init_NoGroup (fun vs H Q E h => ?_) (fun f cdv A outer s H vs Q E hr h T => ?_) (fun _ _ _ _ _ _ us hl => match us, hl with | [_, _], _ => rfl)
  · obtain ⟨a, v, rfl, _⟩ := h
    rfl
  obtain ⟨a, v, rfl, ⟨z, rfl, hz⟩, ha, q⟩ := h
  refine ⟨_, (pss_cons (ps_expr (pe_own G_init_BookError (hr.mono (by decide)) (by rfl) (pa_cons (pv 0) (pa_cons (pe_joined (.cons pe_str (.cons (pe_fmt (pv 1)) .nil))) (pa_cons (pe_tup (pa_cons pe_str (pa_cons (pv 1) pa_nil))) pa_nil)))))
    (pss_one (ps_ost (pv 0) (pv 1)))), ?_⟩
  show (_ : TS) _ [some (.ref a), some (.str z)] _
  repeat walk_at "st"
  refine r_js1 ?_
  repeat walk_at "st"
  refine ⟨_, rfl, by decide +kernel, ?_⟩
  refine r_js1 ?_
  refine r_fmt ?_
  repeat walk_at "st"
  refine .inl ⟨z, rfl, Nat.le_trans hz (by decide), ?_⟩
  refine ⟨z, rfl, ?_, ?_⟩
  · rw [cat_len, cat_len]
    exact Nat.le_trans (Nat.add_le_add (Nat.add_le_add (Nat.le_refl _) (show _ ≤ 100 by decide +kernel)) hz) (by decide +kernel)
  refine r_js0 ?_
  dsimp only
  repeat walk_at "st"
  refine ⟨sz rfl, fun wd nwd => ?_⟩
  have s1 := same_new nwd (.tup [V.str "NoGroup", .str z])
  repeat walk_at "st"
  refine ⟨a, C, wd, _, rfl, s1 _ _ ha, T, hnoW, fun dx H2 nd ne b2 e1 e2 => ?_⟩
  refine r_ost ?_
  repeat walk_at "st"
  refine ⟨a, C, rfl, T, hno, .inr ⟨dx, _, e1, e2, by simp, ?_⟩⟩
  exact q wd _ (but_updR' (fun c o nc hc => b2 c o nc (s1 _ _ hc)) (s1.free nd)) (.inr ⟨dx, by rw [upd_ne (Ne.symm ne)]; exact e1, upd_same⟩)
abbrev s_init_NoWatcher : Stmt := inClass (top 12) 0
theorem sc_init_NoWatcher : FnScope ["self", "name"] ["self", "name"] (defScope s_init_NoWatcher) := ⟨rfl, rfl, rfl, by decide +kernel, rfl, by decide +kernel, by decide +kernel⟩
theorem ok_init_NoWatcher {C : Addr} (F : FnI K mg "NoWatcher" "NoWatcher.__init__" C s_init_NoWatcher) (G_init_BookError : KnB P w K mg base 1 "BookError" ["self", "message", "words"] (spBook K)) (hnoW : PySem.W.findIn K (.ref C) "words" = some none) (hno : PySem.W.findIn K (.ref C) "name" = some none) : MkC P w K mg base 2 "NoWatcher" C (spInitD C "name" okStr) := by
  refine F.made sc_init_NoWatcher (fun vs H Q E h => ?_) (fun f cdv A outer s H vs Q E hr h T => ?_) (fun _ _ _ _ _ _ us hl => match us, hl with | [_, _], _ => rfl)
  · obtain ⟨a, v, rfl, _⟩ := h
    rfl
  obtain ⟨a, v, rfl, ⟨z, rfl, hz⟩, ha, q⟩ := h
  refine ⟨_, (pss_cons (ps_expr (pe_own G_init_BookError (hr.mono (by decide)) (by rfl) (pa_cons (pv 0) (pa_cons (pe_joined (.cons pe_str (.cons (pe_fmt (pv 1)) .nil))) (pa_cons (pe_tup (pa_cons pe_str (pa_cons (pv 1) pa_nil))) pa_nil)))))
    (pss_one (ps_ost (pv 0) (pv 1)))), ?_⟩
  show (_ : TS) _ [some (.ref a), some (.str z)] _
  repeat walk_at "st"
  refine r_js1 ?_
  repeat walk_at "st"
  refine ⟨_, rfl, by decide +kernel, ?_⟩
  refine r_js1 ?_
  refine r_fmt ?_
  repeat walk_at "st"
  refine .inl ⟨z, rfl, Nat.le_trans hz (by decide), ?_⟩
  refine ⟨z, rfl, ?_, ?_⟩
  · rw [cat_len, cat_len]
    exact Nat.le_trans (Nat.add_le_add (Nat.add_le_add (Nat.le_refl _) (show _ ≤ 100 by decide +kernel)) hz) (by decide +kernel)
  refine r_js0 ?_
  dsimp only
  repeat walk_at "st"
  refine ⟨sz rfl, fun wd nwd => ?_⟩
  have s1 := same_new nwd (.tup [V.str "NoWatcher", .str z])
  repeat walk_at "st"
  refine ⟨a, C, wd, _, rfl, s1 _ _ ha, T, hnoW, fun dx H2 nd ne b2 e1 e2 => ?_⟩
  refine r_ost ?_
  repeat walk_at "st"
  refine ⟨a, C, rfl, T, hno, .inr ⟨dx, _, e1, e2, by simp, ?_⟩⟩
  exact q wd _ (but_updR' (fun c o nc hc => b2 c o nc (s1 _ _ hc)) (s1.free nd)) (.inr ⟨dx, by rw [upd_ne (Ne.symm ne)]; exact e1, upd_same⟩)
abbrev s_init_NoMark : Stmt := inClass (top 13) 0
theorem sc_init_NoMark : FnScope ["self", "name"] ["self", "name"] (defScope s_init_NoMark) := ⟨rfl, rfl, rfl, by decide +kernel, rfl, by decide +kernel, by decide +kernel⟩
theorem ok_init_NoMark {C : Addr} (F : FnI K mg "NoMark" "NoMark.__init__" C s_init_NoMark) (G_init_BookError : KnB P w K mg base 1 "BookError" ["self", "message", "words"] (spBook K)) (hnoW : PySem.W.findIn K (.ref C) "words" = some none) (hno : PySem.W.findIn K (.ref C) "name" = some none) : MkC P w K mg base 2 "NoMark" C (spInitD C "name" okStr) := by
  refine F.made sc_init_NoMark (fun vs H Q E h => ?_) (fun f cdv A outer s H vs Q E hr h T => ?_) (fun _ _ _ _ _ _ us hl => match us, hl with | [_, _], _ => rfl)
  · obtain ⟨a, v, rfl, _⟩ := h
    rfl
  obtain ⟨a, v, rfl, ⟨z, rfl, hz⟩, ha, q⟩ := h
  refine ⟨_, (pss_cons (ps_expr (pe_own G_init_BookError (hr.mono (by decide)) (by rfl) (pa_cons (pv 0) (pa_cons (pe_joined (.cons pe_str (.cons (pe_fmt (pv 1)) .nil))) (pa_cons (pe_tup (pa_cons pe_str (pa_cons (pv 1) pa_nil))) pa_nil)))))
    (pss_one (ps_ost (pv 0) (pv 1)))), ?_⟩
  show (_ : TS) _ [some (.ref a), some (.str z)] _
  repeat walk_at "st"
  refine r_js1 ?_
  repeat walk_at "st"
  refine ⟨_, rfl, by decide +kernel, ?_⟩
  refine r_js1 ?_
  refine r_fmt ?_
  repeat walk_at "st"
  refine .inl ⟨z, rfl, Nat.le_trans hz (by decide), ?_⟩
  refine ⟨z, rfl, ?_, ?_⟩
  · rw [cat_len, cat_len]
    exact Nat.le_trans (Nat.add_le_add (Nat.add_le_add (Nat.le_refl _) (show _ ≤ 100 by decide +kernel)) hz) (by decide +kernel)
  refine r_js0 ?_
  dsimp only
  repeat walk_at "st"
  refine ⟨sz rfl, fun wd nwd => ?_⟩
  have s1 := same_new nwd (.tup [V.str "NoMark", .str z])
  repeat walk_at "st"
  refine ⟨a, C, wd, _, rfl, s1 _ _ ha, T, hnoW, fun dx H2 nd ne b2 e1 e2 => ?_⟩
  refine r_ost ?_
  repeat walk_at "st"
  refine ⟨a, C, rfl, T, hno, .inr ⟨dx, _, e1, e2, by simp, ?_⟩⟩
  exact q wd _ (but_updR' (fun c o nc hc => b2 c o nc (s1 _ _ hc)) (s1.free nd)) (.inr ⟨dx, by rw [upd_ne (Ne.symm ne)]; exact e1, upd_same⟩)
abbrev s_init_Rooted : Stmt := inClass (top 14) 0
theorem sc_init_Rooted : FnScope ["self", "name"] ["self", "name"] (defScope s_init_Rooted) := ⟨rfl, rfl, rfl, by decide +kernel, rfl, by decide +kernel, by decide +kernel⟩
theorem ok_init_Rooted {C : Addr} (F : FnI K mg "Rooted" "Rooted.__init__" C s_init_Rooted) (G_init_BookError : KnB P w K mg base 1 "BookError" ["self", "message", "words"] (spBook K)) (hnoW : PySem.W.findIn K (.ref C) "words" = some none) (hno : PySem.W.findIn K (.ref C) "name" = some none) : MkC P w K mg base 2 "Rooted" C (spInitD C "name" okStr) := by
  refine F.made sc_init_Rooted (fun vs H Q E h => ?_) (fun f cdv A outer s H vs Q E hr h T => ?_) (fun _ _ _ _ _ _ us hl => match us, hl with | [_, _], _ => rfl)
  · obtain ⟨a, v, rfl, _⟩ := h
    rfl
  obtain ⟨a, v, rfl, ⟨z, rfl, hz⟩, ha, q⟩ := h
  refine ⟨_, (pss_cons (ps_expr (pe_own G_init_BookError (hr.mono (by decide)) (by rfl) (pa_cons (pv 0) (pa_cons (pe_joined (.cons pe_str (.cons (pe_fmt (pv 1)) .nil))) (pa_cons (pe_tup (pa_cons pe_str (pa_cons (pv 1) pa_nil))) pa_nil)))))
    (pss_one (ps_ost (pv 0) (pv 1)))), ?_⟩
  show (_ : TS) _ [some (.ref a), some (.str z)] _
  repeat walk_at "st"
  refine r_js1 ?_
  repeat walk_at "st"
  refine ⟨_, rfl, by decide +kernel, ?_⟩
  refine r_js1 ?_
  refine r_fmt ?_
  repeat walk_at "st"
  refine .inl ⟨z, rfl, Nat.le_trans hz (by decide), ?_⟩
  refine ⟨z, rfl, ?_, ?_⟩
  · rw [cat_len, cat_len]
    exact Nat.le_trans (Nat.add_le_add (Nat.add_le_add (Nat.le_refl _) (show _ ≤ 100 by decide +kernel)) hz) (by decide +kernel)
  refine r_js0 ?_
  dsimp only
  repeat walk_at "st"
  refine ⟨sz rfl, fun wd nwd => ?_⟩
  have s1 := same_new nwd (.tup [V.str "Rooted", .str z])
  repeat walk_at "st"
  refine ⟨a, C, wd, _, rfl, s1 _ _ ha, T, hnoW, fun dx H2 nd ne b2 e1 e2 => ?_⟩
  refine r_ost ?_
  repeat walk_at "st"
  refine ⟨a, C, rfl, T, hno, .inr ⟨dx, _, e1, e2, by simp, ?_⟩⟩
  exact q wd _ (but_updR' (fun c o nc hc => b2 c o nc (s1 _ _ hc)) (s1.free nd)) (.inr ⟨dx, by rw [upd_ne (Ne.symm ne)]; exact e1, upd_same⟩)
abbrev s_init_TooWide : Stmt := inClass (top 15) 0
theorem sc_init_TooWide : FnScope ["self", "name"] ["self", "name"] (defScope s_init_TooWide) := ⟨rfl, rfl, rfl, by decide +kernel, rfl, by decide +kernel, by decide +kernel⟩
theorem ok_init_TooWide {C : Addr} (F : FnI K mg "TooWide" "TooWide.__init__" C s_init_TooWide) (G_init_BookError : KnB P w K mg base 1 "BookError" ["self", "message", "words"] (spBook K)) (hnoW : PySem.W.findIn K (.ref C) "words" = some none) (hno : PySem.W.findIn K (.ref C) "name" = some none) : MkC P w K mg base 2 "TooWide" C (spInitD C "name" okStr) := by
  refine F.made sc_init_TooWide (fun vs H Q E h => ?_) (fun f cdv A outer s H vs Q E hr h T => ?_) (fun _ _ _ _ _ _ us hl => match us, hl with | [_, _], _ => rfl)
  · obtain ⟨a, v, rfl, _⟩ := h
    rfl
  obtain ⟨a, v, rfl, ⟨z, rfl, hz⟩, ha, q⟩ := h
  refine ⟨_, (pss_cons (ps_expr (pe_own G_init_BookError (hr.mono (by decide)) (by rfl) (pa_cons (pv 0) (pa_cons (pe_joined (.cons pe_str (.cons (pe_fmt (pv 1)) .nil))) (pa_cons (pe_tup (pa_cons pe_str (pa_cons (pv 1) pa_nil))) pa_nil)))))
    (pss_one (ps_ost (pv 0) (pv 1)))), ?_⟩
  show (_ : TS) _ [some (.ref a), some (.str z)] _
  repeat walk_at "st"
  refine r_js1 ?_
  repeat walk_at "st"
  refine ⟨_, rfl, by decide +kernel, ?_⟩
  refine r_js1 ?_
  refine r_fmt ?_
  repeat walk_at "st"
  refine .inl ⟨z, rfl, Nat.le_trans hz (by decide), ?_⟩
  refine ⟨z, rfl, ?_, ?_⟩
  · rw [cat_len, cat_len]
    exact Nat.le_trans (Nat.add_le_add (Nat.add_le_add (Nat.le_refl _) (show _ ≤ 100 by decide +kernel)) hz) (by decide +kernel)
  refine r_js0 ?_
  dsimp only
  repeat walk_at "st"
  refine ⟨sz rfl, fun wd nwd => ?_⟩
  have s1 := same_new nwd (.tup [V.str "TooWide", .str z])
  repeat walk_at "st"
  refine ⟨a, C, wd, _, rfl, s1 _ _ ha, T, hnoW, fun dx H2 nd ne b2 e1 e2 => ?_⟩
  refine r_ost ?_
  repeat walk_at "st"
  refine ⟨a, C, rfl, T, hno, .inr ⟨dx, _, e1, e2, by simp, ?_⟩⟩
  exact q wd _ (but_updR' (fun c o nc hc => b2 c o nc (s1 _ _ hc)) (s1.free nd)) (.inr ⟨dx, by rw [upd_ne (Ne.symm ne)]; exact e1, upd_same⟩)
abbrev s_init_Hung : Stmt := inClass (top 16) 0
theorem sc_init_Hung : FnScope ["self", "names"] ["self", "names"] (defScope s_init_Hung) := ⟨rfl, rfl, rfl, by decide +kernel, rfl, by decide +kernel, by decide +kernel⟩
theorem ok_init_Hung {C : Addr} (F : FnI K mg "Hung" "Hung.__init__" C s_init_Hung) (G_init_BookError : KnB P w K mg base 1 "BookError" ["self", "message", "words"] (spBook K)) (hnoW : PySem.W.findIn K (.ref C) "words" = some none) (hno : PySem.W.findIn K (.ref C) "names" = some none) (z_list : mg "list" = none) : MkC P w K mg base 2 "Hung" C (spInitLD K C "names") := by
  refine F.made sc_init_Hung (fun vs H Q E h => ?_) (fun f cdv A outer s H vs Q E hr h T => ?_) (fun _ _ _ _ _ _ us hl => match us, hl with | [_, _], _ => rfl)
  · obtain ⟨a, h, zs, rfl, _⟩ := h
    rfl
  obtain ⟨a, h, zs, rfl, hS, hzl, ha, q⟩ := h
  refine ⟨_, (pss_cons (ps_expr (pe_own G_init_BookError (hr.mono (by decide)) (by rfl) (pa_cons (pv 0) (pa_cons pe_str (pa_cons (pe_tup (pa_cons pe_str (StX.pa_star (pv 1) pa_nil))) pa_nil)))))
    (pss_one (ps_ost (pv 0) (pe_callTy call_list_of (by rfl) z_list (by decide +kernel) (pa_cons (pv 1) pa_nil))))), ?_⟩
  show (_ : TS) _ [some (.ref a), some (.ref h)] _
  repeat walk_at "st"
  show L2.tVar 1 _ _ _
  repeat walk_at "st"
  refine ⟨h, zs, rfl, .inr hS, ?_⟩
  repeat walk_at "st"
  refine ⟨by simp; exact Nat.le_trans (show zs.length + 1 ≤ 1000 by omega) (by decide), fun wd nwd => ?_⟩
  have s1 := same_new nwd (.tup (V.str "Hung" :: (zs ++ [])))
  have hS1 := s1.seq hS
  repeat walk_at "st"
  refine ⟨a, C, wd, _, rfl, s1 _ _ ha, T, hnoW, fun dx H2 nd ne b2 e1 e2 => ?_⟩
  have hS2 : SqL K H2 h zs := by
    rcases hS1 with (hs | ⟨o, hs⟩) | hs
    · exact .inl (.inl (b2 _ _ (fun z => by rw [z, s1 _ _ ha] at hs; exact absurd (Option.some.inj hs) (exo_lst)) hs))
    · exact .inl (.inr ⟨o, b2 _ _ (fun z => by rw [z, s1 _ _ ha] at hs; exact absurd (Option.some.inj hs) (exo_frz)) hs⟩)
    · exact .inr hs
  refine r_ost ?_
  repeat walk_at "st"
  refine ⟨h, zs, rfl, .inl hS2, fun l nl => ?_⟩
  have nla : l ≠ a := fun z => by rw [z, e1] at nl; cases nl
  have nld : l ≠ dx := fun z => by rw [z, e2] at nl; cases nl
  repeat walk_at "st"
  refine ⟨a, C, rfl, T, hno, .inr ⟨dx, _, by rw [upd_ne (Ne.symm nla)]; exact e1, by rw [upd_ne (Ne.symm nld)]; exact e2, by simp, ?_⟩⟩
  have bt : But a H (upd H2 l (.lst zs)) := but_updR' (fun c o nc hc => b2 c o nc (s1 _ _ hc)) (by
    cases hl : H l with
    | none => rfl
    | some o => rw [b2 _ _ nla (s1 _ _ hl)] at nl; cases nl)
  have nl0 : H l = none := by
    cases hl : H l with
    | none => rfl
    | some o => rw [b2 _ _ nla (s1 _ _ hl)] at nl; cases nl
  refine q wd l _ (but_updR' bt (s1.free nd)) nl0 nla ?_ (.inr ⟨dx, by rw [upd_ne (Ne.symm ne), upd_ne (Ne.symm nla)]; exact e1, upd_same⟩)
  rw [upd_ne nld, upd_same]
abbrev s_init_BadText : Stmt := inClass (top 17) 0
theorem sc_init_BadText : FnScope ["self", "number"] ["self", "number"] (defScope s_init_BadText) := ⟨rfl, rfl, rfl, by decide +kernel, rfl, by decide +kernel, by decide +kernel⟩
theorem ok_init_BadText {C : Addr} (F : FnI K mg "BadText" "BadText.__init__" C s_init_BadText) (G_init_BookError : KnB P w K mg base 1 "BookError" ["self", "message", "words"] (spBook K)) (hnoW : PySem.W.findIn K (.ref C) "words" = some none) (hno : PySem.W.findIn K (.ref C) "number" = some none) : MkC P w K mg base 2 "BadText" C (spInitD C "number" okInt) := by
  refine F.made sc_init_BadText (fun vs H Q E h => ?_) (fun f cdv A outer s H vs Q E hr h T => ?_) (fun _ _ _ _ _ _ us hl => match us, hl with | [_, _], _ => rfl)
  · obtain ⟨a, v, rfl, _⟩ := h
    rfl
  obtain ⟨a, v, rfl, ⟨z, rfl⟩, ha, q⟩ := h
  refine ⟨_, (pss_cons (ps_expr (pe_own G_init_BookError (hr.mono (by decide)) (by rfl) (pa_cons (pv 0) (pa_cons pe_str (pa_cons (pe_tup (pa_cons pe_str pa_nil)) pa_nil)))))
    (pss_one (ps_ost (pv 0) (pv 1)))), ?_⟩
  show (_ : TS) _ [some (.ref a), some (.int z)] _
  repeat walk_at "st"
  refine ⟨sz rfl, fun wd nwd => ?_⟩
  have s1 := same_new nwd (.tup [V.str "BadText"])
  repeat walk_at "st"
  refine ⟨a, C, wd, _, rfl, s1 _ _ ha, T, hnoW, fun dx H2 nd ne b2 e1 e2 => ?_⟩
  refine r_ost ?_
  repeat walk_at "st"
  refine ⟨a, C, rfl, T, hno, .inr ⟨dx, _, e1, e2, by simp, ?_⟩⟩
  exact q wd _ (but_updR' (fun c o nc hc => b2 c o nc (s1 _ _ hc)) (s1.free nd)) (.inr ⟨dx, by rw [upd_ne (Ne.symm ne)]; exact e1, upd_same⟩)
abbrev s_init_Nought : Stmt := inClass (top 18) 0
theorem sc_init_Nought : FnScope ["self", "number"] ["self", "number"] (defScope s_init_Nought) := ⟨rfl, rfl, rfl, by decide +kernel, rfl, by decide +kernel, by decide +kernel⟩
theorem ok_init_Nought {C : Addr} (F : FnI K mg "Nought" "Nought.__init__" C s_init_Nought) (G_init_BookError : KnB P w K mg base 1 "BookError" ["self", "message", "words"] (spBook K)) (hnoW : PySem.W.findIn K (.ref C) "words" = some none) (hno : PySem.W.findIn K (.ref C) "number" = some none) : MkC P w K mg base 2 "Nought" C (spInitD C "number" okInt) := by
  refine F.made sc_init_Nought (fun vs H Q E h => ?_) (fun f cdv A outer s H vs Q E hr h T => ?_) (fun _ _ _ _ _ _ us hl => match us, hl with | [_, _], _ => rfl)
  · obtain ⟨a, v, rfl, _⟩ := h
    rfl
  obtain ⟨a, v, rfl, ⟨z, rfl⟩, ha, q⟩ := h
  refine ⟨_, (pss_cons (ps_expr (pe_own G_init_BookError (hr.mono (by decide)) (by rfl) (pa_cons (pv 0) (pa_cons pe_str (pa_cons (pe_tup (pa_cons pe_str pa_nil)) pa_nil)))))
    (pss_one (ps_ost (pv 0) (pv 1)))), ?_⟩
  show (_ : TS) _ [some (.ref a), some (.int z)] _
  repeat walk_at "st"
  refine ⟨sz rfl, fun wd nwd => ?_⟩
  have s1 := same_new nwd (.tup [V.str "Nought"])
  repeat walk_at "st"
  refine ⟨a, C, wd, _, rfl, s1 _ _ ha, T, hnoW, fun dx H2 nd ne b2 e1 e2 => ?_⟩
  refine r_ost ?_
  repeat walk_at "st"
  refine ⟨a, C, rfl, T, hno, .inr ⟨dx, _, e1, e2, by simp, ?_⟩⟩
  exact q wd _ (but_updR' (fun c o nc hc => b2 c o nc (s1 _ _ hc)) (s1.free nd)) (.inr ⟨dx, by rw [upd_ne (Ne.symm ne)]; exact e1, upd_same⟩)
abbrev s_init_NoNumber : Stmt := inClass (top 19) 0
theorem sc_init_NoNumber : FnScope ["self"] ["self"] (defScope s_init_NoNumber) := ⟨rfl, rfl, rfl, by decide +kernel, rfl, by decide +kernel, by decide +kernel⟩
theorem ok_init_NoNumber {C : Addr} (F : FnI K mg "NoNumber" "NoNumber.__init__" C s_init_NoNumber) (G_init_BookError : KnB P w K mg base 1 "BookError" ["self", "message", "words"] (spBook K)) (hno : PySem.W.findIn K (.ref C) "words" = some none) : MkC P w K mg base 2 "NoNumber" C (spInit0 C) := by
  refine F.made sc_init_NoNumber (fun vs H Q E h => ?_) (fun f cdv A outer s H vs Q E hr h T => ?_) (fun _ _ _ _ _ _ us hl => match us, hl with | [_], _ => rfl)
  · obtain ⟨a, rfl, _⟩ := h
    rfl
  obtain ⟨a, rfl, ha, q⟩ := h
  refine ⟨_, (pss_one (ps_expr (pe_own G_init_BookError (hr.mono (by decide)) (by rfl) (pa_cons (pv 0) (pa_cons pe_str (pa_cons (pe_tup (pa_cons pe_str pa_nil)) pa_nil)))))), ?_⟩
  show (_ : TS) _ [some (.ref a)] _
  repeat walk_at "st"
  refine ⟨sz rfl, fun wd nw' => ?_⟩
  have s1 := same_new nw' (.tup [V.str "NoNumber"])
  have ne1 : a ≠ wd := fun z => by rw [z, nw'] at ha; cases ha
  repeat walk_at "st"
  refine ⟨a, C, wd, _, rfl, s1 _ _ ha, T, hno, fun dx H2 nd ne b2 e1 e2 => ?_⟩
  exact q dx _ H2 (s1.free nd) ne (fun c o nc hc => b2 c o nc (s1 _ _ hc)) e1 e2
abbrev s_init_NoStep : Stmt := inClass (top 20) 0
theorem sc_init_NoStep : FnScope ["self"] ["self"] (defScope s_init_NoStep) := ⟨rfl, rfl, rfl, by decide +kernel, rfl, by decide +kernel, by decide +kernel⟩
theorem ok_init_NoStep {C : Addr} (F : FnI K mg "NoStep" "NoStep.__init__" C s_init_NoStep) (G_init_BookError : KnB P w K mg base 1 "BookError" ["self", "message", "words"] (spBook K)) (hno : PySem.W.findIn K (.ref C) "words" = some none) : MkC P w K mg base 2 "NoStep" C (spInit0 C) := by
  refine F.made sc_init_NoStep (fun vs H Q E h => ?_) (fun f cdv A outer s H vs Q E hr h T => ?_) (fun _ _ _ _ _ _ us hl => match us, hl with | [_], _ => rfl)
  · obtain ⟨a, rfl, _⟩ := h
    rfl
  obtain ⟨a, rfl, ha, q⟩ := h
  refine ⟨_, (pss_one (ps_expr (pe_own G_init_BookError (hr.mono (by decide)) (by rfl) (pa_cons (pv 0) (pa_cons pe_str (pa_cons (pe_tup (pa_cons pe_str pa_nil)) pa_nil)))))), ?_⟩
  show (_ : TS) _ [some (.ref a)] _
  repeat walk_at "st"
  refine ⟨sz rfl, fun wd nw' => ?_⟩
  have s1 := same_new nw' (.tup [V.str "NoStep"])
  have ne1 : a ≠ wd := fun z => by rw [z, nw'] at ha; cases ha
  repeat walk_at "st"
  refine ⟨a, C, wd, _, rfl, s1 _ _ ha, T, hno, fun dx H2 nd ne b2 e1 e2 => ?_⟩
  exact q dx _ H2 (s1.free nd) ne (fun c o nc hc => b2 c o nc (s1 _ _ hc)) e1 e2
theorem ok_pool (F : Fn K mg "_law_pool" s_pool) (z_len : mg "len" = none) : Kn P w K mg base 1 "_law_pool" ["_law_script", "_law_at"] (spPool K) := by
  refine F.kn sc_pool (fun vs H Q E h => ?_) (fun f cdv A outer s H vs Q E hr h => ?_) (fun _ _ _ _ _ _ us hl => match us, hl with | [_, _], _ => rfl)
  · obtain ⟨a, ns, i, rfl, _⟩ := h
    rfl
  obtain ⟨a, ns, i, rfl, hS, hl, h0, h1, q⟩ := h
  refine ⟨_, (pss_cons (ps_set (i := 2) sc_pool.nd rfl (.inl rfl) pe_int)
    (pss_cons (ps_if (pt_cmpR op_gt (pe_callB call_len_seq (by rfl) z_len (by decide +kernel) (pa_cons (pv 0) pa_nil)) pe_int (nomark _))
    (pss_one (ps_set (i := 2) sc_pool.nd rfl (.inl rfl) (pe_ix ix_list (pv 0) (pe_op op_mod (pv 1) (pe_callB call_len_seq (by rfl) z_len (by decide +kernel) (pa_cons (pv 0) pa_nil))) (fun _ _ => rfl))))
    pss_nil)
    (pss_cons (ps_set (i := 3) sc_pool.nd rfl (.inl rfl) pe_int)
    (pss_cons (ps_if (PW.pt (pw_and (pt_cmpR op_ge (pv 2) (pe_op op_pow pe_int pe_int) (nomark _)) (pw_and1 (pt_cmpR op_lt (pv 1) (pe_callB call_len_seq (by rfl) z_len (by decide +kernel) (pa_cons (pv 0) pa_nil)) (nomark _)))))
    (pss_one (ps_set (i := 3) sc_pool.nd rfl (.inl rfl) (pv 2)))
    pss_nil)
    (pss_one (ps_ret (pe_lst (pa_cons (pv 3) (pa_cons (pe_op op_mulW pe_int (pv 1)) (pa_cons (pv 2) pa_nil)))))))))), ?_⟩
  show (_ : TS) _ [some (.ref a), some (.int i), none, none] _
  have hz : (ns.map V.int).length = ns.length := List.length_map _
  have si : Sm 64 i := by unfold Sm; omega
  have e18 : ((10 : Int) ^ (18 : Int).toNat) = 1000000000000000000 := by decide
  repeat walk_at "st"
  refine r_cut (fun σ H' => ∃ z : Int, σ = [some (.ref a), some (.int i), some (.int z), none] ∧ H' = H) ?_ (fun N J => ?_)
  · rintro σ H' ⟨z, rfl, rfl⟩
    repeat walk_at "st"
    refine r_cut (fun σ H2 => ∃ x : Int, σ = [some (.ref a), some (.int i), some (.int z), some (.int x)] ∧ H2 = H') ?_ (fun N J => ?_)
    · rintro σ H2 ⟨x, rfl, rfl⟩
      repeat walk_at "st"
      refine ⟨sz rfl, fun p hp => ?_⟩
      exact q p _ (same_new hp _) hp ⟨x, 1000 * i, z, upd_same, by omega, by omega⟩
    · repeat walk_at "st"
      refine r_ite (fun c => ?_) (fun c => ?_)
      · repeat walk_at "st"
        refine ⟨a, _, rfl, .inl hS, ?_⟩
        repeat walk_at "st"
        refine r_ite (fun c => ?_) (fun c => ?_)
        · repeat walk_at "st"
          exact J _ _ ⟨_, rfl, rfl⟩
        · repeat walk_at "st"
          exact J _ _ ⟨_, rfl, rfl⟩
      · repeat walk_at "st"
        exact J _ _ ⟨_, rfl, rfl⟩
  · repeat walk_at "st"
    refine ⟨a, _, rfl, .inl hS, ?_⟩
    repeat walk_at "st"
    refine r_ite (fun c => ?_) (fun c => ?_)
    · repeat walk_at "st"
      refine ⟨a, _, rfl, .inl hS, ?_⟩
      rw [hz] at c
      refine r_i (show (0 : Int) < _ by rw [hz]; omega) ?_
      have hk : (i % ((ns.map V.int).length : Int)).toNat < ns.length := by
        rw [hz]
        have := Int.emod_lt_of_pos i (show (0 : Int) < ns.length by omega)
        omega
      have e : i % ((ns.map V.int).length : Int) = (((i % ((ns.map V.int).length : Int)).toNat : Nat) : Int) := by
        rw [hz]
        have := Int.emod_nonneg i (show (ns.length : Int) ≠ 0 by omega)
        omega
      refine r_ixL hS (at_of e (by rw [List.getElem?_map, List.getElem?_eq_getElem hk]; rfl)) ?_
      repeat walk_at "st"
      exact J _ _ ⟨_, rfl, rfl⟩
    · repeat walk_at "st"
      exact J _ _ ⟨_, rfl, rfl⟩
theorem ok_take (F : Fn K mg "_law_take" s_take) : Kn P w K mg base 1 "_law_take" ["_law_pool_here", "_law_wide"] spTake := by
  refine F.kn sc_take (fun vs H Q E h => ?_) (fun f cdv A outer s H vs Q E hr h => ?_) (fun _ _ _ _ _ _ us hl => match us, hl with | [_, _], _ => rfl)
  · obtain ⟨p, k, b, rfl, _⟩ := h
    rfl
  obtain ⟨p, k, b, rfl, ⟨x, y, z, hp, y0, y1⟩, hb, hk, hk2, q⟩ := h
  refine ⟨_, (pss_cons (ps_if (pt_cmpR op_gt (pe_ix ix_list (pv 0) pe_int (fun _ _ => rfl)) pe_int (nomark _))
    (pss_cons (ps_set (i := 2) sc_take.nd rfl (.inl rfl) (pe_op op_mod (pe_ix ix_list (pv 0) pe_int (fun _ _ => rfl)) (pv 1)))
    (pss_cons (ps_asg (pe_op op_fdivW (pe_ix ix_list (pv 0) pe_int (fun _ _ => rfl)) (pv 1)) (pg_sub (pv 0) pe_int set_list))
    (pss_one (ps_ret (pv 2)))))
    pss_nil)
    (pss_cons (ps_asg (pe_op op_add (pe_ix ix_list (pv 0) pe_int (fun _ _ => rfl)) pe_int) (pg_sub (pv 0) pe_int set_list))
    (pss_cons (ps_set (i := 3) sc_take.nd rfl (.inl rfl) (pe_op op_mod (pe_op op_pow (pe_op op_add (pe_op op_mod (pe_ix ix_list (pv 0) pe_int (fun _ _ => rfl)) pe_int) (pe_op op_mulW pe_int (pe_ix ix_list (pv 0) pe_int (fun _ _ => rfl)))) pe_int) pe_int))
    (pss_cons (ps_set (i := 3) sc_take.nd rfl (.inl rfl) (pe_op op_add (pe_op op_mulW (pv 3) pe_int) (pe_op op_mulW (pe_op op_mulW (pe_ix ix_list (pv 0) pe_int (fun _ _ => rfl)) (pe_ix ix_list (pv 0) pe_int (fun _ _ => rfl))) pe_int)))
    (pss_one (ps_ret (pe_op op_mod (pe_op op_fdivW (pe_op op_mod (pe_op op_add (pv 3) (pe_op op_fdivW (pe_ix ix_list (pv 0) pe_int (fun _ _ => rfl)) pe_int)) pe_int) pe_int) (pv 1)))))))), ?_⟩
  show (_ : TS) _ [some (.ref p), some (.int k), none, none] _
  have sk : Sm 64 k := by unfold Sm; omega
  have sy : Sm 64 (y + 1) := by unfold Sm; omega
  have m0 : ∀ i : Int, 0 ≤ i % k := fun i => Int.emod_nonneg i (by omega)
  have m1 : ∀ i : Int, i % k < k := fun i => Int.emod_lt_of_pos i (by omega)
  refine r_seq ?_
  repeat walk_at "st"
  refine r_ite (fun c => ?_) (fun c => ?_)
  · repeat walk_at "st"
    refine r_i (Sm.cdiv (by omega) sk) ?_
    repeat walk_at "st"
    refine r_setL hp rfl ?_
    repeat walk_at "st"
    exact q _ _ (But.upd _ _ _) ⟨_, y, z, upd_same, y0, by omega⟩ (m0 _) (m1 _)
  · repeat walk_at "st"
    refine r_setL hp rfl ?_
    dsimp only [List.set]
    have hp2 : (upd H p (.lst [.int x, .int (y + 1), .int z])) p = some (.lst [.int x, .int (y + 1), .int z]) := upd_same
    have e1 := Int.emod_nonneg z (show (2147483647 : Int) ≠ 0 by decide)
    have e2 := Int.emod_lt_of_pos z (show (0 : Int) < 2147483647 by decide)
    generalize hz : z % 2147483647 = z' at e1 e2
    repeat walk_at "st"
    rw [hz]
    refine r_i ⟨by decide, by decide, by omega⟩ ?_
    repeat walk_at "st"
    generalize hs : (z' + 40503 * (y + 1)) ^ Int.toNat 5 % 2147483647 = sd
    have e3 : 0 ≤ sd := by rw [← hs]; exact Int.emod_nonneg _ (by decide)
    have e4 : sd < 2147483647 := by rw [← hs]; exact Int.emod_lt_of_pos _ (by decide)
    have ss : Sm 64 sd := by unfold Sm; omega
    repeat walk_at "st"
    exact q _ _ (But.upd _ _ _) ⟨x, y + 1, z, upd_same, by omega, by omega⟩ (m0 _) (m1 _)
theorem ok_whole (F : Fn K mg "_law_whole" s_whole) (z_isinstance : mg "isinstance" = none) (z_int : mg "int" = none) (z_bool : mg "bool" = none) : Kn P w K mg base 1 "_law_whole" ["_law_found"] spWhole := by
  refine F.kn sc_whole (fun vs H Q E h => ?_) (fun f cdv A outer s H vs Q E hr h => ?_) (fun _ _ _ _ _ _ us hl => match us, hl with | [_], _ => rfl)
  · obtain ⟨i, rfl, _⟩ := h
    rfl
  obtain ⟨i, rfl, q⟩ := h
  refine ⟨_, (pss_one (ps_ret (pe_and (pe_callB call_isi (by rfl) z_isinstance (by decide +kernel) (pa_cons (pv 0) (pa_cons (pe_bltn (v := .ty "int") (by rfl) z_int (by decide +kernel) rfl) pa_nil))) (pe_one (pe_not (pe_callB call_isi (by rfl) z_isinstance (by decide +kernel) (pa_cons (pv 0) (pa_cons (pe_bltn (v := .ty "bool") (by rfl) z_bool (by decide +kernel) rfl) pa_nil)))))))), ?_⟩
  show (_ : TS) _ [some (.int i)] _
  repeat walk_at "st"
  refine r_isi (r := true) (.base (.int _)) (by decide +kernel) ?_
  repeat walk_at "st"
  refine r_isi (r := false) (.base (.int _)) (by decide +kernel) ?_
  repeat walk_at "st"
  exact q
theorem ok_name (F : Fn K mg "_law_name" s_name) (G_take : Kn P w K mg base 1 "_law_take" ["_law_pool_here", "_law_wide"] spTake) (z_len : mg "len" = none) (z_range : mg "range" = none) (z_str : mg "str" = none) : Kn P w K mg base 2 "_law_name" ["_law_pool_here", "_law_had"] (spName K) := by
  refine F.kn sc_name (fun vs H Q E h => ?_) (fun f cdv A outer s H vs Q E hr h => ?_) (fun _ _ _ _ _ _ us hl => match us, hl with | [_, _], _ => rfl)
  · obtain ⟨p, h, b, zs, rfl, _⟩ := h
    rfl
  obtain ⟨p, h, b, zs, rfl, hp, hb, hS, nph, hzs, q⟩ := h
  refine ⟨_, (pss_cons (ps_set (i := 2) sc_name.nd rfl (.inl rfl) (pe_lst (pa_cons pe_str (pa_cons pe_str (pa_cons pe_str (pa_cons pe_str (pa_cons pe_str (pa_cons pe_str (pa_cons pe_str (pa_cons pe_str pa_nil))))))))))
    (pss_cons (ps_set (i := 2) sc_name.nd rfl (.inl rfl) (pe_op op_cat (pv 2) (pe_lst (pa_cons pe_str (pa_cons pe_str (pa_cons pe_str (pa_cons pe_str (pa_cons pe_str pa_nil))))))))
    (pss_cons (ps_if (pt_cmpR op_eq (pe_kn G_take (hr.mono (by decide)) (by rfl) (pa_cons (pv 0) (pa_cons pe_int pa_nil))) pe_int (nomark _))
    (pss_one (ps_set (i := 3) sc_name.nd rfl (.inl rfl) (pe_ix ix_list (pv 2) (pe_kn G_take (hr.mono (by decide)) (by rfl) (pa_cons (pv 0) (pa_cons pe_int pa_nil))) (fun _ _ => rfl))))
    (pss_cons (ps_set (i := 3) sc_name.nd rfl (.inl rfl) (pe_ix ix_str pe_str (pe_kn G_take (hr.mono (by decide)) (by rfl) (pa_cons (pv 0) (pa_cons pe_int pa_nil))) (fun _ _ => rfl)))
    (pss_one (ps_for PassesOwn.never rfl (pi_range1 (by rfl) z_range (pa_cons (pe_ix ix_list (pe_lst (pa_cons pe_int (pa_cons pe_int (pa_cons pe_int (pa_cons pe_int (pa_cons pe_int (pa_cons pe_int (pa_cons pe_int (pa_cons pe_int pa_nil))))))))) (pe_kn G_take (hr.mono (by decide)) (by rfl) (pa_cons (pv 0) (pa_cons pe_int pa_nil))) (fun _ _ => rfl)) pa_nil)) (pg_name (i := 4) sc_name.nd rfl (.inl rfl))
    (pss_one (ps_set (i := 3) sc_name.nd rfl (.inl rfl) (pe_op op_add_str (pv 3) (pe_ix ix_str pe_str (pe_kn G_take (hr.mono (by decide)) (by rfl) (pa_cons (pv 0) (pa_cons pe_int pa_nil))) (fun _ _ => rfl)))))))))
    (pss_cons (ps_if (pt_cmpR op_notIn_seq (pv 3) (pv 1) (by rfl))
    (pss_one (ps_ret (pv 3)))
    pss_nil)
    (pss_cons (ps_for PassesOwn.never rfl (pi_range1 (by rfl) z_range (pa_cons (pe_op op_add (pe_callB call_len_seq (by rfl) z_len (by decide +kernel) (pa_cons (pv 1) pa_nil)) pe_int) pa_nil)) (pg_name (i := 4) sc_name.nd rfl (.inl rfl))
    (pss_one (ps_if (pt_cmpR op_notIn_seq (pe_op op_add_str (pe_slice sl_str (pv 3) po_none (po_some pe_int)) (pe_callTy call_str_int (by rfl) z_str (by decide +kernel) (pa_cons (pv 4) pa_nil))) (pv 1) (by rfl))
    (pss_one (ps_ret (pe_op op_add_str (pe_slice sl_str (pv 3) po_none (po_some pe_int)) (pe_callTy call_str_int (by rfl) z_str (by decide +kernel) (pa_cons (pv 4) pa_nil)))))
    pss_nil)))
    (pss_one (ps_ret (pv 3)))))))), ?_⟩
  show (_ : TS) _ [some (.ref p), some (.ref h), none, none, none] _
  repeat walk_at "st"
  refine ⟨sz rfl, fun l1 n1 => ?_⟩
  obtain ⟨J1, e1, s1, k1⟩ := nw n1 (.lst [V.str "free", .str "gone", .str "kept", .str "line", .str "cut", .str "put", .str "all", .str "at"])
  rw [← e1]
  repeat walk_at "st"
  refine ⟨sz rfl, fun l2 n2 => ?_⟩
  obtain ⟨J2, e2, s2, k2⟩ := nw n2 (.lst [V.str "same", .str "take", .str "lock", .str "group", .str "watch"])
  rw [← e2]
  repeat walk_at "st"
  refine ⟨l1, l2, _, _, rfl, rfl, s2 _ _ k1, k2, sz rfl, fun l3 n3 => ?_⟩
  obtain ⟨J3, e3, s3, k3⟩ := nw n3 (.lst ([V.str "free", .str "gone", .str "kept", .str "line", .str "cut", .str "put", .str "all", .str "at"] ++ [V.str "same", .str "take", .str "lock", .str "group", .str "watch"]))
  rw [← e3]
  have sJ : Same H J3 := s1.trans (s2.trans s3)
  have hS3 := sJ.seq hS
  have hp3 := hp.same sJ
  clear e1 e2 e3
  repeat walk_at "st"
  have stay : ∀ {H1 H2 : Hp}, But p H1 H2 → SqL K H1 h (zs.map V.str) → SqL K H2 h (zs.map V.str) := fun b1 hs => by
    rcases hs with (hs | ⟨o, hs⟩) | hs
    · exact .inl (.inl (b1 _ _ nph hs))
    · exact .inl (.inr ⟨o, b1 _ _ nph hs⟩)
    · exact .inr hs
  have one : ∀ c : Nat, (⟨#[c]⟩ : Str).length = 1 := fun _ => rfl
  refine r_cut (fun σ H' => ∃ (z : Str) (y : Option V), σ = [some (.ref p), some (.ref h), some (.ref l3), some (.str z), y] ∧ But p H H' ∧ Pl H' p (b + 20) ∧ SqL K H' h (zs.map V.str) ∧ z.length ≤ 20) ?_ (fun N J => ?_)
  · rintro σ H4 ⟨z, y, rfl, b4, hp4, hS4, hz⟩
    have hz2 : z.length ≤ sizeLine := Nat.le_trans hz (by decide)
    refine r_seq ?_
    repeat walk_at "st"
    refine ⟨h, _, rfl, .inl hS4, rfl, by rw [List.all_map]; exact List.all_eq_true.mpr (fun _ _ => rfl), ?_⟩
    repeat walk_at "st"
    have out : ∀ (x : Str), x.length ≤ 40 → Q (.str x) H4 := fun x hx => q x H4 b4 (hp4.mono (by omega)) hx
    cases inV (.str z) (zs.map V.str) with
    | false =>
      refine r_dT rfl ?_
      repeat walk_at "st"
      exact out z (by omega)
    | true =>
      refine r_dF rfl ?_
      repeat walk_at "st"
      refine r_seq ?_
      refine ⟨_, rfl, h, _, rfl, .inl hS4, _, _, rfl, rfl, _, rfl, ?_, ?_, ?_⟩
      · rw [List.length_map]; omega
      · rw [List.length_map]; omega
      have en : ((((zs.map V.str).length : Nat) : Int) + 1).toNat = zs.length + 1 := by rw [List.length_map]; omega
      rw [en]
      refine for_range (n := zs.length + 1) (fun i σ H1 => H1 = H4 ∧ ∃ y, σ = [some (.ref p), some (.ref h), some (.ref l3), some (.str z), y]) ⟨rfl, _, rfl⟩ ?_ ?_
      · rintro i σ H1 hi ⟨rfl, y, rfl⟩
        have hc : (cutS z none (some 9)).length ≤ 20 := Nat.le_trans (cutS_length _ _ _) hz
        have ht : (Str.ofString (toString (0 + (i : Int)))).length ≤ 2 := by
          have : i = 0 ∨ i = 1 ∨ i = 2 ∨ i = 3 ∨ i = 4 ∨ i = 5 ∨ i = 6 ∨ i = 7 ∨ i = 8 := by omega
          rcases this with rfl | rfl | rfl | rfl | rfl | rfl | rfl | rfl | rfl <;> decide +kernel
        have hl : (0 + (i : Int)).natAbs.log2 < 1920 := by
          have : (0 + (i : Int)).natAbs ≤ 9 := by omega
          have : i = 0 ∨ i = 1 ∨ i = 2 ∨ i = 3 ∨ i = 4 ∨ i = 5 ∨ i = 6 ∨ i = 7 ∨ i = 8 := by omega
          rcases this with rfl | rfl | rfl | rfl | rfl | rfl | rfl | rfl | rfl <;> decide +kernel
        have hcat : (cutS z none (some 9)).length + (Str.ofString (toString (0 + (i : Int)))).length ≤ sizeLine := Nat.le_trans (show _ ≤ 1000 by omega) (by decide)
        repeat walk_at "st"
        refine ⟨.str z, rfl, 9, rfl, z, rfl, hz2, ?_⟩
        repeat walk_at "st"
        refine ⟨_, rfl, hl, ?_⟩
        refine ⟨_, _, rfl, rfl, hcat, ?_⟩
        repeat walk_at "st"
        refine ⟨h, _, rfl, .inl hS4, rfl, by rw [List.all_map]; exact List.all_eq_true.mpr (fun _ _ => rfl), ?_⟩
        repeat walk_at "st"
        cases inV (.str (cutS z none (some 9) ++ Str.ofString (toString (0 + (i : Int))))) (zs.map V.str) with
        | false =>
          refine r_dT rfl ?_
          repeat walk_at "st"
          refine ⟨.str z, rfl, 9, rfl, z, rfl, hz2, ?_⟩
          repeat walk_at "st"
          refine ⟨_, rfl, hl, ?_⟩
          refine ⟨_, _, rfl, rfl, hcat, ?_⟩
          exact out _ (by rw [cat_len]; omega)
        | true =>
          refine r_dF rfl ?_
          repeat walk_at "st"
          exact ⟨rfl, _, rfl⟩
      · rintro σ H1 ⟨rfl, y, rfl⟩
        repeat walk_at "st"
        exact out z (by omega)
  · repeat walk_at "st"
    refine ⟨p, _, b, rfl, hp3, by omega, by decide, by decide, fun r4 H4 b4 hp4 r40 r41 => ?_⟩
    have b4' : But p H H4 := (But.same sJ).trans b4
    have nl3 : l3 ≠ p := fun z => by
      obtain ⟨_, _, _, h1, _⟩ := (hp.same s1).same s2
      rw [z, h1] at n3
      cases n3
    repeat walk_at "st"
    refine r_ite (fun c => ?_) (fun c => ?_)
    · repeat walk_at "st"
      refine ⟨p, _, _, rfl, hp4, by omega, by decide, by decide, fun r5 H5 b5 hp5 r50 r51 => ?_⟩
      obtain ⟨m, am, hm⟩ : ∃ m : Str, atI ([V.str "free", .str "gone", .str "kept", .str "line", .str "cut", .str "put", .str "all", .str "at"] ++ [V.str "same", .str "take", .str "lock", .str "group", .str "watch"]) r5 = some (.str m) ∧ m.length ≤ 20 := by
        have : r5 = 0 ∨ r5 = 1 ∨ r5 = 2 ∨ r5 = 3 ∨ r5 = 4 ∨ r5 = 5 ∨ r5 = 6 ∨ r5 = 7 ∨ r5 = 8 ∨ r5 = 9 ∨ r5 = 10 ∨ r5 = 11 ∨ r5 = 12 := by omega
        rcases this with rfl | rfl | rfl | rfl | rfl | rfl | rfl | rfl | rfl | rfl | rfl | rfl | rfl
        all_goals exact ⟨_, rfl, by decide +kernel⟩
      refine r_ixL (lstOf (b5 _ _ nl3 (b4 _ _ nl3 k3))) am ?_
      repeat walk_at "st"
      exact J _ _ ⟨m, _, rfl, b4'.trans b5, hp5.mono (by omega), stay b5 (stay b4 hS3), hm⟩
    · repeat walk_at "st"
      refine ⟨p, _, _, rfl, hp4, by omega, by decide, by decide, fun r5 H5 b5 hp5 r50 r51 => ?_⟩
      obtain ⟨c5, hc5⟩ := at_strK (z := "abcdefghijklmnopqrstuvwxyz") (n := 26) (by decide +kernel) r50 r51
      refine ⟨_, r5, c5, rfl, rfl, by decide +kernel, hc5, ?_⟩
      repeat walk_at "st"
      refine ⟨sz rfl, fun l6 n6 => ?_⟩
      have s6 := same_new n6 (.lst [V.int 0, .int 0, .int 1, .int 1, .int 2, .int 3, .int 6, .int 11])
      repeat walk_at "st"
      refine ⟨p, _, _, rfl, hp5.same s6, by omega, by decide, by decide, fun r6 H6 b6 hp6 r60 r61 => ?_⟩
      have nl6 : l6 ≠ p := fun z => by
        obtain ⟨_, _, _, h1, _⟩ := hp5
        rw [z, h1] at n6
        cases n6
      obtain ⟨m, am, m0, m1⟩ : ∃ m : Int, atI [V.int 0, .int 0, .int 1, .int 1, .int 2, .int 3, .int 6, .int 11] r6 = some (.int m) ∧ 0 ≤ m ∧ m ≤ 11 := by
        have : r6 = 0 ∨ r6 = 1 ∨ r6 = 2 ∨ r6 = 3 ∨ r6 = 4 ∨ r6 = 5 ∨ r6 = 6 ∨ r6 = 7 := by omega
        rcases this with rfl | rfl | rfl | rfl | rfl | rfl | rfl | rfl
        all_goals exact ⟨_, rfl, by decide, by decide⟩
      refine r_ixL (lstOf (b6 _ _ nl6 upd_same)) am ?_
      repeat walk_at "st"
      have b6' : But p H H6 := b4'.trans (b5.trans ((But.same s6).trans b6))
      have hS6 := stay b6 (s6.seq (stay b5 (stay b4 hS3)))
      refine ⟨_, rfl, by omega, by omega, for_range (n := m.toNat) (fun i σ H1 => But p H H1 ∧ Pl H1 p (b + 3 + i) ∧ SqL K H1 h (zs.map V.str) ∧ ∃ (z : Str) (y : Option V), σ = [some (.ref p), some (.ref h), some (.ref l3), some (.str z), y] ∧ z.length ≤ 1 + i) ⟨b6', hp6.mono (by omega), hS6, _, _, rfl, by rw [one]; omega⟩ ?_ ?_⟩
      · rintro i σ H7 hi ⟨b7, hp7, hS7, z, y, rfl, hz⟩
        repeat walk_at "st"
        refine ⟨p, _, _, rfl, hp7, by omega, by decide, by decide, fun r8 H8 b8 hp8 r80 r81 => ?_⟩
        obtain ⟨c8, hc8⟩ := at_strK (z := "abcdefghijklmnopqrstuvwxyz0123456789") (n := 36) (by decide +kernel) r80 r81
        refine ⟨_, r8, c8, rfl, rfl, by decide +kernel, hc8, ?_⟩
        refine ⟨_, _, rfl, rfl, Nat.le_trans (show _ ≤ 1000 by rw [one]; omega) (by decide), ?_⟩
        repeat walk_at "st"
        exact ⟨b7.trans b8, hp8.mono (by omega), stay b8 hS7, _, _, rfl, by rw [cat_len, one]; omega⟩
      · rintro σ H7 ⟨b7, hp7, hS7, z, y, rfl, hz⟩
        repeat walk_at "st"
        exact J _ _ ⟨z, y, rfl, b7, hp7.mono (by omega), hS7, by omega⟩
theorem ok_made {c : Nat → Addr} (F : Fn K mg "_law_made" s_made) (M_BadName : MkC P w K mg base 2 "BadName" (c 0) (spInitD (c 0) "name" okStr)) (M_Taken : MkC P w K mg base 2 "Taken" (c 1) (spInitD (c 1) "name" okStr)) (M_NoThing : MkC P w K mg base 2 "NoThing" (c 2) (spInitD (c 2) "name" okStr)) (M_WrongSort : MkC P w K mg base 2 "WrongSort" (c 3) (spInitD (c 3) "name" okStr)) (M_NotFree : MkC P w K mg base 2 "NotFree" (c 4) (spInitD (c 4) "name" okStr)) (M_Far : MkC P w K mg base 2 "Far" (c 5) (spInitD (c 5) "name" okStr)) (M_TooHeavy : MkC P w K mg base 2 "TooHeavy" (c 6) (spInitD (c 6) "name" okStr)) (M_Ring : MkC P w K mg base 2 "Ring" (c 7) (spInitD (c 7) "name" okStr)) (M_Locked : MkC P w K mg base 2 "Locked" (c 8) (spInitD (c 8) "name" okStr)) (M_NoGroup : MkC P w K mg base 2 "NoGroup" (c 9) (spInitD (c 9) "name" okStr)) (M_NoWatcher : MkC P w K mg base 2 "NoWatcher" (c 10) (spInitD (c 10) "name" okStr)) (M_NoMark : MkC P w K mg base 2 "NoMark" (c 11) (spInitD (c 11) "name" okStr)) (M_Rooted : MkC P w K mg base 2 "Rooted" (c 12) (spInitD (c 12) "name" okStr)) (M_TooWide : MkC P w K mg base 2 "TooWide" (c 13) (spInitD (c 13) "name" okStr)) : Kn P w K mg base 4 "_law_made" ["_law_way", "_law_name_here"] (spMadeD c) := by
  refine F.kn sc_made (fun vs H Q E h => ?_) (fun f cdv A outer s H vs Q E hr h => ?_) (fun _ _ _ _ _ _ us hl => match us, hl with | [_, _], _ => rfl)
  · obtain ⟨w, z, rfl, _⟩ := h
    rfl
  obtain ⟨w, z, rfl, hw, hz, q⟩ := h
  refine ⟨_, (pss_cons (ps_if (pt_cmpR op_eq (pv 0) pe_int (nomark _))
    (pss_one (ps_ret (pe_mkv M_BadName (hr.mono (by decide)) (by rfl) (pa_cons (pv 1) pa_nil))))
    pss_nil)
    (pss_cons (ps_if (pt_cmpR op_eq (pv 0) pe_int (nomark _))
    (pss_one (ps_ret (pe_mkv M_Taken (hr.mono (by decide)) (by rfl) (pa_cons (pv 1) pa_nil))))
    pss_nil)
    (pss_cons (ps_if (pt_cmpR op_eq (pv 0) pe_int (nomark _))
    (pss_one (ps_ret (pe_mkv M_NoThing (hr.mono (by decide)) (by rfl) (pa_cons (pv 1) pa_nil))))
    pss_nil)
    (pss_cons (ps_if (pt_cmpR op_eq (pv 0) pe_int (nomark _))
    (pss_one (ps_ret (pe_mkv M_WrongSort (hr.mono (by decide)) (by rfl) (pa_cons (pv 1) pa_nil))))
    pss_nil)
    (pss_cons (ps_if (pt_cmpR op_eq (pv 0) pe_int (nomark _))
    (pss_one (ps_ret (pe_mkv M_NotFree (hr.mono (by decide)) (by rfl) (pa_cons (pv 1) pa_nil))))
    pss_nil)
    (pss_cons (ps_if (pt_cmpR op_eq (pv 0) pe_int (nomark _))
    (pss_one (ps_ret (pe_mkv M_Far (hr.mono (by decide)) (by rfl) (pa_cons (pv 1) pa_nil))))
    pss_nil)
    (pss_cons (ps_if (pt_cmpR op_eq (pv 0) pe_int (nomark _))
    (pss_one (ps_ret (pe_mkv M_TooHeavy (hr.mono (by decide)) (by rfl) (pa_cons (pv 1) pa_nil))))
    pss_nil)
    (pss_cons (ps_if (pt_cmpR op_eq (pv 0) pe_int (nomark _))
    (pss_one (ps_ret (pe_mkv M_Ring (hr.mono (by decide)) (by rfl) (pa_cons (pv 1) pa_nil))))
    pss_nil)
    (pss_cons (ps_if (pt_cmpR op_eq (pv 0) pe_int (nomark _))
    (pss_one (ps_ret (pe_mkv M_Locked (hr.mono (by decide)) (by rfl) (pa_cons (pv 1) pa_nil))))
    pss_nil)
    (pss_cons (ps_if (pt_cmpR op_eq (pv 0) pe_int (nomark _))
    (pss_one (ps_ret (pe_mkv M_NoGroup (hr.mono (by decide)) (by rfl) (pa_cons (pv 1) pa_nil))))
    pss_nil)
    (pss_cons (ps_if (pt_cmpR op_eq (pv 0) pe_int (nomark _))
    (pss_one (ps_ret (pe_mkv M_NoWatcher (hr.mono (by decide)) (by rfl) (pa_cons (pv 1) pa_nil))))
    pss_nil)
    (pss_cons (ps_if (pt_cmpR op_eq (pv 0) pe_int (nomark _))
    (pss_one (ps_ret (pe_mkv M_NoMark (hr.mono (by decide)) (by rfl) (pa_cons (pv 1) pa_nil))))
    pss_nil)
    (pss_cons (ps_if (pt_cmpR op_eq (pv 0) pe_int (nomark _))
    (pss_one (ps_ret (pe_mkv M_Rooted (hr.mono (by decide)) (by rfl) (pa_cons (pv 1) pa_nil))))
    pss_nil)
    (pss_one (ps_ret (pe_mkv M_TooWide (hr.mono (by decide)) (by rfl) (pa_cons (pv 1) pa_nil))))))))))))))))), ?_⟩
  show (_ : TS) _ [some (.int w), some (.str z)] _
  refine r_seq ?_
  repeat walk_at "st"
  refine r_ite (fun h0 => ?_) (fun h0 => ?_)
  · have e : w = 0 := by omega
    subst e
    repeat walk_at "st"
    refine r_mkv ?_
    repeat walk_at "st"
    refine ⟨(by show 1 ≤ 1000; decide), fun a ha => ⟨a, _, rfl, ⟨z, rfl, hz⟩, upd_same, fun wd H' b er => ⟨rfl, ?_⟩⟩⟩
    exact q a wd H' (but_made b ha) er
  repeat walk_at "st"
  refine r_seq ?_
  repeat walk_at "st"
  refine r_ite (fun h1 => ?_) (fun h1 => ?_)
  · have e : w = 1 := by omega
    subst e
    repeat walk_at "st"
    refine r_mkv ?_
    repeat walk_at "st"
    refine ⟨(by show 1 ≤ 1000; decide), fun a ha => ⟨a, _, rfl, ⟨z, rfl, hz⟩, upd_same, fun wd H' b er => ⟨rfl, ?_⟩⟩⟩
    exact q a wd H' (but_made b ha) er
  repeat walk_at "st"
  refine r_seq ?_
  repeat walk_at "st"
  refine r_ite (fun h2 => ?_) (fun h2 => ?_)
  · have e : w = 2 := by omega
    subst e
    repeat walk_at "st"
    refine r_mkv ?_
    repeat walk_at "st"
    refine ⟨(by show 1 ≤ 1000; decide), fun a ha => ⟨a, _, rfl, ⟨z, rfl, hz⟩, upd_same, fun wd H' b er => ⟨rfl, ?_⟩⟩⟩
    exact q a wd H' (but_made b ha) er
  repeat walk_at "st"
  refine r_seq ?_
  repeat walk_at "st"
  refine r_ite (fun h3 => ?_) (fun h3 => ?_)
  · have e : w = 3 := by omega
    subst e
    repeat walk_at "st"
    refine r_mkv ?_
    repeat walk_at "st"
    refine ⟨(by show 1 ≤ 1000; decide), fun a ha => ⟨a, _, rfl, ⟨z, rfl, hz⟩, upd_same, fun wd H' b er => ⟨rfl, ?_⟩⟩⟩
    exact q a wd H' (but_made b ha) er
  repeat walk_at "st"
  refine r_seq ?_
  repeat walk_at "st"
  refine r_ite (fun h4 => ?_) (fun h4 => ?_)
  · have e : w = 4 := by omega
    subst e
    repeat walk_at "st"
    refine r_mkv ?_
    repeat walk_at "st"
    refine ⟨(by show 1 ≤ 1000; decide), fun a ha => ⟨a, _, rfl, ⟨z, rfl, hz⟩, upd_same, fun wd H' b er => ⟨rfl, ?_⟩⟩⟩
    exact q a wd H' (but_made b ha) er
  repeat walk_at "st"
  refine r_seq ?_
  repeat walk_at "st"
  refine r_ite (fun h5 => ?_) (fun h5 => ?_)
  · have e : w = 5 := by omega
    subst e
    repeat walk_at "st"
    refine r_mkv ?_
    repeat walk_at "st"
    refine ⟨(by show 1 ≤ 1000; decide), fun a ha => ⟨a, _, rfl, ⟨z, rfl, hz⟩, upd_same, fun wd H' b er => ⟨rfl, ?_⟩⟩⟩
    exact q a wd H' (but_made b ha) er
  repeat walk_at "st"
  refine r_seq ?_
  repeat walk_at "st"
  refine r_ite (fun h6 => ?_) (fun h6 => ?_)
  · have e : w = 6 := by omega
    subst e
    repeat walk_at "st"
    refine r_mkv ?_
    repeat walk_at "st"
    refine ⟨(by show 1 ≤ 1000; decide), fun a ha => ⟨a, _, rfl, ⟨z, rfl, hz⟩, upd_same, fun wd H' b er => ⟨rfl, ?_⟩⟩⟩
    exact q a wd H' (but_made b ha) er
  repeat walk_at "st"
  refine r_seq ?_
  repeat walk_at "st"
  refine r_ite (fun h7 => ?_) (fun h7 => ?_)
  · have e : w = 7 := by omega
    subst e
    repeat walk_at "st"
    refine r_mkv ?_
    repeat walk_at "st"
    refine ⟨(by show 1 ≤ 1000; decide), fun a ha => ⟨a, _, rfl, ⟨z, rfl, hz⟩, upd_same, fun wd H' b er => ⟨rfl, ?_⟩⟩⟩
    exact q a wd H' (but_made b ha) er
  repeat walk_at "st"
  refine r_seq ?_
  repeat walk_at "st"
  refine r_ite (fun h8 => ?_) (fun h8 => ?_)
  · have e : w = 8 := by omega
    subst e
    repeat walk_at "st"
    refine r_mkv ?_
    repeat walk_at "st"
    refine ⟨(by show 1 ≤ 1000; decide), fun a ha => ⟨a, _, rfl, ⟨z, rfl, hz⟩, upd_same, fun wd H' b er => ⟨rfl, ?_⟩⟩⟩
    exact q a wd H' (but_made b ha) er
  repeat walk_at "st"
  refine r_seq ?_
  repeat walk_at "st"
  refine r_ite (fun h9 => ?_) (fun h9 => ?_)
  · have e : w = 9 := by omega
    subst e
    repeat walk_at "st"
    refine r_mkv ?_
    repeat walk_at "st"
    refine ⟨(by show 1 ≤ 1000; decide), fun a ha => ⟨a, _, rfl, ⟨z, rfl, hz⟩, upd_same, fun wd H' b er => ⟨rfl, ?_⟩⟩⟩
    exact q a wd H' (but_made b ha) er
  repeat walk_at "st"
  refine r_seq ?_
  repeat walk_at "st"
  refine r_ite (fun h10 => ?_) (fun h10 => ?_)
  · have e : w = 10 := by omega
    subst e
    repeat walk_at "st"
    refine r_mkv ?_
    repeat walk_at "st"
    refine ⟨(by show 1 ≤ 1000; decide), fun a ha => ⟨a, _, rfl, ⟨z, rfl, hz⟩, upd_same, fun wd H' b er => ⟨rfl, ?_⟩⟩⟩
    exact q a wd H' (but_made b ha) er
  repeat walk_at "st"
  refine r_seq ?_
  repeat walk_at "st"
  refine r_ite (fun h11 => ?_) (fun h11 => ?_)
  · have e : w = 11 := by omega
    subst e
    repeat walk_at "st"
    refine r_mkv ?_
    repeat walk_at "st"
    refine ⟨(by show 1 ≤ 1000; decide), fun a ha => ⟨a, _, rfl, ⟨z, rfl, hz⟩, upd_same, fun wd H' b er => ⟨rfl, ?_⟩⟩⟩
    exact q a wd H' (but_made b ha) er
  repeat walk_at "st"
  refine r_seq ?_
  repeat walk_at "st"
  refine r_ite (fun h12 => ?_) (fun h12 => ?_)
  · have e : w = 12 := by omega
    subst e
    repeat walk_at "st"
    refine r_mkv ?_
    repeat walk_at "st"
    refine ⟨(by show 1 ≤ 1000; decide), fun a ha => ⟨a, _, rfl, ⟨z, rfl, hz⟩, upd_same, fun wd H' b er => ⟨rfl, ?_⟩⟩⟩
    exact q a wd H' (but_made b ha) er
  repeat walk_at "st"
  have e : w = 13 := by omega
  subst e
  repeat walk_at "st"
  refine r_mkv ?_
  repeat walk_at "st"
  refine ⟨(by show 1 ≤ 1000; decide), fun a ha => ⟨a, _, rfl, ⟨z, rfl, hz⟩, upd_same, fun wd H' b er => ⟨rfl, ?_⟩⟩⟩
  exact q a wd H' (but_made b ha) er
theorem ok_is {c : Nat → Addr} {B : Addr} (S : Cs K mg c B) (F : Fn K mg "_law_is" s_is) (z_isinstance : mg "isinstance" = none) (z_ValueError : mg "ValueError" = none) (z_range : mg "range" = none) : Kn P w K mg base 1 "_law_is" ["_law_way", "_law_made_here"] (spIs c) := by
  refine F.kn sc_is (fun vs H Q E h => ?_) (fun f cdv A outer s H vs Q E hr h => ?_) (fun _ _ _ _ _ _ us hl => match us, hl with | [_, _], _ => rfl)
  · obtain ⟨w, a, fs, rfl, _⟩ := h
    rfl
  obtain ⟨w, a, fs, rfl, hw, er, q⟩ := h
  refine ⟨_, (pss_cons (ps_set (i := 2) sc_is.nd rfl (.inl rfl) (pe_lst (pa_cons (pe_callB call_isX (by rfl) z_isinstance (by decide +kernel) (pa_cons (pv 1) (pa_cons (pe_glob (v := .ref (c 0)) (by rfl) (S.g 0 (by decide)) rfl) pa_nil))) (pa_cons (pe_callB call_isX (by rfl) z_isinstance (by decide +kernel) (pa_cons (pv 1) (pa_cons (pe_glob (v := .ref (c 1)) (by rfl) (S.g 1 (by decide)) rfl) pa_nil))) (pa_cons (pe_callB call_isX (by rfl) z_isinstance (by decide +kernel) (pa_cons (pv 1) (pa_cons (pe_glob (v := .ref (c 2)) (by rfl) (S.g 2 (by decide)) rfl) pa_nil))) pa_nil)))))
    (pss_cons (ps_set (i := 2) sc_is.nd rfl (.inl rfl) (pe_op op_cat (pv 2) (pe_lst (pa_cons (pe_callB call_isX (by rfl) z_isinstance (by decide +kernel) (pa_cons (pv 1) (pa_cons (pe_glob (v := .ref (c 3)) (by rfl) (S.g 3 (by decide)) rfl) pa_nil))) (pa_cons (pe_callB call_isX (by rfl) z_isinstance (by decide +kernel) (pa_cons (pv 1) (pa_cons (pe_glob (v := .ref (c 4)) (by rfl) (S.g 4 (by decide)) rfl) pa_nil))) (pa_cons (pe_callB call_isX (by rfl) z_isinstance (by decide +kernel) (pa_cons (pv 1) (pa_cons (pe_glob (v := .ref (c 5)) (by rfl) (S.g 5 (by decide)) rfl) pa_nil))) pa_nil))))))
    (pss_cons (ps_set (i := 2) sc_is.nd rfl (.inl rfl) (pe_op op_cat (pv 2) (pe_lst (pa_cons (pe_callB call_isX (by rfl) z_isinstance (by decide +kernel) (pa_cons (pv 1) (pa_cons (pe_glob (v := .ref (c 6)) (by rfl) (S.g 6 (by decide)) rfl) pa_nil))) (pa_cons (pe_callB call_isX (by rfl) z_isinstance (by decide +kernel) (pa_cons (pv 1) (pa_cons (pe_glob (v := .ref (c 7)) (by rfl) (S.g 7 (by decide)) rfl) pa_nil))) (pa_cons (pe_callB call_isX (by rfl) z_isinstance (by decide +kernel) (pa_cons (pv 1) (pa_cons (pe_glob (v := .ref (c 8)) (by rfl) (S.g 8 (by decide)) rfl) pa_nil))) pa_nil))))))
    (pss_cons (ps_set (i := 2) sc_is.nd rfl (.inl rfl) (pe_op op_cat (pv 2) (pe_lst (pa_cons (pe_callB call_isX (by rfl) z_isinstance (by decide +kernel) (pa_cons (pv 1) (pa_cons (pe_glob (v := .ref (c 9)) (by rfl) (S.g 9 (by decide)) rfl) pa_nil))) (pa_cons (pe_callB call_isX (by rfl) z_isinstance (by decide +kernel) (pa_cons (pv 1) (pa_cons (pe_glob (v := .ref (c 10)) (by rfl) (S.g 10 (by decide)) rfl) pa_nil))) (pa_cons (pe_callB call_isX (by rfl) z_isinstance (by decide +kernel) (pa_cons (pv 1) (pa_cons (pe_glob (v := .ref (c 11)) (by rfl) (S.g 11 (by decide)) rfl) pa_nil))) pa_nil))))))
    (pss_cons (ps_set (i := 2) sc_is.nd rfl (.inl rfl) (pe_op op_cat (pv 2) (pe_lst (pa_cons (pe_callB call_isX (by rfl) z_isinstance (by decide +kernel) (pa_cons (pv 1) (pa_cons (pe_glob (v := .ref (c 12)) (by rfl) (S.g 12 (by decide)) rfl) pa_nil))) (pa_cons (pe_callB call_isX (by rfl) z_isinstance (by decide +kernel) (pa_cons (pv 1) (pa_cons (pe_glob (v := .ref (c 13)) (by rfl) (S.g 13 (by decide)) rfl) pa_nil))) (pa_cons (pe_callB call_isX (by rfl) z_isinstance (by decide +kernel) (pa_cons (pv 1) (pa_cons (pe_glob (v := .ref (c 14)) (by rfl) (S.g 14 (by decide)) rfl) pa_nil))) pa_nil))))))
    (pss_cons (ps_set (i := 2) sc_is.nd rfl (.inl rfl) (pe_op op_cat (pv 2) (pe_lst (pa_cons (pe_callB call_isX (by rfl) z_isinstance (by decide +kernel) (pa_cons (pv 1) (pa_cons (pe_glob (v := .ref (c 15)) (by rfl) (S.g 15 (by decide)) rfl) pa_nil))) (pa_cons (pe_callB call_isX (by rfl) z_isinstance (by decide +kernel) (pa_cons (pv 1) (pa_cons (pe_glob (v := .ref (c 16)) (by rfl) (S.g 16 (by decide)) rfl) pa_nil))) (pa_cons (pe_callB call_isX (by rfl) z_isinstance (by decide +kernel) (pa_cons (pv 1) (pa_cons (pe_glob (v := .ref (c 17)) (by rfl) (S.g 17 (by decide)) rfl) pa_nil))) pa_nil))))))
    (pss_cons (ps_set (i := 2) sc_is.nd rfl (.inl rfl) (pe_op op_cat (pv 2) (pe_lst (pa_cons (pe_callB call_isX (by rfl) z_isinstance (by decide +kernel) (pa_cons (pv 1) (pa_cons (pe_glob (v := .ref (c 18)) (by rfl) (S.g 18 (by decide)) rfl) pa_nil))) pa_nil))))
    (pss_cons (ps_if (PW.pt (pw_or (pt_not (pt_val (pe_callB call_isX (by rfl) z_isinstance (by decide +kernel) (pa_cons (pv 1) (pa_cons (pe_glob (v := .ref B) (by rfl) S.gB rfl) pa_nil))))) (pw_or1 (pt_not (pt_val (pe_callB call_isX (by rfl) z_isinstance (by decide +kernel) (pa_cons (pv 1) (pa_cons (pe_bltn (v := .ty "ValueError") (by rfl) z_ValueError (by decide +kernel) rfl) pa_nil))))))))
    (pss_one (ps_ret pe_bl))
    pss_nil)
    (pss_one (ps_ret (pe_cmpR (op_eqV hr.units) (pv 2) (pe_lc (own := [("_law_k", 3)]) (g := gName 3) (by rfl) sc_is.nd (pi_range1 (by rfl) z_range (pa_cons pe_int pa_nil)) (blkOk_by (own := [("_law_k", 3)]) (N := ["_law_way", "_law_made_here", "_law_first", "_law_k"]) (sc := (defScope s_is)) (by decide +kernel)) (fun _ _ _ _ _ => pg_name (i := 3) sc_is.nd rfl (.inl rfl)) (fun _ _ _ _ _ => pts_nil) (fun _ _ _ _ _ => (pe_cmpR op_eq (pv 3) (pv 0) (nomark _)))) (nomark _)))))))))))), ?_⟩
  show (_ : TS) _ [some (.int w), some (.ref a), none, none] _
  have er0 := er
  have g0 := Same.refl H
  repeat walk_at "st"
  refine ⟨a, c w, fs, .ref (c 0), .ref (c 0), _, rfl, er0, S.ex w hw, fun _ h => h, S.ki w 0 hw (by decide), ?_⟩
  repeat walk_at "st"
  refine ⟨a, c w, fs, .ref (c 1), .ref (c 1), _, rfl, er0, S.ex w hw, fun _ h => h, S.ki w 1 hw (by decide), ?_⟩
  repeat walk_at "st"
  refine ⟨a, c w, fs, .ref (c 2), .ref (c 2), _, rfl, er0, S.ex w hw, fun _ h => h, S.ki w 2 hw (by decide), ?_⟩
  repeat walk_at "st"
  refine ⟨sz rfl, fun l0 n0 => ?_⟩
  obtain ⟨J0, e0, s0, k0⟩ := nw n0 (.lst [V.bl (decide (((0 : Nat) : Int) = (w : Int))), V.bl (decide (((1 : Nat) : Int) = (w : Int))), V.bl (decide (((2 : Nat) : Int) = (w : Int)))])
  rw [← e0]
  have er1 := er0.same s0
  have g1 := g0.trans s0
  have m0 := k0
  repeat walk_at "st"
  refine ⟨a, c w, fs, .ref (c 3), .ref (c 3), _, rfl, er1, S.ex w hw, fun _ h => h, S.ki w 3 hw (by decide), ?_⟩
  repeat walk_at "st"
  refine ⟨a, c w, fs, .ref (c 4), .ref (c 4), _, rfl, er1, S.ex w hw, fun _ h => h, S.ki w 4 hw (by decide), ?_⟩
  repeat walk_at "st"
  refine ⟨a, c w, fs, .ref (c 5), .ref (c 5), _, rfl, er1, S.ex w hw, fun _ h => h, S.ki w 5 hw (by decide), ?_⟩
  repeat walk_at "st"
  refine ⟨sz rfl, fun l1 n1 => ?_⟩
  obtain ⟨J1, e1, s1, k1⟩ := nw n1 (.lst [V.bl (decide (((3 : Nat) : Int) = (w : Int))), V.bl (decide (((4 : Nat) : Int) = (w : Int))), V.bl (decide (((5 : Nat) : Int) = (w : Int)))])
  rw [← e1]
  have er2 := er1.same s1
  have g2 := g1.trans s1
  repeat walk_at "st"
  refine ⟨l0, l1, _, _, rfl, rfl, s1 _ _ m0, k1, sz rfl, fun l2 n2 => ?_⟩
  obtain ⟨J2, e2, s2, m2⟩ := nw n2 (.lst ([V.bl (decide (((0 : Nat) : Int) = (w : Int))), V.bl (decide (((1 : Nat) : Int) = (w : Int))), V.bl (decide (((2 : Nat) : Int) = (w : Int)))] ++ [V.bl (decide (((3 : Nat) : Int) = (w : Int))), V.bl (decide (((4 : Nat) : Int) = (w : Int))), V.bl (decide (((5 : Nat) : Int) = (w : Int)))]))
  rw [← e2]
  have er3 := er2.same s2
  have g3 := g2.trans s2
  repeat walk_at "st"
  refine ⟨a, c w, fs, .ref (c 6), .ref (c 6), _, rfl, er3, S.ex w hw, fun _ h => h, S.ki w 6 hw (by decide), ?_⟩
  repeat walk_at "st"
  refine ⟨a, c w, fs, .ref (c 7), .ref (c 7), _, rfl, er3, S.ex w hw, fun _ h => h, S.ki w 7 hw (by decide), ?_⟩
  repeat walk_at "st"
  refine ⟨a, c w, fs, .ref (c 8), .ref (c 8), _, rfl, er3, S.ex w hw, fun _ h => h, S.ki w 8 hw (by decide), ?_⟩
  repeat walk_at "st"
  refine ⟨sz rfl, fun l3 n3 => ?_⟩
  obtain ⟨J3, e3, s3, k3⟩ := nw n3 (.lst [V.bl (decide (((6 : Nat) : Int) = (w : Int))), V.bl (decide (((7 : Nat) : Int) = (w : Int))), V.bl (decide (((8 : Nat) : Int) = (w : Int)))])
  rw [← e3]
  have er4 := er3.same s3
  have g4 := g3.trans s3
  repeat walk_at "st"
  refine ⟨l2, l3, _, _, rfl, rfl, s3 _ _ m2, k3, sz rfl, fun l4 n4 => ?_⟩
  obtain ⟨J4, e4, s4, m4⟩ := nw n4 (.lst (([V.bl (decide (((0 : Nat) : Int) = (w : Int))), V.bl (decide (((1 : Nat) : Int) = (w : Int))), V.bl (decide (((2 : Nat) : Int) = (w : Int)))] ++ [V.bl (decide (((3 : Nat) : Int) = (w : Int))), V.bl (decide (((4 : Nat) : Int) = (w : Int))), V.bl (decide (((5 : Nat) : Int) = (w : Int)))]) ++ [V.bl (decide (((6 : Nat) : Int) = (w : Int))), V.bl (decide (((7 : Nat) : Int) = (w : Int))), V.bl (decide (((8 : Nat) : Int) = (w : Int)))]))
  rw [← e4]
  have er5 := er4.same s4
  have g5 := g4.trans s4
  repeat walk_at "st"
  refine ⟨a, c w, fs, .ref (c 9), .ref (c 9), _, rfl, er5, S.ex w hw, fun _ h => h, S.ki w 9 hw (by decide), ?_⟩
  repeat walk_at "st"
  refine ⟨a, c w, fs, .ref (c 10), .ref (c 10), _, rfl, er5, S.ex w hw, fun _ h => h, S.ki w 10 hw (by decide), ?_⟩
  repeat walk_at "st"
  refine ⟨a, c w, fs, .ref (c 11), .ref (c 11), _, rfl, er5, S.ex w hw, fun _ h => h, S.ki w 11 hw (by decide), ?_⟩
  repeat walk_at "st"
  refine ⟨sz rfl, fun l5 n5 => ?_⟩
  obtain ⟨J5, e5, s5, k5⟩ := nw n5 (.lst [V.bl (decide (((9 : Nat) : Int) = (w : Int))), V.bl (decide (((10 : Nat) : Int) = (w : Int))), V.bl (decide (((11 : Nat) : Int) = (w : Int)))])
  rw [← e5]
  have er6 := er5.same s5
  have g6 := g5.trans s5
  repeat walk_at "st"
  refine ⟨l4, l5, _, _, rfl, rfl, s5 _ _ m4, k5, sz rfl, fun l6 n6 => ?_⟩
  obtain ⟨J6, e6, s6, m6⟩ := nw n6 (.lst ((([V.bl (decide (((0 : Nat) : Int) = (w : Int))), V.bl (decide (((1 : Nat) : Int) = (w : Int))), V.bl (decide (((2 : Nat) : Int) = (w : Int)))] ++ [V.bl (decide (((3 : Nat) : Int) = (w : Int))), V.bl (decide (((4 : Nat) : Int) = (w : Int))), V.bl (decide (((5 : Nat) : Int) = (w : Int)))]) ++ [V.bl (decide (((6 : Nat) : Int) = (w : Int))), V.bl (decide (((7 : Nat) : Int) = (w : Int))), V.bl (decide (((8 : Nat) : Int) = (w : Int)))]) ++ [V.bl (decide (((9 : Nat) : Int) = (w : Int))), V.bl (decide (((10 : Nat) : Int) = (w : Int))), V.bl (decide (((11 : Nat) : Int) = (w : Int)))]))
  rw [← e6]
  have er7 := er6.same s6
  have g7 := g6.trans s6
  repeat walk_at "st"
  refine ⟨a, c w, fs, .ref (c 12), .ref (c 12), _, rfl, er7, S.ex w hw, fun _ h => h, S.ki w 12 hw (by decide), ?_⟩
  repeat walk_at "st"
  refine ⟨a, c w, fs, .ref (c 13), .ref (c 13), _, rfl, er7, S.ex w hw, fun _ h => h, S.ki w 13 hw (by decide), ?_⟩
  repeat walk_at "st"
  refine ⟨a, c w, fs, .ref (c 14), .ref (c 14), _, rfl, er7, S.ex w hw, fun _ h => h, S.ki w 14 hw (by decide), ?_⟩
  repeat walk_at "st"
  refine ⟨sz rfl, fun l7 n7 => ?_⟩
  obtain ⟨J7, e7, s7, k7⟩ := nw n7 (.lst [V.bl (decide (((12 : Nat) : Int) = (w : Int))), V.bl (decide (((13 : Nat) : Int) = (w : Int))), V.bl (decide (((14 : Nat) : Int) = (w : Int)))])
  rw [← e7]
  have er8 := er7.same s7
  have g8 := g7.trans s7
  repeat walk_at "st"
  refine ⟨l6, l7, _, _, rfl, rfl, s7 _ _ m6, k7, sz rfl, fun l8 n8 => ?_⟩
  obtain ⟨J8, e8, s8, m8⟩ := nw n8 (.lst (((([V.bl (decide (((0 : Nat) : Int) = (w : Int))), V.bl (decide (((1 : Nat) : Int) = (w : Int))), V.bl (decide (((2 : Nat) : Int) = (w : Int)))] ++ [V.bl (decide (((3 : Nat) : Int) = (w : Int))), V.bl (decide (((4 : Nat) : Int) = (w : Int))), V.bl (decide (((5 : Nat) : Int) = (w : Int)))]) ++ [V.bl (decide (((6 : Nat) : Int) = (w : Int))), V.bl (decide (((7 : Nat) : Int) = (w : Int))), V.bl (decide (((8 : Nat) : Int) = (w : Int)))]) ++ [V.bl (decide (((9 : Nat) : Int) = (w : Int))), V.bl (decide (((10 : Nat) : Int) = (w : Int))), V.bl (decide (((11 : Nat) : Int) = (w : Int)))]) ++ [V.bl (decide (((12 : Nat) : Int) = (w : Int))), V.bl (decide (((13 : Nat) : Int) = (w : Int))), V.bl (decide (((14 : Nat) : Int) = (w : Int)))]))
  rw [← e8]
  have er9 := er8.same s8
  have g9 := g8.trans s8
  repeat walk_at "st"
  refine ⟨a, c w, fs, .ref (c 15), .ref (c 15), _, rfl, er9, S.ex w hw, fun _ h => h, S.ki w 15 hw (by decide), ?_⟩
  repeat walk_at "st"
  refine ⟨a, c w, fs, .ref (c 16), .ref (c 16), _, rfl, er9, S.ex w hw, fun _ h => h, S.ki w 16 hw (by decide), ?_⟩
  repeat walk_at "st"
  refine ⟨a, c w, fs, .ref (c 17), .ref (c 17), _, rfl, er9, S.ex w hw, fun _ h => h, S.ki w 17 hw (by decide), ?_⟩
  repeat walk_at "st"
  refine ⟨sz rfl, fun l9 n9 => ?_⟩
  obtain ⟨J9, e9, s9, k9⟩ := nw n9 (.lst [V.bl (decide (((15 : Nat) : Int) = (w : Int))), V.bl (decide (((16 : Nat) : Int) = (w : Int))), V.bl (decide (((17 : Nat) : Int) = (w : Int)))])
  rw [← e9]
  have er10 := er9.same s9
  have g10 := g9.trans s9
  repeat walk_at "st"
  refine ⟨l8, l9, _, _, rfl, rfl, s9 _ _ m8, k9, sz rfl, fun l10 n10 => ?_⟩
  obtain ⟨J10, e10, s10, m10⟩ := nw n10 (.lst ((((([V.bl (decide (((0 : Nat) : Int) = (w : Int))), V.bl (decide (((1 : Nat) : Int) = (w : Int))), V.bl (decide (((2 : Nat) : Int) = (w : Int)))] ++ [V.bl (decide (((3 : Nat) : Int) = (w : Int))), V.bl (decide (((4 : Nat) : Int) = (w : Int))), V.bl (decide (((5 : Nat) : Int) = (w : Int)))]) ++ [V.bl (decide (((6 : Nat) : Int) = (w : Int))), V.bl (decide (((7 : Nat) : Int) = (w : Int))), V.bl (decide (((8 : Nat) : Int) = (w : Int)))]) ++ [V.bl (decide (((9 : Nat) : Int) = (w : Int))), V.bl (decide (((10 : Nat) : Int) = (w : Int))), V.bl (decide (((11 : Nat) : Int) = (w : Int)))]) ++ [V.bl (decide (((12 : Nat) : Int) = (w : Int))), V.bl (decide (((13 : Nat) : Int) = (w : Int))), V.bl (decide (((14 : Nat) : Int) = (w : Int)))]) ++ [V.bl (decide (((15 : Nat) : Int) = (w : Int))), V.bl (decide (((16 : Nat) : Int) = (w : Int))), V.bl (decide (((17 : Nat) : Int) = (w : Int)))]))
  rw [← e10]
  have er11 := er10.same s10
  have g11 := g10.trans s10
  repeat walk_at "st"
  refine ⟨a, c w, fs, .ref (c 18), .ref (c 18), _, rfl, er11, S.ex w hw, fun _ h => h, S.ki w 18 hw (by decide), ?_⟩
  repeat walk_at "st"
  refine ⟨sz rfl, fun l11 n11 => ?_⟩
  obtain ⟨J11, e11, s11, k11⟩ := nw n11 (.lst [V.bl (decide (((18 : Nat) : Int) = (w : Int)))])
  rw [← e11]
  have er12 := er11.same s11
  have g12 := g11.trans s11
  repeat walk_at "st"
  refine ⟨l10, l11, _, _, rfl, rfl, s11 _ _ m10, k11, sz rfl, fun l12 n12 => ?_⟩
  obtain ⟨J12, e12, s12, m12⟩ := nw n12 (.lst (((((([V.bl (decide (((0 : Nat) : Int) = (w : Int))), V.bl (decide (((1 : Nat) : Int) = (w : Int))), V.bl (decide (((2 : Nat) : Int) = (w : Int)))] ++ [V.bl (decide (((3 : Nat) : Int) = (w : Int))), V.bl (decide (((4 : Nat) : Int) = (w : Int))), V.bl (decide (((5 : Nat) : Int) = (w : Int)))]) ++ [V.bl (decide (((6 : Nat) : Int) = (w : Int))), V.bl (decide (((7 : Nat) : Int) = (w : Int))), V.bl (decide (((8 : Nat) : Int) = (w : Int)))]) ++ [V.bl (decide (((9 : Nat) : Int) = (w : Int))), V.bl (decide (((10 : Nat) : Int) = (w : Int))), V.bl (decide (((11 : Nat) : Int) = (w : Int)))]) ++ [V.bl (decide (((12 : Nat) : Int) = (w : Int))), V.bl (decide (((13 : Nat) : Int) = (w : Int))), V.bl (decide (((14 : Nat) : Int) = (w : Int)))]) ++ [V.bl (decide (((15 : Nat) : Int) = (w : Int))), V.bl (decide (((16 : Nat) : Int) = (w : Int))), V.bl (decide (((17 : Nat) : Int) = (w : Int)))]) ++ [V.bl (decide (((18 : Nat) : Int) = (w : Int)))]))
  rw [← e12]
  have er13 := er12.same s12
  have g13 := g12.trans s12
  repeat walk_at "st"
  refine r_seq ?_
  repeat walk_at "st"
  refine ⟨a, c w, fs, .ref B, .ref B, _, rfl, er13, S.ex w hw, fun _ h => h, S.kB w hw, ?_⟩
  repeat walk_at "st"
  refine ⟨a, c w, fs, .ty "ValueError", .type "ValueError", _, rfl, er13, S.ex w hw, fun _ h => h, S.kV w hw, ?_⟩
  repeat walk_at "st"
  refine ⟨_, rfl, by decide, by decide, fun D nD => ?_⟩
  have sD := same_new nD (.lst [])
  refine lc_range (lo := 0) (n := 19) (fun i H1 => Same J12 H1 ∧ H1 D = some (.lst ((List.range i).map fun (k : Nat) => V.bl (decide (((k : Nat) : Int) = ((w : Nat) : Int)))))) ⟨sD, upd_same⟩ ?_ ?_
  · rintro i H1 hi ⟨g, hD⟩
    repeat walk_at "st"
    refine ⟨rfl, ?_⟩
    refine r_yes ?_
    refine r_T ?_
    repeat walk_at "st"
    refine ⟨_, hD, ?_, ?_, ?_⟩
    · rw [List.length_map, List.length_range]
      exact Nat.lt_of_lt_of_le (show i < 1000 by omega) (by decide)
    · intro b o hb
      have nb : b ≠ D := fun z => by
        rw [z, nD] at hb
        cases hb
      rw [upd_ne nb]
      exact g b o hb
    · rw [upd_same, List.range_succ, List.map_append, Int.zero_add]
      rfl
  · rintro H1 ⟨g, hD⟩
    have hL : H1 l12 = some (.lst ((List.range 19).map fun (k : Nat) => V.bl (decide (((k : Nat) : Int) = ((w : Nat) : Int))))) := g _ _ m12
    refine r_eqFlat (lstOf hL) (lstOf hD) (fun x hx => ?_) ?_
    · obtain ⟨k, _, rfl⟩ := List.mem_map.mp hx
      rfl
    · exact q _ (g13.trans g)
theorem ok_law {c : Nat → Addr} {B : Addr} (S : Cs K mg c B) (hnN : ∀ i, i < 14 → PySem.W.findIn K (.ref (c i)) "name" = some none) (hnL : PySem.W.findIn K (.ref (c 14)) "names" = some none) (hn15 : PySem.W.findIn K (.ref (c 15)) "number" = some none) (hn16 : PySem.W.findIn K (.ref (c 16)) "number" = some none)
    (M_Hung : MkC P w K mg base 2 "Hung" (c 14) (spInitLD K (c 14) "names")) (M_BadText : MkC P w K mg base 2 "BadText" (c 15) (spInitD (c 15) "number" okInt)) (M_Nought : MkC P w K mg base 2 "Nought" (c 16) (spInitD (c 16) "number" okInt)) (M_NoNumber : MkC P w K mg base 2 "NoNumber" (c 17) (spInit0 (c 17))) (M_NoStep : MkC P w K mg base 2 "NoStep" (c 18) (spInit0 (c 18)))
    {f : Addr} {fd : FuncData} (F : FnP K "law" s_law f fd) (G_pool : Kn P w K mg base 1 "_law_pool" ["_law_script", "_law_at"] (spPool K)) (G_take : Kn P w K mg base 1 "_law_take" ["_law_pool_here", "_law_wide"] spTake) (G_name : Kn P w K mg base 2 "_law_name" ["_law_pool_here", "_law_had"] (spName K)) (G_made : Kn P w K mg base 4 "_law_made" ["_law_way", "_law_name_here"] (spMadeD c)) (G_is : Kn P w K mg base 1 "_law_is" ["_law_way", "_law_made_here"] (spIs c)) (G_whole : Kn P w K mg base 1 "_law_whole" ["_law_found"] spWhole)
    (z_isinstance : mg "isinstance" = none) (z_list : mg "list" = none) (z_range : mg "range" = none) (z_str : mg "str" = none) : FnOk P w K mg base CX0 (5 + 1) f fd ["_law_script"] (spLaw K) := by
  refine fnp_ok F sc_law (fun vs H Q E h => ?_) (fun cdv A outer s H vs Q E hr h => ?_)
  · obtain ⟨a, ns, rfl, _⟩ := h
    rfl
  obtain ⟨a, ns, rfl, hS, hl, q⟩ := h
  refine ⟨_, (pss_cons (ps_set (i := 1) sc_law.nd rfl (.inl rfl) (pe_kn G_pool (hr.mono (by decide)) (by rfl) (pa_cons (pv 0) (pa_cons pe_int pa_nil))))
    (pss_cons (ps_set (i := 2) sc_law.nd rfl (.inl rfl) (pe_kn G_take (hr.mono (by decide)) (by rfl) (pa_cons (pv 1) (pa_cons pe_int pa_nil))))
    (pss_cons (ps_set (i := 3) sc_law.nd rfl (.inl rfl) (pe_ix ix_list (pe_lst (pa_cons pe_str (pa_cons pe_str (pa_cons pe_str pa_nil)))) (pe_kn G_take (hr.mono (by decide)) (by rfl) (pa_cons (pv 1) (pa_cons pe_int pa_nil))) (fun _ _ => rfl)))
    (pss_cons (ps_if (pt_cmpR op_eq (pe_kn G_take (hr.mono (by decide)) (by rfl) (pa_cons (pv 1) (pa_cons pe_int pa_nil))) pe_int (nomark _))
    (pss_one (ps_set (i := 3) sc_law.nd rfl (.inl rfl) (pe_kn G_name (hr.mono (by decide)) (by rfl) (pa_cons (pv 1) (pa_cons (pe_lst pa_nil) pa_nil)))))
    pss_nil)
    (pss_cons (ps_set (i := 4) sc_law.nd rfl (.inl rfl) (pe_op op_sub (pe_op op_add (pe_op op_mulW (pe_kn G_take (hr.mono (by decide)) (by rfl) (pa_cons (pv 1) (pa_cons pe_int pa_nil))) pe_int) (pe_kn G_take (hr.mono (by decide)) (by rfl) (pa_cons (pv 1) (pa_cons pe_int pa_nil)))) (pe_op op_pow pe_int pe_int)))
    (pss_cons (ps_set (i := 5) sc_law.nd rfl (.inl rfl) (pe_lst pa_nil))
    (pss_cons (ps_for PassesOwn.never rfl (pi_range1 (by rfl) z_range (pa_cons (pe_kn G_take (hr.mono (by decide)) (by rfl) (pa_cons (pv 1) (pa_cons pe_int pa_nil))) pa_nil)) (pg_name (i := 6) sc_law.nd rfl (.inl rfl))
    (pss_one (ps_expr (pe_bm PySem.F.plainAttrs_list PySem.F.slot_list_append PySem.F.type_list_append mt_append (pv 5) (pa_cons (pe_kn G_name (hr.mono (by decide)) (by rfl) (pa_cons (pv 1) (pa_cons (pv 5) pa_nil))) pa_nil)))))
    (pss_cons (ps_if (pt_cmpR op_lt (pv 2) pe_int (nomark _))
    (pss_cons (ps_set (i := 7) sc_law.nd rfl (.inl rfl) (pe_kn G_made (hr.mono (by decide)) (by rfl) (pa_cons (pv 2) (pa_cons (pv 3) pa_nil))))
    (pss_one (ps_ret (pe_and (pe_kn G_is (hr.mono (by decide)) (by rfl) (pa_cons (pv 2) (pa_cons (pv 7) pa_nil))) (pe_and (pe_callB call_isi (by rfl) z_isinstance (by decide +kernel) (pa_cons (pe_xv (pv 7)) (pa_cons (pe_bltn (v := .ty "str") (by rfl) z_str (by decide +kernel) rfl) pa_nil))) (pe_one (pe_cmpR op_eq (pe_xv (pv 7)) (pv 3) (nomark _))))))))
    pss_nil)
    (pss_cons (ps_if (pt_cmpR op_eq (pv 2) pe_int (nomark _))
    (pss_cons (ps_set (i := 8) sc_law.nd rfl (.inl rfl) (pe_callTy call_list_of (by rfl) z_list (by decide +kernel) (pa_cons (pv 5) pa_nil)))
    (pss_cons (ps_set (i := 7) sc_law.nd rfl (.inl rfl) (pe_mkv M_Hung (hr.mono (by decide)) (by rfl) (pa_cons (pv 8) pa_nil)))
    (pss_cons (ps_expr (pe_bm PySem.F.plainAttrs_list PySem.F.slot_list_append PySem.F.type_list_append mt_append (pv 8) (pa_cons pe_str pa_nil)))
    (pss_one (ps_ret (pe_and (pe_kn G_is (hr.mono (by decide)) (by rfl) (pa_cons (pv 2) (pa_cons (pv 7) pa_nil))) (pe_and (pe_callB call_isi (by rfl) z_isinstance (by decide +kernel) (pa_cons (pe_xv (pv 7)) (pa_cons (pe_bltn (v := .ty "list") (by rfl) z_list (by decide +kernel) rfl) pa_nil))) (pe_one (pe_cmpR (op_eqV hr.units) (pe_xv (pv 7)) (pv 5) (nomark _))))))))))
    pss_nil)
    (pss_cons (ps_if (pt_cmpR op_eq (pv 2) pe_int (nomark _))
    (pss_cons (ps_set (i := 7) sc_law.nd rfl (.inl rfl) (pe_mkv M_BadText (hr.mono (by decide)) (by rfl) (pa_cons (pv 4) pa_nil)))
    (pss_one (ps_ret (pe_and (pe_kn G_is (hr.mono (by decide)) (by rfl) (pa_cons (pv 2) (pa_cons (pv 7) pa_nil))) (pe_and (pe_kn G_whole (hr.mono (by decide)) (by rfl) (pa_cons (pe_xv (pv 7)) pa_nil)) (pe_one (pe_cmpR op_eq (pe_xv (pv 7)) (pv 4) (nomark _))))))))
    pss_nil)
    (pss_cons (ps_if (pt_cmpR op_eq (pv 2) pe_int (nomark _))
    (pss_cons (ps_set (i := 7) sc_law.nd rfl (.inl rfl) (pe_mkv M_Nought (hr.mono (by decide)) (by rfl) (pa_cons (pv 4) pa_nil)))
    (pss_one (ps_ret (pe_and (pe_kn G_is (hr.mono (by decide)) (by rfl) (pa_cons (pv 2) (pa_cons (pv 7) pa_nil))) (pe_and (pe_kn G_whole (hr.mono (by decide)) (by rfl) (pa_cons (pe_xv (pv 7)) pa_nil)) (pe_one (pe_cmpR op_eq (pe_xv (pv 7)) (pv 4) (nomark _))))))))
    pss_nil)
    (pss_cons (ps_if (pt_cmpR op_eq (pv 2) pe_int (nomark _))
    (pss_one (ps_ret (pe_kn G_is (hr.mono (by decide)) (by rfl) (pa_cons (pv 2) (pa_cons (pe_mkv0 M_NoNumber (hr.mono (by decide)) (by rfl)) pa_nil)))))
    pss_nil)
    (pss_one (ps_ret (pe_kn G_is (hr.mono (by decide)) (by rfl) (pa_cons (pv 2) (pa_cons (pe_mkv0 M_NoStep (hr.mono (by decide)) (by rfl)) pa_nil))))))))))))))))), ?_⟩
  show (_ : TS) _ [some (.ref a), none, none, none, none, none, none, none, none] _
  repeat walk_at "st"
  refine ⟨a, ns, _, rfl, hS, hl, by decide, by decide, fun p H1 g1 np hp => ?_⟩
  repeat walk_at "st"
  refine ⟨p, _, _, rfl, hp, by omega, by decide, by decide, fun wy H2 b2 hp2 w0 w1 => ?_⟩
  have g2 := Same.but g1 np b2
  obtain ⟨w, rfl⟩ : ∃ w : Nat, wy = (w : Int) := ⟨wy.toNat, by omega⟩
  repeat walk_at "st"
  refine ⟨sz rfl, fun l1 n1 => ?_⟩
  have s1 := same_new n1 (.lst [V.str "", .str "A b", .str "~"])
  repeat walk_at "st"
  refine ⟨p, _, _, rfl, hp2.same s1, by omega, by decide, by decide, fun r3 H3 b3 hp3 r30 r31 => ?_⟩
  have g3 := Same.but (g2.trans s1) np b3
  have nl1 : l1 ≠ p := fun z => by
    obtain ⟨_, _, _, h1, _⟩ := hp2
    rw [z, h1] at n1
    cases n1
  obtain ⟨m, am, hm⟩ : ∃ m : Str, atI [V.str "", .str "A b", .str "~"] r3 = some (.str m) ∧ m.length ≤ 40 := by
    have : r3 = 0 ∨ r3 = 1 ∨ r3 = 2 := by omega
    rcases this with rfl | rfl | rfl
    all_goals exact ⟨_, rfl, by decide +kernel⟩
  refine r_ixL (lstOf (b3 _ _ nl1 upd_same)) am ?_
  repeat walk_at "st"
  refine r_cut (fun σ H' => ∃ z : Str, σ = [some (.ref a), some (.ref p), some (.int w), some (.str z), none, none, none, none, none] ∧ Same H H' ∧ Pl H' p 1000100 ∧ z.length ≤ 40) ?_ (fun N J => ?_)
  · clear am hm nl1
    rintro σ H4 ⟨z, rfl, g4, hp4, hz⟩
    repeat walk_at "st"
    refine ⟨p, _, _, rfl, hp4, by omega, by decide, by decide, fun r5 H5 b5 hp5 r50 r51 => ?_⟩
    have g5 := Same.but g4 np b5
    have sr5 : Sm 64 r5 := by unfold Sm; omega
    repeat walk_at "st"
    refine ⟨p, _, _, rfl, hp5, by omega, by decide, by decide, fun r6 H6 b6 hp6 r60 r61 => ?_⟩
    have g6 := Same.but g5 np b6
    repeat walk_at "st"
    generalize r5 * 22360 + r6 - 10 ^ Int.toNat 8 = num
    refine ⟨sz rfl, fun l7 n7 => ?_⟩
    obtain ⟨H7, e7, s7, k7⟩ := nw n7 (.lst [])
    rw [← e7]
    have n7' : H l7 = none := g6.free n7
    have nl7 : l7 ≠ p := fun z => by
      obtain ⟨_, _, _, h1, _⟩ := hp6
      rw [z, h1] at n7
      cases n7
    repeat walk_at "st"
    refine r_cut (fun σ H' => ∃ (zs : List Str) (y : Option V), σ = [some (.ref a), some (.ref p), some (.int w), some (.str z), some (.int num), some (.ref l7), y, none, none] ∧ Same H H' ∧ H' l7 = some (.lst (zs.map V.str)) ∧ zs.length ≤ 10) ?_ (fun N J => ?_)
    · clear g5 g6 hp5 hp6 b5 b6 e7 s7 k7 hp4 g4
      rintro σ H8 ⟨zs, y, rfl, g8, h8, hz8⟩
      refine r_seq ?_
      repeat walk_at "st"
      refine r_ite (fun c1 => ?_) (fun c1 => ?_)
      · have hw : w < 14 := by omega
        repeat walk_at "st"
        refine ⟨w, z, rfl, hw, by omega, fun b wd H9 g9 er => ?_⟩
        repeat walk_at "st"
        refine ⟨w, b, _, rfl, by omega, er, fun H10 g10 => ?_⟩
        have er10 := er.same g10
        repeat walk_at "st"
        refine r_xv ?_
        repeat walk_at "st"
        refine ⟨b, c w, _, .str z, rfl, er10, S.ex w (by omega), hnN w hw, by simp [List.lookup], ?_⟩
        repeat walk_at "st"
        refine r_isi (r := true) (.base (.str _)) (by decide +kernel) ?_
        repeat walk_at "st"
        refine r_xv ?_
        repeat walk_at "st"
        refine ⟨b, c w, _, .str z, rfl, er10, S.ex w (by omega), hnN w hw, by simp [List.lookup], ?_⟩
        repeat walk_at "st"
        rw [decide_eq_true rfl]
        exact q _
      repeat walk_at "st"
      refine r_seq ?_
      repeat walk_at "st"
      refine r_ite (fun c2 => ?_) (fun c2 => ?_)
      · have hw : w = 14 := by omega
        subst hw
        repeat walk_at "st"
        refine ⟨l7, _, rfl, .inl (lstOf h8), fun l9 n9 => ?_⟩
        obtain ⟨H9, e9, s9, k9⟩ := nw n9 (.lst (zs.map V.str))
        rw [← e9]
        repeat walk_at "st"
        refine r_mkv ?_
        repeat walk_at "st"
        refine ⟨(by show 1 ≤ 1000; decide), fun b hb => ⟨b, l9, zs.map V.str, rfl, (same_new hb _).seq (lstOf k9), by rw [List.length_map]; omega, upd_same, fun wd l10 H10 bt nl10 nlb h10 er => ⟨rfl, ?_⟩⟩⟩
        have g10 : Same H9 H10 := but_made bt hb
        have k10 : H10 l9 = some (.lst (zs.map V.str)) := g10 _ _ k9
        have h7 : H10 l7 = some (.lst (zs.map V.str)) := g10 _ _ (s9 _ _ h8)
        have n97 : l7 ≠ l9 := fun z => by
          rw [z, n9] at h8
          cases h8
        have n109 : l10 ≠ l9 := fun z => by
          rw [z, same_new hb (exo b (c 14) none) _ _ k9] at nl10
          cases nl10
        repeat walk_at "st"
        refine r_bm ?_
        repeat walk_at "st"
        refine ⟨.inl ⟨rfl, _, lstOf k10⟩, ?_⟩
        repeat walk_at "st"
        refine ⟨l9, _, _, rfl, rfl, k10, ?_, ?_⟩
        · rw [List.length_map]; exact Nat.lt_of_lt_of_le (show zs.length < 1000 by omega) (by decide)
        obtain ⟨H11, e11⟩ : ∃ H11, H11 = upd H10 l9 (.lst (zs.map V.str ++ [V.str "other"])) := ⟨_, rfl⟩
        rw [← e11]
        have er11 : Er H11 b (c 14) [("names", .ref l10), ("words", .ref wd)] := e11 ▸ er.set k10
        have k11 : H11 l10 = some (.lst (zs.map V.str)) := by rw [e11, upd_ne n109]; exact h10
        have h11 : H11 l7 = some (.lst (zs.map V.str)) := by rw [e11, upd_ne n97]; exact h7
        repeat walk_at "st"
        refine ⟨14, b, _, rfl, by omega, er11, fun H12 g12 => ?_⟩
        have er12 := er11.same g12
        repeat walk_at "st"
        refine r_xv ?_
        repeat walk_at "st"
        refine ⟨b, c 14, _, .ref l10, rfl, er12, S.ex 14 (by omega), hnL, by simp [List.lookup], ?_⟩
        repeat walk_at "st"
        refine r_isi (r := true) (.base (.lst (g12 _ _ k11))) (by decide +kernel) ?_
        repeat walk_at "st"
        refine r_xv ?_
        repeat walk_at "st"
        refine ⟨b, c 14, _, .ref l10, rfl, er12, S.ex 14 (by omega), hnL, by simp [List.lookup], ?_⟩
        repeat walk_at "st"
        refine r_eqFlat (lstOf (g12 _ _ k11)) (lstOf (g12 _ _ h11)) (fun x hx => ?_) (q _)
        obtain ⟨k, _, rfl⟩ := List.mem_map.mp hx
        rfl
      repeat walk_at "st"
      refine r_seq ?_
      repeat walk_at "st"
      refine r_ite (fun c3 => ?_) (fun c3 => ?_)
      · have hw : w = 15 := by omega
        subst hw
        repeat walk_at "st"
        refine r_mkv ?_
        repeat walk_at "st"
        refine ⟨(by show 1 ≤ 1000; decide), fun b hb => ⟨b, _, rfl, ⟨num, rfl⟩, upd_same, fun wd H10 bt er => ⟨rfl, ?_⟩⟩⟩
        repeat walk_at "st"
        refine ⟨15, b, _, rfl, by omega, er, fun H12 g12 => ?_⟩
        have er12 := er.same g12
        repeat walk_at "st"
        refine r_xv ?_
        repeat walk_at "st"
        refine ⟨b, c 15, _, .int num, rfl, er12, S.ex 15 (by omega), hn15, by simp [List.lookup], ?_⟩
        repeat walk_at "st"
        refine ⟨num, rfl, ?_⟩
        repeat walk_at "st"
        refine r_xv ?_
        repeat walk_at "st"
        refine ⟨b, c 15, _, .int num, rfl, er12, S.ex 15 (by omega), hn15, by simp [List.lookup], ?_⟩
        repeat walk_at "st"
        rw [decide_eq_true rfl]
        exact q _
      repeat walk_at "st"
      refine r_seq ?_
      repeat walk_at "st"
      refine r_ite (fun c4 => ?_) (fun c4 => ?_)
      · have hw : w = 16 := by omega
        subst hw
        repeat walk_at "st"
        refine r_mkv ?_
        repeat walk_at "st"
        refine ⟨(by show 1 ≤ 1000; decide), fun b hb => ⟨b, _, rfl, ⟨num, rfl⟩, upd_same, fun wd H10 bt er => ⟨rfl, ?_⟩⟩⟩
        repeat walk_at "st"
        refine ⟨16, b, _, rfl, by omega, er, fun H12 g12 => ?_⟩
        have er12 := er.same g12
        repeat walk_at "st"
        refine r_xv ?_
        repeat walk_at "st"
        refine ⟨b, c 16, _, .int num, rfl, er12, S.ex 16 (by omega), hn16, by simp [List.lookup], ?_⟩
        repeat walk_at "st"
        refine ⟨num, rfl, ?_⟩
        repeat walk_at "st"
        refine r_xv ?_
        repeat walk_at "st"
        refine ⟨b, c 16, _, .int num, rfl, er12, S.ex 16 (by omega), hn16, by simp [List.lookup], ?_⟩
        repeat walk_at "st"
        rw [decide_eq_true rfl]
        exact q _
      repeat walk_at "st"
      refine r_seq ?_
      repeat walk_at "st"
      refine r_ite (fun c5 => ?_) (fun c5 => ?_)
      · have hw : w = 17 := by omega
        subst hw
        repeat walk_at "st"
        refine r_mkv ?_
        refine ⟨(by show 0 ≤ 1000; decide), fun b hb => ⟨b, rfl, upd_same, fun dx fs H' nd ne bt e1 e2 => ⟨rfl, ?_⟩⟩⟩
        repeat walk_at "st"
        exact ⟨17, b, fs, rfl, by omega, .inr ⟨dx, e1, e2⟩, fun H12 g12 => q _⟩
      · have hw : w = 18 := by omega
        subst hw
        repeat walk_at "st"
        refine r_mkv ?_
        refine ⟨(by show 0 ≤ 1000; decide), fun b hb => ⟨b, rfl, upd_same, fun dx fs H' nd ne bt e1 e2 => ⟨rfl, ?_⟩⟩⟩
        repeat walk_at "st"
        exact ⟨18, b, fs, rfl, by omega, .inr ⟨dx, e1, e2⟩, fun H12 g12 => q _⟩
    · refine r_forR ?_
      repeat walk_at "st"
      refine ⟨p, _, _, rfl, hp6.same s7, by omega, by decide, by decide, fun r8 H8 b8 hp8 r80 r81 => ?_⟩
      have g8 := Same.but (g6.trans s7) np b8
      have k8 : H8 l7 = some (.lst []) := b8 _ _ nl7 k7
      repeat walk_at "st"
      refine ⟨r8, rfl, by omega, by omega, for_range (n := r8.toNat) (fun i σ H' => ∃ (zs : List Str) (y : Option V), σ = [some (.ref a), some (.ref p), some (.int w), some (.str z), some (.int num), some (.ref l7), y, none, none] ∧ Same H H' ∧ H' l7 = some (.lst (zs.map V.str)) ∧ zs.length ≤ i ∧ Pl H' p (1000103 + 30 * i)) ⟨[], _, rfl, g8, k8, Nat.le_refl _, hp8.mono (by omega)⟩ ?_ ?_⟩
      · rintro i σ H9 hi ⟨zs, y, rfl, g9, k9, hz9, hp9⟩
        repeat walk_at "st"
        refine r_bm ?_
        repeat walk_at "st"
        refine ⟨.inl ⟨rfl, _, lstOf k9⟩, ?_⟩
        repeat walk_at "st"
        refine ⟨p, l7, _, zs, rfl, hp9, by omega, lstOf k9, nl7, by omega, fun x H10 b10 hp10 hx => ?_⟩
        have k10 : H10 l7 = some (.lst (zs.map V.str)) := b10 _ _ nl7 k9
        have g10 := Same.but g9 np b10
        repeat walk_at "st"
        refine ⟨l7, _, _, rfl, rfl, k10, by rw [List.length_map]; exact Nat.lt_of_lt_of_le (show zs.length < 1000 by omega) (by decide), ?_⟩
        repeat walk_at "st"
        refine ⟨zs ++ [x], _, rfl, fun e o he => ?_, by rw [upd_same, List.map_append]; rfl, by rw [List.length_append]; show zs.length + 1 ≤ i + 1; omega, ?_⟩
        · rw [upd_ne (ne_of_none he n7')]
          exact g10 e o he
        · obtain ⟨v1, v2, v3, v4, v5, v6⟩ := hp10
          exact ⟨v1, v2, v3, by rw [upd_ne (Ne.symm nl7)]; exact v4, v5, by omega⟩
      · rintro σ H9 ⟨zs, y, rfl, g9, k9, hz9, hp9⟩
        exact J _ _ ⟨zs, y, rfl, g9, k9, by omega⟩
  · repeat walk_at "st"
    refine ⟨p, _, _, rfl, hp3, by omega, by decide, by decide, fun r4 H4 b4 hp4 r40 r41 => ?_⟩
    have g4 := Same.but g3 np b4
    repeat walk_at "st"
    refine r_ite (fun c1 => ?_) (fun c1 => ?_)
    · repeat walk_at "st"
      refine ⟨sz rfl, fun l5 n5 => ?_⟩
      have s5 := same_new n5 (.lst [])
      have nl5 : l5 ≠ p := fun z => by
        obtain ⟨_, _, _, h1, _⟩ := hp4
        rw [z, h1] at n5
        cases n5
      repeat walk_at "st"
      refine ⟨p, l5, _, [], rfl, hp4.same s5, by omega, lstOf upd_same, nl5, by decide, fun x H6 b6 hp6 hx => ?_⟩
      repeat walk_at "st"
      exact J _ _ ⟨x, rfl, Same.but (g4.trans s5) np b6, hp6.mono (by omega), hx⟩
    · repeat walk_at "st"
      exact J _ _ ⟨m, rfl, g4, hp4.mono (by omega), hm⟩
end
end Mb
namespace Mb
open PySem PySem.Spec PyProof.Rows L2
def d_pool : He.DefD := ⟨("_law_pool", none), "_law_pool", "_law_pool", defArgs s_pool, defBody s_pool, defScope s_pool, [], []⟩
def d_take : He.DefD := ⟨("_law_take", none), "_law_take", "_law_take", defArgs s_take, defBody s_take, defScope s_take, [], []⟩
def d_whole : He.DefD := ⟨("_law_whole", none), "_law_whole", "_law_whole", defArgs s_whole, defBody s_whole, defScope s_whole, [], []⟩
def d_name : He.DefD := ⟨("_law_name", none), "_law_name", "_law_name", defArgs s_name, defBody s_name, defScope s_name, [], []⟩
def d_made : He.DefD := ⟨("_law_made", none), "_law_made", "_law_made", defArgs s_made, defBody s_made, defScope s_made, [], []⟩
def d_is : He.DefD := ⟨("_law_is", none), "_law_is", "_law_is", defArgs s_is, defBody s_is, defScope s_is, [], []⟩
def d_law : He.DefD := ⟨("law", none), "law", "law", defArgs s_law, defBody s_law, defScope s_law, [], []⟩
def d_init_BookError : He.DefD := ⟨("BookError", some "__init__"), "__init__", "BookError.__init__", defArgs s_init_BookError, defBody s_init_BookError, defScope s_init_BookError, [.str "", .adr (He.dflAt ("BookError", some "__init__") 1)], []⟩
def d_init_BadName : He.DefD := ⟨("BadName", some "__init__"), "__init__", "BadName.__init__", defArgs s_init_BadName, defBody s_init_BadName, defScope s_init_BadName, [], []⟩
def d_init_Taken : He.DefD := ⟨("Taken", some "__init__"), "__init__", "Taken.__init__", defArgs s_init_Taken, defBody s_init_Taken, defScope s_init_Taken, [], []⟩
def d_init_NoThing : He.DefD := ⟨("NoThing", some "__init__"), "__init__", "NoThing.__init__", defArgs s_init_NoThing, defBody s_init_NoThing, defScope s_init_NoThing, [], []⟩
def d_init_WrongSort : He.DefD := ⟨("WrongSort", some "__init__"), "__init__", "WrongSort.__init__", defArgs s_init_WrongSort, defBody s_init_WrongSort, defScope s_init_WrongSort, [], []⟩
def d_init_NotFree : He.DefD := ⟨("NotFree", some "__init__"), "__init__", "NotFree.__init__", defArgs s_init_NotFree, defBody s_init_NotFree, defScope s_init_NotFree, [], []⟩
def d_init_Far : He.DefD := ⟨("Far", some "__init__"), "__init__", "Far.__init__", defArgs s_init_Far, defBody s_init_Far, defScope s_init_Far, [], []⟩
def d_init_TooHeavy : He.DefD := ⟨("TooHeavy", some "__init__"), "__init__", "TooHeavy.__init__", defArgs s_init_TooHeavy, defBody s_init_TooHeavy, defScope s_init_TooHeavy, [], []⟩
def d_init_Ring : He.DefD := ⟨("Ring", some "__init__"), "__init__", "Ring.__init__", defArgs s_init_Ring, defBody s_init_Ring, defScope s_init_Ring, [], []⟩
def d_init_Locked : He.DefD := ⟨("Locked", some "__init__"), "__init__", "Locked.__init__", defArgs s_init_Locked, defBody s_init_Locked, defScope s_init_Locked, [], []⟩
def d_init_NoGroup : He.DefD := ⟨("NoGroup", some "__init__"), "__init__", "NoGroup.__init__", defArgs s_init_NoGroup, defBody s_init_NoGroup, defScope s_init_NoGroup, [], []⟩
def d_init_NoWatcher : He.DefD := ⟨("NoWatcher", some "__init__"), "__init__", "NoWatcher.__init__", defArgs s_init_NoWatcher, defBody s_init_NoWatcher, defScope s_init_NoWatcher, [], []⟩
def d_init_NoMark : He.DefD := ⟨("NoMark", some "__init__"), "__init__", "NoMark.__init__", defArgs s_init_NoMark, defBody s_init_NoMark, defScope s_init_NoMark, [], []⟩
def d_init_Rooted : He.DefD := ⟨("Rooted", some "__init__"), "__init__", "Rooted.__init__", defArgs s_init_Rooted, defBody s_init_Rooted, defScope s_init_Rooted, [], []⟩
def d_init_TooWide : He.DefD := ⟨("TooWide", some "__init__"), "__init__", "TooWide.__init__", defArgs s_init_TooWide, defBody s_init_TooWide, defScope s_init_TooWide, [], []⟩
def d_init_Hung : He.DefD := ⟨("Hung", some "__init__"), "__init__", "Hung.__init__", defArgs s_init_Hung, defBody s_init_Hung, defScope s_init_Hung, [], []⟩
def d_init_BadText : He.DefD := ⟨("BadText", some "__init__"), "__init__", "BadText.__init__", defArgs s_init_BadText, defBody s_init_BadText, defScope s_init_BadText, [], []⟩
def d_init_Nought : He.DefD := ⟨("Nought", some "__init__"), "__init__", "Nought.__init__", defArgs s_init_Nought, defBody s_init_Nought, defScope s_init_Nought, [], []⟩
def d_init_NoNumber : He.DefD := ⟨("NoNumber", some "__init__"), "__init__", "NoNumber.__init__", defArgs s_init_NoNumber, defBody s_init_NoNumber, defScope s_init_NoNumber, [], []⟩
def d_init_NoStep : He.DefD := ⟨("NoStep", some "__init__"), "__init__", "NoStep.__init__", defArgs s_init_NoStep, defBody s_init_NoStep, defScope s_init_NoStep, [], []⟩
def fn : List He.DefD := [d_pool, d_take, d_whole, d_name, d_made, d_is, d_law, d_init_BookError, d_init_BadName, d_init_Taken, d_init_NoThing, d_init_WrongSort, d_init_NotFree, d_init_Far, d_init_TooHeavy, d_init_Ring, d_init_Locked, d_init_NoGroup, d_init_NoWatcher, d_init_NoMark, d_init_Rooted, d_init_TooWide, d_init_Hung, d_init_BadText, d_init_Nought, d_init_NoNumber, d_init_NoStep]
def fa : List He.Fa := [.glo "_law_pool", .glo "_law_take", .glo "_law_whole", .glo "_law_name", .glo "_law_made", .glo "_law_is", .glo "law", .free "ValueError", .free "bool", .free "int", .free "isinstance", .free "len", .free "list", .free "range", .free "str", .glo "BookError"]
abbrev R : PySem.W.OpenRow := PySem.W.OpenLaw.row PySem.Challenge.rw_movebook_k30_refusals
abbrev hk : PySem.W.Hook := hookX 5 fa fn xb
def ob (s : PySem.W.SharedT) : He.AlD × Bool := obsXG 5 fa fn xb (HandSHeadRun.getT s)
theorem ob_eq (s : PySem.W.SharedT) : ob s = hk.obs s.abs := obsXG_eq (HandSHeadRun.getT_eq s)
def names : List PySem.Str := [("BookError" : PySem.Str), ("BadName" : PySem.Str), ("Taken" : PySem.Str), ("NoThing" : PySem.Str), ("WrongSort" : PySem.Str), ("NotFree" : PySem.Str), ("Far" : PySem.Str), ("TooHeavy" : PySem.Str), ("Ring" : PySem.Str), ("Locked" : PySem.Str), ("NoGroup" : PySem.Str), ("NoWatcher" : PySem.Str), ("NoMark" : PySem.Str), ("Rooted" : PySem.Str), ("TooWide" : PySem.Str), ("Hung" : PySem.Str), ("BadText" : PySem.Str), ("Nought" : PySem.Str), ("NoNumber" : PySem.Str), ("NoStep" : PySem.Str), ("_law_pool" : PySem.Str), ("_law_take" : PySem.Str), ("_law_whole" : PySem.Str), ("_law_name" : PySem.Str), ("_law_made" : PySem.Str), ("_law_is" : PySem.Str)]
theorem run (w : World) : HandSHeadRun.RunEq R (PySem.W.view R.prog [28]) hk ob 15000 names w := by
  intro os
  kernel_rfl
theorem facts {P : Program} {w : World} {K : PySem.W.Frag} {h : Heap} {mg : Str → Option Value} {f : Addr} (X : K.In h) (G : h.Ns mainGlobals mg) (hfa : mg ("law" : Str) = some (.ref f)) (c : He.SaysD fa fn K) (cx : xb K = true) :
    ∃ fd : FuncData, (∀ (s : Shared) (v : Value), BindsTo s fd ⟨[v], []⟩ [("_law_script", v)]) ∧ ∀ base : Heap, K.In base → base.Ns mainGlobals mg → FnOk P w K mg base CX0 6 f fd ["_law_script"] (spLaw K) := by
  have F_pool : Fn K mg "_law_pool" s_pool := by
    obtain ⟨fd, F⟩ := c.def_ 0 (d := d_pool) rfl
    exact ⟨_, fd, F, He.glo_ok X G (c.fact 0 (f := .glo "_law_pool") rfl)⟩
  have F_take : Fn K mg "_law_take" s_take := by
    obtain ⟨fd, F⟩ := c.def_ 1 (d := d_take) rfl
    exact ⟨_, fd, F, He.glo_ok X G (c.fact 1 (f := .glo "_law_take") rfl)⟩
  have F_whole : Fn K mg "_law_whole" s_whole := by
    obtain ⟨fd, F⟩ := c.def_ 2 (d := d_whole) rfl
    exact ⟨_, fd, F, He.glo_ok X G (c.fact 2 (f := .glo "_law_whole") rfl)⟩
  have F_name : Fn K mg "_law_name" s_name := by
    obtain ⟨fd, F⟩ := c.def_ 3 (d := d_name) rfl
    exact ⟨_, fd, F, He.glo_ok X G (c.fact 3 (f := .glo "_law_name") rfl)⟩
  have F_made : Fn K mg "_law_made" s_made := by
    obtain ⟨fd, F⟩ := c.def_ 4 (d := d_made) rfl
    exact ⟨_, fd, F, He.glo_ok X G (c.fact 4 (f := .glo "_law_made") rfl)⟩
  have F_is : Fn K mg "_law_is" s_is := by
    obtain ⟨fd, F⟩ := c.def_ 5 (d := d_is) rfl
    exact ⟨_, fd, F, He.glo_ok X G (c.fact 5 (f := .glo "_law_is") rfl)⟩
  have F_law : Fn K mg "law" s_law := by
    obtain ⟨fd, F⟩ := c.def_ 6 (d := d_law) rfl
    exact ⟨_, fd, F, He.glo_ok X G (c.fact 6 (f := .glo "law") rfl)⟩
  have z_ValueError : mg "ValueError" = none := He.free_ok X G (c.fact 7 (f := .free "ValueError") rfl)
  have z_bool : mg "bool" = none := He.free_ok X G (c.fact 8 (f := .free "bool") rfl)
  have z_int : mg "int" = none := He.free_ok X G (c.fact 9 (f := .free "int") rfl)
  have z_isinstance : mg "isinstance" = none := He.free_ok X G (c.fact 10 (f := .free "isinstance") rfl)
  have z_len : mg "len" = none := He.free_ok X G (c.fact 11 (f := .free "len") rfl)
  have z_list : mg "list" = none := He.free_ok X G (c.fact 12 (f := .free "list") rfl)
  have z_range : mg "range" = none := He.free_ok X G (c.fact 13 (f := .free "range") rfl)
  have z_str : mg "str" = none := He.free_ok X G (c.fact 14 (f := .free "str") rfl)
  have g_BookError := He.glo_ok X G (c.fact 15 (f := .glo "BookError") rfl)
  obtain ⟨fi_BookError, FI_BookError⟩ := c.def_ 7 (d := d_init_BookError) rfl
  obtain ⟨fi_BadName, FI_BadName⟩ := c.def_ 8 (d := d_init_BadName) rfl
  obtain ⟨fi_Taken, FI_Taken⟩ := c.def_ 9 (d := d_init_Taken) rfl
  obtain ⟨fi_NoThing, FI_NoThing⟩ := c.def_ 10 (d := d_init_NoThing) rfl
  obtain ⟨fi_WrongSort, FI_WrongSort⟩ := c.def_ 11 (d := d_init_WrongSort) rfl
  obtain ⟨fi_NotFree, FI_NotFree⟩ := c.def_ 12 (d := d_init_NotFree) rfl
  obtain ⟨fi_Far, FI_Far⟩ := c.def_ 13 (d := d_init_Far) rfl
  obtain ⟨fi_TooHeavy, FI_TooHeavy⟩ := c.def_ 14 (d := d_init_TooHeavy) rfl
  obtain ⟨fi_Ring, FI_Ring⟩ := c.def_ 15 (d := d_init_Ring) rfl
  obtain ⟨fi_Locked, FI_Locked⟩ := c.def_ 16 (d := d_init_Locked) rfl
  obtain ⟨fi_NoGroup, FI_NoGroup⟩ := c.def_ 17 (d := d_init_NoGroup) rfl
  obtain ⟨fi_NoWatcher, FI_NoWatcher⟩ := c.def_ 18 (d := d_init_NoWatcher) rfl
  obtain ⟨fi_NoMark, FI_NoMark⟩ := c.def_ 19 (d := d_init_NoMark) rfl
  obtain ⟨fi_Rooted, FI_Rooted⟩ := c.def_ 20 (d := d_init_Rooted) rfl
  obtain ⟨fi_TooWide, FI_TooWide⟩ := c.def_ 21 (d := d_init_TooWide) rfl
  obtain ⟨fi_Hung, FI_Hung⟩ := c.def_ 22 (d := d_init_Hung) rfl
  obtain ⟨fi_BadText, FI_BadText⟩ := c.def_ 23 (d := d_init_BadText) rfl
  obtain ⟨fi_Nought, FI_Nought⟩ := c.def_ 24 (d := d_init_Nought) rfl
  obtain ⟨fi_NoNumber, FI_NoNumber⟩ := c.def_ 25 (d := d_init_NoNumber) rfl
  obtain ⟨fi_NoStep, FI_NoStep⟩ := c.def_ 26 (d := d_init_NoStep) rfl
  have XS := xs_of X G g_BookError cx
  have FX_BookError : FnB K mg "BookError" "BookError.__init__" s_init_BookError := ⟨_, _, fi_BookError, _, _, FI_BookError, XS.BI, g_BookError⟩
  have FX_BadName : FnI K mg "BadName" "BadName.__init__" (He.ga K (nm 0)) s_init_BadName := ⟨_, fi_BadName, FI_BadName, XS.ox 0 (by decide), (XS.me 0 (by decide)).at_, beq_iff_eq.mp (XS.me 0 (by decide)).fn, XS.S.g 0 (by decide)⟩
  have FX_Taken : FnI K mg "Taken" "Taken.__init__" (He.ga K (nm 1)) s_init_Taken := ⟨_, fi_Taken, FI_Taken, XS.ox 1 (by decide), (XS.me 1 (by decide)).at_, beq_iff_eq.mp (XS.me 1 (by decide)).fn, XS.S.g 1 (by decide)⟩
  have FX_NoThing : FnI K mg "NoThing" "NoThing.__init__" (He.ga K (nm 2)) s_init_NoThing := ⟨_, fi_NoThing, FI_NoThing, XS.ox 2 (by decide), (XS.me 2 (by decide)).at_, beq_iff_eq.mp (XS.me 2 (by decide)).fn, XS.S.g 2 (by decide)⟩
  have FX_WrongSort : FnI K mg "WrongSort" "WrongSort.__init__" (He.ga K (nm 3)) s_init_WrongSort := ⟨_, fi_WrongSort, FI_WrongSort, XS.ox 3 (by decide), (XS.me 3 (by decide)).at_, beq_iff_eq.mp (XS.me 3 (by decide)).fn, XS.S.g 3 (by decide)⟩
  have FX_NotFree : FnI K mg "NotFree" "NotFree.__init__" (He.ga K (nm 4)) s_init_NotFree := ⟨_, fi_NotFree, FI_NotFree, XS.ox 4 (by decide), (XS.me 4 (by decide)).at_, beq_iff_eq.mp (XS.me 4 (by decide)).fn, XS.S.g 4 (by decide)⟩
  have FX_Far : FnI K mg "Far" "Far.__init__" (He.ga K (nm 5)) s_init_Far := ⟨_, fi_Far, FI_Far, XS.ox 5 (by decide), (XS.me 5 (by decide)).at_, beq_iff_eq.mp (XS.me 5 (by decide)).fn, XS.S.g 5 (by decide)⟩
  have FX_TooHeavy : FnI K mg "TooHeavy" "TooHeavy.__init__" (He.ga K (nm 6)) s_init_TooHeavy := ⟨_, fi_TooHeavy, FI_TooHeavy, XS.ox 6 (by decide), (XS.me 6 (by decide)).at_, beq_iff_eq.mp (XS.me 6 (by decide)).fn, XS.S.g 6 (by decide)⟩
  have FX_Ring : FnI K mg "Ring" "Ring.__init__" (He.ga K (nm 7)) s_init_Ring := ⟨_, fi_Ring, FI_Ring, XS.ox 7 (by decide), (XS.me 7 (by decide)).at_, beq_iff_eq.mp (XS.me 7 (by decide)).fn, XS.S.g 7 (by decide)⟩
  have FX_Locked : FnI K mg "Locked" "Locked.__init__" (He.ga K (nm 8)) s_init_Locked := ⟨_, fi_Locked, FI_Locked, XS.ox 8 (by decide), (XS.me 8 (by decide)).at_, beq_iff_eq.mp (XS.me 8 (by decide)).fn, XS.S.g 8 (by decide)⟩
  have FX_NoGroup : FnI K mg "NoGroup" "NoGroup.__init__" (He.ga K (nm 9)) s_init_NoGroup := ⟨_, fi_NoGroup, FI_NoGroup, XS.ox 9 (by decide), (XS.me 9 (by decide)).at_, beq_iff_eq.mp (XS.me 9 (by decide)).fn, XS.S.g 9 (by decide)⟩
  have FX_NoWatcher : FnI K mg "NoWatcher" "NoWatcher.__init__" (He.ga K (nm 10)) s_init_NoWatcher := ⟨_, fi_NoWatcher, FI_NoWatcher, XS.ox 10 (by decide), (XS.me 10 (by decide)).at_, beq_iff_eq.mp (XS.me 10 (by decide)).fn, XS.S.g 10 (by decide)⟩
  have FX_NoMark : FnI K mg "NoMark" "NoMark.__init__" (He.ga K (nm 11)) s_init_NoMark := ⟨_, fi_NoMark, FI_NoMark, XS.ox 11 (by decide), (XS.me 11 (by decide)).at_, beq_iff_eq.mp (XS.me 11 (by decide)).fn, XS.S.g 11 (by decide)⟩
  have FX_Rooted : FnI K mg "Rooted" "Rooted.__init__" (He.ga K (nm 12)) s_init_Rooted := ⟨_, fi_Rooted, FI_Rooted, XS.ox 12 (by decide), (XS.me 12 (by decide)).at_, beq_iff_eq.mp (XS.me 12 (by decide)).fn, XS.S.g 12 (by decide)⟩
  have FX_TooWide : FnI K mg "TooWide" "TooWide.__init__" (He.ga K (nm 13)) s_init_TooWide := ⟨_, fi_TooWide, FI_TooWide, XS.ox 13 (by decide), (XS.me 13 (by decide)).at_, beq_iff_eq.mp (XS.me 13 (by decide)).fn, XS.S.g 13 (by decide)⟩
  have FX_Hung : FnI K mg "Hung" "Hung.__init__" (He.ga K (nm 14)) s_init_Hung := ⟨_, fi_Hung, FI_Hung, XS.ox 14 (by decide), (XS.me 14 (by decide)).at_, beq_iff_eq.mp (XS.me 14 (by decide)).fn, XS.S.g 14 (by decide)⟩
  have FX_BadText : FnI K mg "BadText" "BadText.__init__" (He.ga K (nm 15)) s_init_BadText := ⟨_, fi_BadText, FI_BadText, XS.ox 15 (by decide), (XS.me 15 (by decide)).at_, beq_iff_eq.mp (XS.me 15 (by decide)).fn, XS.S.g 15 (by decide)⟩
  have FX_Nought : FnI K mg "Nought" "Nought.__init__" (He.ga K (nm 16)) s_init_Nought := ⟨_, fi_Nought, FI_Nought, XS.ox 16 (by decide), (XS.me 16 (by decide)).at_, beq_iff_eq.mp (XS.me 16 (by decide)).fn, XS.S.g 16 (by decide)⟩
  have FX_NoNumber : FnI K mg "NoNumber" "NoNumber.__init__" (He.ga K (nm 17)) s_init_NoNumber := ⟨_, fi_NoNumber, FI_NoNumber, XS.ox 17 (by decide), (XS.me 17 (by decide)).at_, beq_iff_eq.mp (XS.me 17 (by decide)).fn, XS.S.g 17 (by decide)⟩
  have FX_NoStep : FnI K mg "NoStep" "NoStep.__init__" (He.ga K (nm 18)) s_init_NoStep := ⟨_, fi_NoStep, FI_NoStep, XS.ox 18 (by decide), (XS.me 18 (by decide)).at_, beq_iff_eq.mp (XS.me 18 (by decide)).fn, XS.S.g 18 (by decide)⟩
  obtain ⟨fd, FL⟩ := c.def_ 6 (d := d_law) rfl
  have e := hfa.symm.trans (He.glo_ok X G (c.fact 6 (f := .glo "law") rfl))
  cases e
  have b := FunD.bindsA (ps := ["_law_script"]) FL fun _ _ _ _ _ _ us hl => match us, hl with | [_], _ => rfl
  refine ⟨fd, fun s v => b s [v] rfl, fun base _ _ => ?_⟩
  have G_init_BookError := ok_init_BookError (P := P) (w := w) (base := base) FX_BookError z_ValueError XS.VI
  have G_init_BadName := ok_init_BadName (P := P) (w := w) (base := base) FX_BadName G_init_BookError (XS.nW 0 (by decide)) (XS.nN 0 (by decide))
  have G_init_Taken := ok_init_Taken (P := P) (w := w) (base := base) FX_Taken G_init_BookError (XS.nW 1 (by decide)) (XS.nN 1 (by decide))
  have G_init_NoThing := ok_init_NoThing (P := P) (w := w) (base := base) FX_NoThing G_init_BookError (XS.nW 2 (by decide)) (XS.nN 2 (by decide))
  have G_init_WrongSort := ok_init_WrongSort (P := P) (w := w) (base := base) FX_WrongSort G_init_BookError (XS.nW 3 (by decide)) (XS.nN 3 (by decide))
  have G_init_NotFree := ok_init_NotFree (P := P) (w := w) (base := base) FX_NotFree G_init_BookError (XS.nW 4 (by decide)) (XS.nN 4 (by decide))
  have G_init_Far := ok_init_Far (P := P) (w := w) (base := base) FX_Far G_init_BookError (XS.nW 5 (by decide)) (XS.nN 5 (by decide))
  have G_init_TooHeavy := ok_init_TooHeavy (P := P) (w := w) (base := base) FX_TooHeavy G_init_BookError (XS.nW 6 (by decide)) (XS.nN 6 (by decide))
  have G_init_Ring := ok_init_Ring (P := P) (w := w) (base := base) FX_Ring G_init_BookError (XS.nW 7 (by decide)) (XS.nN 7 (by decide))
  have G_init_Locked := ok_init_Locked (P := P) (w := w) (base := base) FX_Locked G_init_BookError (XS.nW 8 (by decide)) (XS.nN 8 (by decide))
  have G_init_NoGroup := ok_init_NoGroup (P := P) (w := w) (base := base) FX_NoGroup G_init_BookError (XS.nW 9 (by decide)) (XS.nN 9 (by decide))
  have G_init_NoWatcher := ok_init_NoWatcher (P := P) (w := w) (base := base) FX_NoWatcher G_init_BookError (XS.nW 10 (by decide)) (XS.nN 10 (by decide))
  have G_init_NoMark := ok_init_NoMark (P := P) (w := w) (base := base) FX_NoMark G_init_BookError (XS.nW 11 (by decide)) (XS.nN 11 (by decide))
  have G_init_Rooted := ok_init_Rooted (P := P) (w := w) (base := base) FX_Rooted G_init_BookError (XS.nW 12 (by decide)) (XS.nN 12 (by decide))
  have G_init_TooWide := ok_init_TooWide (P := P) (w := w) (base := base) FX_TooWide G_init_BookError (XS.nW 13 (by decide)) (XS.nN 13 (by decide))
  have G_init_Hung := ok_init_Hung (P := P) (w := w) (base := base) FX_Hung G_init_BookError (XS.nW 14 (by decide)) XS.nL z_list
  have G_init_BadText := ok_init_BadText (P := P) (w := w) (base := base) FX_BadText G_init_BookError (XS.nW 15 (by decide)) XS.n15
  have G_init_Nought := ok_init_Nought (P := P) (w := w) (base := base) FX_Nought G_init_BookError (XS.nW 16 (by decide)) XS.n16
  have G_init_NoNumber := ok_init_NoNumber (P := P) (w := w) (base := base) FX_NoNumber G_init_BookError (XS.nW 17 (by decide))
  have G_init_NoStep := ok_init_NoStep (P := P) (w := w) (base := base) FX_NoStep G_init_BookError (XS.nW 18 (by decide))
  have G_pool := ok_pool (P := P) (w := w) (base := base) F_pool z_len
  have G_take := ok_take (P := P) (w := w) (base := base) F_take
  have G_whole := ok_whole (P := P) (w := w) (base := base) F_whole z_isinstance z_int z_bool
  have G_name := ok_name (P := P) (w := w) (base := base) F_name G_take z_len z_range z_str
  have G_made := ok_made (P := P) (w := w) (base := base) (c := fun i => He.ga K (nm i)) F_made G_init_BadName G_init_Taken G_init_NoThing G_init_WrongSort G_init_NotFree G_init_Far G_init_TooHeavy G_init_Ring G_init_Locked G_init_NoGroup G_init_NoWatcher G_init_NoMark G_init_Rooted G_init_TooWide
  have G_is := ok_is (P := P) (w := w) (base := base) XS.S F_is z_isinstance z_ValueError z_range
  have G_law := ok_law (P := P) (w := w) (base := base) XS.S XS.nN XS.nL XS.n15 XS.n16 G_init_Hung G_init_BadText G_init_Nought G_init_NoNumber G_init_NoStep FL G_pool G_take G_name G_made G_is G_whole z_isinstance z_list z_range z_str
  exact G_law
end Mb
open PySem PySem.W PySem.Calls PyProof.Rows
set_option maxRecDepth 100000 in
set_option maxHeartbeats 0 in
theorem PySem.Challenge.cw_movebook_k30_refusals_holds : PySem.Challenge.rw_movebook_k30_refusals.Holds := by
  w_on; o_law
  refine HandSHeadRun.head_any (r := OpenLaw.row PySem.Challenge.rw_movebook_k30_refusals) (q := view (OpenLaw.row PySem.Challenge.rw_movebook_k30_refusals).prog [28]) (H := Mb.hk) (ob := Mb.ob) (M := 15000) (loose := Mb.names) (d := HandSHeadRun.topDef (OpenLaw.row PySem.Challenge.rw_movebook_k30_refusals).prog 28) (kwd := []) Mb.ob_eq
    (by kernel_rfl) (fun s => by kernel_rfl) Mb.run (by kernel_rfl) (by kernel_rfl) (by kernel_rfl) (by rfl) (by first | assumption | decide +kernel) (by decide +kernel) ⟨rfl, rfl, rfl, rfl, rfl, by decide +kernel⟩ ?hw ?hc
  case hw => w_witness2
  case hc =>
    refine L2.walk_ofE (l := PySem.Challenge.rw_movebook_k30_refusals) (n := 63) (k := 6) (x := "_law_script") (CX := L2.CX0) rfl (by decide) (by kernel_rfl) ⟨rfl, by decide, by decide⟩ ?F (fun _ _ _ _ z => z)
    intro w mg fa h Y G hmg0
    obtain ⟨K, KX, c, cx⟩ := Y
    have hmg : mg ("law" : PySem.Str) = some (.ref fa) := by
      have e : (HandSHeadRun.topDef (OpenLaw.row PySem.Challenge.rw_movebook_k30_refusals).prog 28).name = ("law" : PySem.Str) := by kernel_rfl
      rw [← e]
      exact hmg0
    obtain ⟨fd, hb, hF⟩ := Mb.facts (P := (PySem.Challenge.rw_movebook_k30_refusals).prog) (w := w) KX G hmg c cx
    exact ⟨K, fd, Mb.spLaw K, KX, hb, fun H a ns hl _ hS => ⟨a, ns, rfl, hS, hl, fun _ => rfl⟩, hF⟩
