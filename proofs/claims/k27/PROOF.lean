import PyProof.Rows.All
import Wide.All
import OpenK.AllK
import Wide.FinOn
import KE.KStateDown
import Lean
import HandS.ForMost
import HandS.More
import HandS.WordsExc
import HandS.ExcIs
import HandS.ExcOwn
import HandS.TryOnly
import HandS.Exc
import HandS.Defaults
import HandS.Wide
import HandS.WideBits
import HandS.IsInst
import HandS.Head0
import HandS.Head1
import HandS.Head2
import HandS.HeadEnd
import HandS.HeadHook1
import HandS.HeadHook2
import HandS.Conv
import HandS.FStr
import HandS.DeepEq
import HandS.ExcInit
import HandS.ExcValue
import HandS.ExcField
import KE.KExcIs
import HandS.HeadHook3
import HandS.ListItems
import HandS.Iter
import HandS.Dict
import HandS.Star
import HandS.Rev
import HandS.Style
import HandS.Walk
import PySem.Challenge.RW_movebook_k27_beneath_and_above
set_option Elab.async false
set_option linter.all false
set_option maxRecDepth 100000
set_option maxHeartbeats 4000000
namespace Mb
open PySem L2
/-! ### a def that keeps its promise, as its callers take it -/
structure Kn (P : Program) (w : World) (K : PySem.W.Frag) (mg : Str → Option Value) (base : Heap) (k : Nat) (x : Str) (ps : List Str) (sp : Sp) : Prop where
  ex : ∃ f fd, FnOk P w K mg base CX0 k f fd ps sp ∧ mg x = some (.ref f) ∧ PySem.W.keepIn K (.ref f) = true ∧ Binds K fd ps []
theorem pe_kn {X : Cx} {k : Nat} {x : Str} {ps : List Str} {sp : Sp} {e : Expr} {es : List Expr} {p pos : Pos} {t : TA} (G : Kn X.prog X.w X.K X.mg X.base k x ps sp) (hr : Room k X.A) (hg : Gl X x)
    (ha : PA X (e :: es) t) (hdb : (x == ("__debug__" : Str)) = false := by decide) (he : starEach (e :: es) X.env = (false, eval e X.env) :: starEach es X.env := by rfl) (hpl : (backTo pos (starEach es X.env)).any (·.1) = false := by rfl) :
    PE X (.Call (.Name x p) (e :: es) [] pos) (tCall sp [] E0 t) := by
  obtain ⟨f, fd, F, m, kp, b⟩ := G.ex
  exact pe_call F hr hg m kp b .nil pass0 ha hdb he hpl
/-- a def of the text: where it stands -/
abbrev FnP (K : PySem.W.Frag) (x : Str) (st : Stmt) (f : Addr) (fd : FuncData) : Prop := FunD K x x (defArgs st) (defBody st) (defScope st) [] [] f fd
structure Fn (K : PySem.W.Frag) (mg : Str → Option Value) (x : Str) (st : Stmt) : Prop where
  ex : ∃ f fd, FnP K x st f fd ∧ mg x = some (.ref f)
/-- from the walk of its body to its promise -/
theorem Fn.kn {P : Program} {w : World} {K : PySem.W.Frag} {mg : Str → Option Value} {base : Heap} {k : Nat} {x : Str} {st : Stmt} {N ps : List Str} {sp : Sp} (F : Fn K mg x st) (S : FnScope N ps (defScope st)) (len : ∀ vs H Q E, sp vs H Q E → vs.length = ps.length)
    (hbody : ∀ (f : Addr) (cdv : Value) (A : Around) (outer : List Env) (s : Shared) (H : Hp) (vs : List V) (Q : VK) (E : XK), Room k (A.deeper (PyProof.Rows.envOfC x (defScope st) s.heap.objs.size f cdv)) → sp vs H Q E →
      ∃ t, PSs (cxOf CX0 P w K mg base N x (defScope st) f cdv A outer s H E).nox (defBody st) t ∧ t { nx := fun _ H' => Q .non H', rt := Q } (start N vs) H)
    (hb : ∀ (kV doc pm : Value) (an : Option Addr) (cdv ct : Value) (us : List Value), us.length = ps.length → bindArgs (PySem.W.fnOf x x (defArgs st) (defBody st) (defScope st) .none kV doc pm an cdv ct) ⟨us, []⟩ = pure (ps.zip us)) :
    Kn P w K mg base (k + 1) x ps sp := by
  obtain ⟨f, fd, F, m⟩ := F.ex
  refine ⟨f, fd, F.ok S len fun cdv A outer s H vs Q E hr h => ?_, m, F.kp, F.bindsN hb⟩
  obtain ⟨t, p, q⟩ := hbody f cdv A outer s H vs Q E hr h
  exact ⟨t, p.nox, q⟩
/-- the same for the law itself, whose function object is known -/
theorem fnp_ok {P : Program} {w : World} {K : PySem.W.Frag} {mg : Str → Option Value} {base : Heap} {k : Nat} {x : Str} {st : Stmt} {N ps : List Str} {sp : Sp} {f : Addr} {fd : FuncData} (F : FnP K x st f fd) (S : FnScope N ps (defScope st)) (len : ∀ vs H Q E, sp vs H Q E → vs.length = ps.length)
    (hbody : ∀ (cdv : Value) (A : Around) (outer : List Env) (s : Shared) (H : Hp) (vs : List V) (Q : VK) (E : XK), Room k (A.deeper (PyProof.Rows.envOfC x (defScope st) s.heap.objs.size f cdv)) → sp vs H Q E →
      ∃ t, PSs (cxOf CX0 P w K mg base N x (defScope st) f cdv A outer s H E).nox (defBody st) t ∧ t { nx := fun _ H' => Q .non H', rt := Q } (start N vs) H) : FnOk P w K mg base CX0 (k + 1) f fd ps sp := by
  refine F.ok S len fun cdv A outer s H vs Q E hr h => ?_
  obtain ⟨t, p, q⟩ := hbody cdv A outer s H vs Q E hr h
  exact ⟨t, p.nox, q⟩
/-! ### x is True, x is False -/
theorem op_isB {X : Cx} : OpR X (compareOp .Is) (fun x y H Q => ∃ a b, x = .bl a ∧ y = .bl b ∧ Q (.bl (a == b)) H) := by
  intro pins s σ H x y v u Q I rx ry h
  obtain ⟨a, b, rfl, rfl, q⟩ := h
  cases (show v = Value.bool a from rx)
  cases (show u = Value.bool b from ry)
  exact PyProof.Rows.is_bool ⟨.bl (a == b), H, I, rfl, q⟩
/-! ### // by any great divisor but 0 -/
def CDivZ (_ j : Int) : Prop := j ≠ 0 ∧ j.natAbs.log2 < 9000
theorem op_fdivZ {X : Cx} : OpR X (binaryOp .FloorDiv) (rI CDivZ fun i j => .int (i.fdiv j)) := opI fun _ _ _ _ _ _ _ hc q => PyProof.Rows.floordiv_int hc.1 q (.inl (PyProof.noPylong_of_log2 hc.2))
theorem cdivZ {i j : Int} {b : Nat} (h : j ≠ 0) (hb : j.natAbs < 2 ^ b) (h0 : 0 < b) (h9 : b ≤ 9000) : CDivZ i j := ⟨h, Nat.lt_of_lt_of_le (PySem.Flt.log2_lt_of h0 hb) h9⟩
/-! ### readings, step by step -/
section
variable {σ : St} {H : Hp} {Q : VK} {D : Ends} {K : PySem.W.Frag}
theorem r_var {i : Nat} {v : V} (h : σ[i]? = some (some v)) (q : Q v H) : tVar i σ H Q := ⟨v, h, q⟩
theorem r_c {v : V} (q : Q v H) : tC v σ H Q := q
theorem r_op {r : R2} {ta tb : TE} (q : ta σ H fun x H1 => tb σ H1 fun y H2 => r x y H2 Q) : tOp r ta tb σ H Q := q
theorem r_un {r : V → Hp → VK → Prop} {ta : TE} (q : ta σ H fun x H1 => r x H1 Q) : tUn r ta σ H Q := q
theorem r_i {C : Int → Int → Prop} {g : Int → Int → V} {i j : Int} (c : C i j) (q : Q (g i j) H) : rI C g (.int i) (.int j) H Q := ⟨i, j, rfl, rfl, c, q⟩
theorem r_i0 {g : Int → Int → V} {i j : Int} (q : Q (g i j) H) : rI0 g (.int i) (.int j) H Q := ⟨i, j, rfl, rfl, q⟩
theorem r_u {g : Int → V} {i : Int} (q : Q (g i) H) : rU g (.int i) H Q := ⟨i, rfl, q⟩
theorem r_eqI {i j : Int} (q : Q (.bl (decide (i = j))) H) : rEq (.int i) (.int j) H Q := ⟨rfl, by
  rw [show decide (V.int i = V.int j) = decide (i = j) from by simp]; exact q⟩
theorem r_neI {i j : Int} (q : Q (.bl (!decide (i = j))) H) : rNe (.int i) (.int j) H Q := ⟨rfl, by
  rw [show decide (V.int i = V.int j) = decide (i = j) from by simp]; exact q⟩
theorem r_eqB {i j : Bool} (q : Q (.bl (i == j)) H) : rEq (.bl i) (.bl j) H Q := ⟨rfl, by
  rw [show decide (V.bl i = V.bl j) = (i == j) from by cases i <;> cases j <;> rfl]; exact q⟩
theorem r_eqS {i j : Str} (q : Q (.bl (decide (i = j))) H) : rEq (.str i) (.str j) H Q := ⟨rfl, by
  rw [show decide (V.str i = V.str j) = decide (i = j) from by simp]; exact q⟩
theorem r_bits {to : TE} (q : to σ H fun x H1 => ∃ i, x = .int i ∧ Q (.int (Builtin.Int.intBits i : Nat)) H1) : tBits to σ H Q := q
theorem r_int {i : Int} {Q : Int → Prop} (q : Q i) : ∃ k, V.int i = .int k ∧ Q k := ⟨i, rfl, q⟩
theorem r_cb {r : List V → Hp → VK → Prop} {t : TA} (q : t σ H fun vs H1 => r vs H1 Q) : tCB r t σ H Q := q
theorem r_nil {Q : List V → Hp → Prop} (q : Q [] H) : tNil σ H Q := q
theorem r_cons {ta : TE} {tr : TA} {Q : List V → Hp → Prop} (q : ta σ H fun x H1 => tr σ H1 fun xs H2 => Q (x :: xs) H2) : tCons ta tr σ H Q := q
theorem r_tup {t : TA} (q : t σ H fun xs H1 => xs.length ≤ sizeLine ∧ ∀ p, H1 p = none → Q (.ref p) (upd H1 p (.tup xs))) : tTup t σ H Q := q
theorem r_lst {t : TA} (q : t σ H fun xs H1 => xs.length ≤ sizeLine ∧ ∀ p, H1 p = none → Q (.ref p) (upd H1 p (.lst xs))) : tLst t σ H Q := q
theorem r_call {sp : Sp} {E : XK} {t : TA} (q : t σ H fun vs H1 => sp (vs ++ []) H1 Q E) : tCall sp [] E t σ H Q := q
theorem r_seq {t u : TS} (q : t { D with nx := u D } σ H) : tSeq t u D σ H := q
theorem r_seqA {te : TE} {g : TG} {u : TS} (q : te σ H fun x H1 => g x σ H1 (u D)) : tSeq (tAsg te g) u D σ H := q
theorem r_seqD {te : TE} {u : TS} (q : te σ H fun _ H1 => u D σ H1) : tSeq (tDrop te) u D σ H := q
theorem r_seqP {i j : Nat} {ta : TA} {u : TS} (q : ta σ H fun vs H1 => ∃ v w, vs = [v, w] ∧ u D ((σ.set i (some v)).set j (some w)) H1) : tSeq (tPar i j ta) u D σ H := q
theorem r_cut {t u : TS} (R : St → Hp → Prop) (k : ∀ σ1 H1, R σ1 H1 → u D σ1 H1) (h : ∀ N : St → Hp → Prop, (∀ σ1 H1, R σ1 H1 → N σ1 H1) → t { D with nx := N } σ H) : tSeq t u D σ H := h _ k
theorem r_next (q : D.nx σ H) : tNext D σ H := q
theorem r_nx {a c d : St → Hp → Prop} {b : VK} (q : a σ H) : (Ends.mk a b c d).nx σ H := q
theorem r_asg {te : TE} {g : TG} (q : te σ H fun x H1 => g x σ H1 D.nx) : tAsg te g D σ H := q
theorem r_gname {i : Nat} {v : V} {Q : St → Hp → Prop} (q : Q (σ.set i (some v)) H) : gName i v σ H Q := q
theorem r_gsub {to ti : TE} {t : TSet} {v : V} {Q : St → Hp → Prop} (q : to σ H fun o H1 => ti σ H1 fun i H2 => t o i v H2 fun H3 => Q σ H3) : gSub to ti t v σ H Q := q
theorem r_ret {te : TE} (q : te σ H D.rt) : tRet te D σ H := q
theorem r_drop {te : TE} (q : te σ H fun _ H1 => D.nx σ H1) : tDrop te D σ H := q
theorem r_ifs {c : TT} {t u : TS} (q : c σ H fun b H1 => if b = true then t D σ H1 else u D σ H1) : tIfS c t u D σ H := q
theorem r_test {t : TE} {Q : Bool → Hp → Prop} (q : t σ H fun x H' => ∃ k, x = .bl k ∧ Q k H') : tTest t σ H Q := q
theorem r_tB {t : TE} {Q : Bool → Hp → Prop} (q : t σ H fun x H' => ∃ k, x = .bl k ∧ Q k H') : tB t σ H Q := q
theorem r_bl {b : Bool} {Q : Bool → Prop} (q : Q b) : ∃ k, V.bl b = .bl k ∧ Q k := ⟨b, rfl, q⟩
theorem r_and {t u : TT} {Q : Bool → Hp → Prop} (q : t σ H fun c H1 => if c = true then u σ H1 Q else Q false H1) : tAnd t u σ H Q := q
theorem r_or {t u : TT} {Q : Bool → Hp → Prop} (q : t σ H fun c H1 => if c = true then Q true H1 else u σ H1 Q) : tOr t u σ H Q := q
theorem r_not {t : TT} {Q : Bool → Hp → Prop} (q : t σ H fun c H1 => Q (!c) H1) : tNot t σ H Q := q
theorem r_andV {ta tb : TE} (q : ta σ H fun x H1 => ∃ c, x = .bl c ∧ if c = true then tb σ H1 Q else Q (.bl false) H1) : tAndV ta tb σ H Q := q
theorem r_orV {ta tb : TE} (q : ta σ H fun x H1 => ∃ c, x = .bl c ∧ if c = true then Q (.bl true) H1 else tb σ H1 Q) : tOrV ta tb σ H Q := q
theorem r_notV {ta : TE} (q : ta σ H fun x H1 => ∃ c, x = .bl c ∧ Q (.bl (!c)) H1) : tNotV ta σ H Q := q
theorem r_par {i j : Nat} {ta : TA} (q : ta σ H fun vs H1 => ∃ v w, vs = [v, w] ∧ D.nx ((σ.set i (some v)).set j (some w)) H1) : tPar i j ta D σ H := q
theorem r_two {v w : V} {Q : V → V → Prop} (q : Q v w) : ∃ a b, [v, w] = [a, b] ∧ Q a b := ⟨v, w, rfl, q⟩
theorem r_ixL {p : Addr} {xs : List V} {i : Int} {v : V} (h : SqL K H p xs) (a : atI xs i = some v) (q : Q v H) : rIxL K (.ref p) (.int i) H Q := ⟨p, xs, i, v, rfl, rfl, h, a, q⟩
theorem r_ixT {p : Addr} {xs : List V} {i : Int} {v : V} (h : SqT K H p xs) (a : atI xs i = some v) (q : Q v H) : rIxT K (.ref p) (.int i) H Q := ⟨p, xs, i, v, rfl, rfl, h, a, q⟩
theorem r_setL {p : Addr} {xs : List V} {k : Int} {j : Nat} {v : V} {Q : Hp → Prop} (h : H p = some (.lst xs)) (a : ixN xs.length k = some j) (q : Q (upd H p (.lst (xs.set j v)))) : rSetL (.ref p) (.int k) v H Q := ⟨p, xs, k, j, rfl, rfl, h, a, q⟩
theorem r_isi {x : V} {a b : String} {r : Bool} (ty : TyX K H x (.type a)) (h : kitB a b = some r) (q : Q (.bl r) H) : rIsi K [x, .ty b] H Q := ⟨x, .ty b, .type a, .type b, r, rfl, .ty b, ty, kit_ty h, q⟩
theorem r_eqFr {p q : Addr} {a b c d : Int} (h1 : SqT K H p [.int a, .int b]) (h2 : SqT K H q [.int c, .int d]) (e : a = c ∧ b = d) (k : Q (.bl true) H) : rEqD K (.ref p) (.ref q) H Q := by
  obtain ⟨rfl, rfl⟩ := e
  refine ⟨.tuple [.int a, .int b], .tuple [.int a, .int b], .tup h1 (.cons (.int a) (.cons (.int b) .nil)), .tup h2 (.cons (.int a) (.cons (.int b) .nil)), rfl, rfl, ?_⟩
  rw [SeqAt.eqv_refl _ rfl]
  exact k
/-- a test that is open -/
theorem r_ite {c : Prop} [Decidable c] {A B : Prop} (h1 : c → A) (h2 : ¬ c → B) : if decide c = true then A else B := by
  by_cases h : c
  · rw [decide_eq_true h]; exact h1 h
  · rw [decide_eq_false h]; exact h2 h
theorem r_iteN {c : Prop} [Decidable c] {A B : Prop} (h1 : ¬ c → A) (h2 : c → B) : if (!decide c) = true then A else B := by
  by_cases h : c
  · rw [decide_eq_true h]; exact h2 h
  · rw [decide_eq_false h]; exact h1 h
theorem r_T {A B : Prop} (h : A) : if true = true then A else B := iteT h
theorem r_dT {c : Bool} {A B : Prop} (hc : c = true) (h : A) : if c = true then A else B := by rw [hc]; exact iteT h
theorem r_dF {c : Bool} {A B : Prop} (hc : c = false) (h : B) : if c = true then A else B := by rw [hc]; exact iteF h
theorem r_nT {A B : Prop} (h : B) : if (!true) = true then A else B := iteF h
theorem r_nF {A B : Prop} (h : A) : if (!false) = true then A else B := iteT h
theorem r_F {A B : Prop} (h : B) : if false = true then A else B := iteF h
end
/-- a while by a word and a measure -/
theorem r_while {σ : St} {H : Hp} {D : Ends} {c : TT} {tb : TS} (Pv : St → Hp → Prop) (μ : St → Hp → Nat) (h0 : Pv σ H)
    (hs : ∀ σ1 H1, Pv σ1 H1 → c σ1 H1 fun b H2 => if b = true then ∃ N : St → Hp → Prop, (∀ σ2 H2, N σ2 H2 → ∃ m, m < μ σ1 H1 ∧ m = μ σ2 H2 ∧ Pv σ2 H2) ∧ tb { D with nx := N, ct := N, bk := D.nx } σ1 H2 else D.nx σ1 H2) : tWhile c tb D σ H := by
  refine ⟨fun m σ H => m = μ σ H ∧ Pv σ H, ⟨_, rfl, h0⟩, ?_⟩
  rintro m σ H ⟨rfl, p⟩
  exact hs σ H p
theorem r_turn {σ : St} {H : Hp} {D : Ends} {tb : TS} {Pv : St → Hp → Prop} {μ : St → Hp → Nat} {n : Nat} (q : tb { D with nx := fun σ2 H2 => Pv σ2 H2 ∧ μ σ2 H2 < n, ct := fun σ2 H2 => Pv σ2 H2 ∧ μ σ2 H2 < n, bk := D.nx } σ H) :
    ∃ N : St → Hp → Prop, (∀ σ2 H2, N σ2 H2 → ∃ m, m < n ∧ m = μ σ2 H2 ∧ Pv σ2 H2) ∧ tb { D with nx := N, ct := N, bk := D.nx } σ H :=
  ⟨_, fun _ _ h => ⟨_, h.2, rfl, h.1⟩, q⟩
theorem sz {n : Nat} (h : Nat.ble n 1000 = true) : n ≤ sizeLine := Nat.le_of_lt (small1000 (Nat.le_of_ble_eq_true h))
/-! ### heaps -/
/-- all but p is as it was -/
def But (p : Addr) (H H' : Hp) : Prop := ∀ b o, b ≠ p → H b = some o → H' b = some o
theorem But.refl (p : Addr) (H : Hp) : But p H H := fun _ _ _ h => h
theorem But.trans {p : Addr} {H H1 H2 : Hp} (a : But p H H1) (b : But p H1 H2) : But p H H2 := fun c o n h => b c o n (a c o n h)
theorem But.upd (p : Addr) (H : Hp) (o : HO) : But p H (upd H p o) := fun b o' n h => by rw [upd_ne n]; exact h
theorem But.same {p : Addr} {H H' : Hp} (s : Same H H') : But p H H' := fun b o _ h => s b o h
/-- what stood ahead of p's making stands -/
theorem Same.but {H0 H H' : Hp} {p : Addr} (s : Same H0 H) (n : H0 p = none) (b : But p H H') : Same H0 H' := fun c o h => b c o (ne_of_none h n) (s c o h)
theorem same_new {H : Hp} {p : Addr} (h : H p = none) (o : HO) : Same H (upd H p o) := fun b u q => by rw [upd_ne (ne_of_none q h)]; exact q
theorem nw {H : Hp} {p : Addr} (n : H p = none) (o : HO) : ∃ H1, H1 = upd H p o ∧ Same H H1 ∧ H1 p = some o := ⟨_, rfl, same_new n o, upd_same⟩
theorem _root_.L2.Same.tp {K : PySem.W.Frag} {H H' : Hp} {a : Addr} {xs : List V} (e : Same H H') (h : SqT K H a xs) : SqT K H' a xs := by
  rcases h with (h | ⟨o, h⟩) | h
  · exact .inl (.inl (e _ _ h))
  · exact .inl (.inr ⟨o, e _ _ h⟩)
  · exact .inr h
theorem But.tup {K : PySem.W.Frag} {H H' : Hp} {a p : Addr} {xs ys : List V} (e : But p H H') (hp : H p = some (.lst ys)) (h : SqT K H a xs) : SqT K H' a xs := by
  rcases h with (h | ⟨o, h⟩) | h
  · exact .inl (.inl (e _ _ (fun z => by rw [z, hp] at h; cases h) h))
  · exact .inl (.inr ⟨o, e _ _ (fun z => by rw [z, hp] at h; cases h) h⟩)
  · exact .inr h
theorem tupOf {K : PySem.W.Frag} {H : Hp} {a : Addr} {xs : List V} (h : H a = some (.tup xs)) : SqT K H a xs := .inl (.inl h)
theorem lstOf {K : PySem.W.Frag} {H : Hp} {a : Addr} {xs : List V} (h : H a = some (.lst xs)) : SqL K H a xs := .inl (.inl h)
/-! ### sizes -/
abbrev Sm (n : Nat) (i : Int) : Prop := i.natAbs < 2 ^ n
theorem Sm.mono {m n : Nat} {i : Int} (h : Sm m i) (l : m ≤ n) : Sm n i := Nat.lt_of_lt_of_le h (Nat.pow_le_pow_right (by decide) l)
theorem Sm.le {n : Nat} {i j : Int} (h : Sm n j) (l : i.natAbs ≤ j.natAbs) : Sm n i := Nat.lt_of_le_of_lt l h
theorem Sm.mul {m n : Nat} {i j : Int} (h : Sm m i) (l : Sm n j) : Sm (m + n) (i * j) := wide_lt h l
theorem Sm.neg {n : Nat} {i : Int} (h : Sm n i) : Sm n (-i) := by rw [Sm, Int.natAbs_neg]; exact h
theorem Sm.add {n : Nat} {i j : Int} (h : Sm n i) (l : Sm n j) : Sm (n + 1) (i + j) := by
  have := Int.natAbs_add_le i j
  unfold Sm at *
  rw [Nat.pow_succ]
  omega
theorem Sm.sub {n : Nat} {i j : Int} (h : Sm n i) (l : Sm n j) : Sm (n + 1) (i - j) := by
  rw [Int.sub_eq_add_neg]; exact h.add l.neg
theorem Sm.cmul {m n : Nat} {i j : Int} (h : Sm m i) (l : Sm n j) (h0 : 0 < m := by decide) (h1 : 0 < n := by decide) (s : m + n ≤ 1000000 := by decide) : CMulW i j := wide_mul h l h0 h1 s
theorem Sm.cdiv {n : Nat} {i j : Int} (p : 0 < j) (l : Sm n j) (h1 : 0 < n := by decide) (s : n ≤ 9000 := by decide) : CDivW i j := wide_div p l h1 s
theorem Sm.of_lt {n : Nat} {i j : Int} (h0 : 0 ≤ i) (h : i < j) (s : j.natAbs ≤ 2 ^ n) : Sm n i := by unfold Sm; omega
end Mb
namespace Mb
open PySem L2
theorem Sm.addm {m n : Nat} {i j : Int} (h : Sm m i) (l : Sm n j) : Sm (max m n + 1) (i + j) := (h.mono (Nat.le_max_left _ _)).add (l.mono (Nat.le_max_right _ _))
theorem Sm.subm {m n : Nat} {i j : Int} (h : Sm m i) (l : Sm n j) : Sm (max m n + 1) (i - j) := (h.mono (Nat.le_max_left _ _)).sub (l.mono (Nat.le_max_right _ _))
theorem Sm.lit {i : Int} (h : i.natAbs < 2 ^ 64) : Sm 64 i := h
theorem Sm.lit2 {i : Int} (h : i.natAbs < 2 ^ 512) : Sm 512 i := h
/-! ### lowest terms -/
def lowT (t b : Int) : Int := (if b < 0 then -t else t) / (Int.gcd t b : Int)
def lowB (t b : Int) : Int := (if b < 0 then -b else b) / (Int.gcd t b : Int)
theorem gcd_pos {t b : Int} (hb : b ≠ 0) : 0 < (Int.gcd t b : Int) := by
  have := Int.gcd_pos_of_ne_zero_right t hb
  omega
theorem lowB_pos {t b : Int} (hb : b ≠ 0) : 0 < lowB t b := by
  unfold lowB
  have g := gcd_pos (t := t) hb
  have d : (Int.gcd t b : Int) ∣ (if b < 0 then -b else b) := by
    split
    · exact (Int.dvd_neg).mpr (Int.gcd_dvd_right t b)
    · exact Int.gcd_dvd_right t b
  have p : 0 < (if b < 0 then -b else b) := by split <;> omega
  exact Int.ediv_pos_of_pos_of_dvd p (by omega) d
theorem ediv_abs {x g : Int} (hg : 0 < g) (d : g ∣ x) : (x / g).natAbs ≤ x.natAbs := by
  obtain ⟨k, rfl⟩ := d
  rw [Int.mul_ediv_cancel_left k (by omega), Int.natAbs_mul]
  have : 1 ≤ g.natAbs := by omega
  calc k.natAbs = 1 * k.natAbs := by rw [Nat.one_mul]
    _ ≤ g.natAbs * k.natAbs := Nat.mul_le_mul_right _ this
theorem lowT_le {t b : Int} (hb : b ≠ 0) : (lowT t b).natAbs ≤ t.natAbs := by
  unfold lowT
  have g := gcd_pos (t := t) hb
  have d : (Int.gcd t b : Int) ∣ (if b < 0 then -t else t) := by
    split
    · exact (Int.dvd_neg).mpr (Int.gcd_dvd_left t b)
    · exact Int.gcd_dvd_left t b
  have := ediv_abs g d
  split at this <;> split <;> simp_all
theorem lowB_le {t b : Int} (hb : b ≠ 0) : (lowB t b).natAbs ≤ b.natAbs := by
  unfold lowB
  have g := gcd_pos (t := t) hb
  have d : (Int.gcd t b : Int) ∣ (if b < 0 then -b else b) := by
    split
    · exact (Int.dvd_neg).mpr (Int.gcd_dvd_right t b)
    · exact Int.gcd_dvd_right t b
  have := ediv_abs g d
  split at this <;> split <;> simp_all
theorem low_gcd {t b : Int} (hb : b ≠ 0) : Int.gcd (lowT t b) (lowB t b) = 1 := by
  have g : 0 < Int.gcd t b := Int.gcd_pos_of_ne_zero_right t hb
  have key : ∀ x y : Int, Int.gcd x y = Int.gcd t b → Int.gcd (x / (Int.gcd t b : Int)) (y / (Int.gcd t b : Int)) = 1 := by
    intro x y e
    rw [← e]
    rw [← e] at g
    exact Int.gcd_ediv_gcd_ediv_gcd g
  unfold lowT lowB
  split
  · exact key _ _ (by rw [Int.neg_gcd, Int.gcd_neg])
  · exact key _ _ rfl
theorem low_cross {t b : Int} (hb : b ≠ 0) : lowT t b * b = t * lowB t b := by
  have g := gcd_pos (t := t) hb
  obtain ⟨x, hx⟩ := Int.gcd_dvd_left t b
  obtain ⟨y, hy⟩ := Int.gcd_dvd_right t b
  have eT : ∀ s : Int, s = (Int.gcd t b : Int) * x → s / (Int.gcd t b : Int) = x := fun s e => by rw [e, Int.mul_ediv_cancel_left _ (by omega)]
  have eB : ∀ s : Int, s = (Int.gcd t b : Int) * y → s / (Int.gcd t b : Int) = y := fun s e => by rw [e, Int.mul_ediv_cancel_left _ (by omega)]
  unfold lowT lowB
  by_cases h : b < 0
  · rw [if_pos h, if_pos h]
    rw [show -t = (Int.gcd t b : Int) * (-x) by rw [Int.mul_neg, ← hx], show -b = (Int.gcd t b : Int) * (-y) by rw [Int.mul_neg, ← hy], Int.mul_ediv_cancel_left _ (by omega), Int.mul_ediv_cancel_left _ (by omega)]
    have e1 : b = (Int.gcd t b : Int) * y := hy
    have e2 : t = (Int.gcd t b : Int) * x := hx
    generalize (Int.gcd t b : Int) = q at *
    subst e1 e2
    simp only [Int.neg_mul, Int.mul_neg, Int.mul_assoc, Int.mul_comm, Int.mul_left_comm]
  · rw [if_neg h, if_neg h, eT t hx, eB b hy]
    have e1 : b = (Int.gcd t b : Int) * y := hy
    have e2 : t = (Int.gcd t b : Int) * x := hx
    generalize (Int.gcd t b : Int) = q at *
    subst e1 e2
    simp only [Int.mul_assoc, Int.mul_comm, Int.mul_left_comm]
theorem cop_dvd {u t y : Int} (g : Int.gcd t u = 1) (d : u ∣ t * y) : u ∣ y := by
  have d1 : u.natAbs ∣ t.natAbs * y.natAbs := by rw [← Int.natAbs_mul]; exact Int.natAbs_dvd_natAbs.mpr d
  have c : Nat.Coprime u.natAbs t.natAbs := by rw [Nat.coprime_comm]; exact g
  exact Int.natAbs_dvd_natAbs.mp (c.dvd_of_dvd_mul_left d1)
/-- one worth has one form in lowest terms -/
theorem frac_unique {t u x y : Int} (hu : 0 < u) (hy : 0 < y) (g1 : Int.gcd t u = 1) (g2 : Int.gcd x y = 1) (e : t * y = x * u) : t = x ∧ u = y := by
  have d1 : u ∣ y := cop_dvd g1 ⟨x, by rw [e, Int.mul_comm]⟩
  have d2 : y ∣ u := cop_dvd g2 ⟨t, by rw [← e, Int.mul_comm]⟩
  have e2 : u = y := Int.dvd_antisymm (by omega) (by omega) d1 d2
  subst e2
  exact ⟨Int.eq_of_mul_eq_mul_right (by omega) e, rfl⟩
theorem low_eq {a b t u : Int} (hb : b ≠ 0) (hu : 0 < u) (g : Int.gcd t u = 1) (e : a * u = t * b) : lowT a b = t ∧ lowB a b = u := by
  refine frac_unique (lowB_pos hb) hu (low_gcd hb) g ?_
  have c := low_cross (t := a) hb
  apply Int.eq_of_mul_eq_mul_right hb
  calc lowT a b * u * b = lowT a b * b * u := by simp only [Int.mul_assoc, Int.mul_comm, Int.mul_left_comm]
    _ = a * lowB a b * u := by rw [c]
    _ = a * u * lowB a b := by simp only [Int.mul_assoc, Int.mul_comm, Int.mul_left_comm]
    _ = t * b * lowB a b := by rw [e]
    _ = t * lowB a b * b := by simp only [Int.mul_assoc, Int.mul_comm, Int.mul_left_comm]
theorem fdiv_exact {x g : Int} (d : g ∣ x) (c : Bool) : x.fdiv (if c then -g else g) = (if c then -x else x) / g := by
  cases c with
  | false => exact Int.fdiv_eq_ediv_of_dvd d
  | true =>
    show x.fdiv (-g) = -x / g
    rw [Int.fdiv_eq_ediv_of_dvd (Int.neg_dvd.mpr d), Int.ediv_neg, Int.neg_ediv_of_dvd d]
theorem gcd_step {x y : Int} (hx : 0 ≤ x) (hy : 0 < y) : Int.gcd y (x % y) = Int.gcd x y := by
  have e : ∃ m n : Nat, x = m ∧ y = n := ⟨x.toNat, y.toNat, by omega, by omega⟩
  obtain ⟨m, n, rfl, rfl⟩ := e
  have c : ((m : Int) % (n : Int)) = ((m % n : Nat) : Int) := by norm_cast
  rw [c, Int.gcd_natCast_natCast, Int.gcd_natCast_natCast, Nat.gcd_comm n, ← Nat.gcd_rec, Nat.gcd_comm]
theorem gcd_sm {t b : Int} {n : Nat} (hb : b ≠ 0) (sb : Sm n b) : Sm n (Int.gcd t b : Int) := sb.le (by
  have : (Int.gcd t b : Int) ∣ b := Int.gcd_dvd_right t b
  have := Int.le_of_dvd (show 0 < (b.natAbs : Int) by omega) (Int.dvd_natAbs.mpr this)
  omega)
end Mb
namespace Mb
open PySem L2
/-! ### promises of the law's own drawing -/
/-- a pool of draws at p: three numbers, the second from 0 to b -/
def Pl (H : Hp) (p : Addr) (b : Int) : Prop := ∃ x y z : Int, H p = some (.lst [.int x, .int y, .int z]) ∧ 0 ≤ y ∧ y ≤ b
theorem Pl.mono {H : Hp} {p : Addr} {b c : Int} (h : Pl H p b) (l : b ≤ c) : Pl H p c := by
  obtain ⟨x, y, z, h1, h2, h3⟩ := h
  exact ⟨x, y, z, h1, h2, by omega⟩
theorem Pl.same {H H' : Hp} {p : Addr} {b : Int} (h : Pl H p b) (s : Same H H') : Pl H' p b := by
  obtain ⟨x, y, z, h1, h2, h3⟩ := h
  exact ⟨x, y, z, s _ _ h1, h2, h3⟩
theorem Pl.but {H H' : Hp} {p q : Addr} {b : Int} (h : Pl H p b) (n : p ≠ q) (s : But q H H') : Pl H' p b := by
  obtain ⟨x, y, z, h1, h2, h3⟩ := h
  exact ⟨x, y, z, s _ _ n h1, h2, h3⟩
theorem Pl.tup {K : PySem.W.Frag} {H H' : Hp} {a p : Addr} {b : Int} {xs : List V} (h : Pl H p b) (s : But p H H') (t : SqT K H a xs) : SqT K H' a xs := by
  obtain ⟨x, y, z, h1, _⟩ := h
  exact s.tup h1 t
def spPool (K : PySem.W.Frag) : Sp := fun vs H Q _ => ∃ (a : Addr) (ns : List Int) (i : Int), vs = [.ref a, .int i] ∧ SqL K H a (ns.map V.int) ∧ ns.length ≤ 63 ∧ 0 ≤ i ∧ i ≤ 1000 ∧
  ∀ (p : Addr) (H' : Hp), Same H H' → H p = none → Pl H' p 1000000 → Q (.ref p) H'
def spTake : Sp := fun vs H Q _ => ∃ (p : Addr) (k b : Int), vs = [.ref p, .int k] ∧ Pl H p b ∧ b ≤ 2000000 ∧ 1 ≤ k ∧ k ≤ 1000000 ∧
  ∀ (r : Int) (H' : Hp), But p H H' → Pl H' p (b + 1) → 0 ≤ r → r < k → Q (.int r) H'
def spGcd : Sp := fun vs H Q _ => ∃ a b : Int, vs = [.int a, .int b] ∧ Q (.int (Int.gcd a b)) H
def spLow : Sp := fun vs H Q _ => ∃ t b : Int, vs = [.int t, .int b] ∧ b ≠ 0 ∧ Sm 8000 b ∧
  ∀ (p : Addr) (H' : Hp), Same H H' → H p = none → H' p = some (.tup [.int (lowT t b), .int (lowB t b)]) → Q (.ref p) H'
/-- a number of the pool, from 0 on, below 2 ^ 210 -/
def spNumber : Sp := fun vs H Q _ => ∃ (p : Addr) (b : Int), vs = [.ref p] ∧ Pl H p b ∧ b ≤ 1900000 ∧
  ∀ (r : Int) (H' : Hp), But p H H' → Pl H' p (b + 100) → 0 ≤ r → Sm 210 r → Q (.int r) H'
/-- a fraction: its two numbers, in lowest terms -/
structure Fr (t u : Int) : Prop where
  pos : 0 < u
  one : Int.gcd t u = 1
  st : Sm 211 t
  su : Sm 211 u
def spWide : Sp := fun vs H Q _ => ∃ (p : Addr) (b : Int), vs = [.ref p] ∧ Pl H p b ∧ b ≤ 1800000 ∧
  ∀ (q : Addr) (t u : Int) (H' : Hp), But p H H' → Pl H' p (b + 300) → H' q = some (.tup [.int t, .int u]) → Fr t u → Q (.ref q) H'
def spPair (K : PySem.W.Frag) : Sp := fun vs H Q _ => ∃ (a : Addr) (ns : List Int) (i : Int), vs = [.ref a, .int i] ∧ SqL K H a (ns.map V.int) ∧ ns.length ≤ 63 ∧ 0 ≤ i ∧ i ≤ 900 ∧
  ∀ (r p q : Addr) (t u x y : Int) (H' : Hp), Same H H' → H' r = some (.tup [.ref p, .ref q]) → SqT K H' p [.int t, .int u] → SqT K H' q [.int x, .int y] → Fr t u → Fr x y → Q (.ref r) H'
def spAsked (K : PySem.W.Frag) : Sp := fun vs H Q _ => ∃ (a : Addr) (ns : List Int) (i : Int), vs = [.ref a, .int i] ∧ SqL K H a (ns.map V.int) ∧ ns.length ≤ 63 ∧ 0 ≤ i ∧ i ≤ 900 ∧ ∀ H', Same H H' → Q (.bl true) H'
def spLaw (K : PySem.W.Frag) : Sp := fun vs H Q _ => ∃ (a : Addr) (ns : List Int), vs = [.ref a] ∧ SqL K H a (ns.map V.int) ∧ ns.length ≤ 63 ∧ ∀ H', Q (.bl true) H'
end Mb
namespace Mb
open PySem L2
/-! ### promises of what reckons with fractions -/
def spArith (K : PySem.W.Frag) (T B : Int → Int → Int → Int → Int) : Sp := fun vs H Q _ => ∃ (a b : Addr) (x y u v : Int), vs = [.ref a, .ref b] ∧ SqT K H a [.int x, .int y] ∧ SqT K H b [.int u, .int v] ∧ Sm 2000 x ∧ Sm 2000 y ∧ Sm 2000 u ∧ Sm 2000 v ∧ B x y u v ≠ 0 ∧
  ∀ (p : Addr) (H' : Hp), Same H H' → H p = none → H' p = some (.tup [.int (lowT (T x y u v) (B x y u v)), .int (lowB (T x y u v) (B x y u v))]) → Q (.ref p) H'
def spRaw (K : PySem.W.Frag) (T B : Int → Int → Int → Int → Int) : Sp := fun vs H Q _ => ∃ (a b : Addr) (x y u v : Int), vs = [.ref a, .ref b] ∧ SqT K H a [.int x, .int y] ∧ SqT K H b [.int u, .int v] ∧ Sm 2000 x ∧ Sm 2000 y ∧ Sm 2000 u ∧ Sm 2000 v ∧
  ∀ (p : Addr) (H' : Hp), Same H H' → H p = none → H' p = some (.tup [.int (T x y u v), .int (B x y u v)]) → Q (.ref p) H'
def spEven (K : PySem.W.Frag) : Sp := fun vs H Q _ => ∃ (a b : Addr) (x y u v : Int), vs = [.ref a, .ref b] ∧ SqT K H a [.int x, .int y] ∧ SqT K H b [.int u, .int v] ∧ Sm 5000 x ∧ Sm 5000 y ∧ Sm 5000 u ∧ Sm 5000 v ∧ Q (.bl (decide (x * v = u * y))) H
def spWhole : Sp := fun vs H Q _ => ∃ i : Int, vs = [.int i] ∧ Q (.bl true) H
def spIsFrac : Sp := fun vs H Q _ => ∃ (p : Addr) (t u : Int), vs = [.ref p] ∧ H p = some (.tup [.int t, .int u]) ∧ 0 < u ∧ Int.gcd t u = 1 ∧ Q (.bl true) H
end Mb
namespace Mb
open PySem L2
/-! ### defs that may raise -/
structure KnX (P : Program) (w : World) (K : PySem.W.Frag) (mg : Str → Option Value) (base : Heap) (k : Nat) (x : Str) (ps : List Str) (sp : Sp) : Prop where
  ex : ∃ f fd, FnOk P w K mg base (L2.CX P w) k f fd ps sp ∧ mg x = some (.ref f) ∧ PySem.W.keepIn K (.ref f) = true ∧ Binds K fd ps []
section
variable {X : Cx} {k : Nat} {x : Str} {ps : List Str} {sp : Sp} {e : Expr} {es : List Expr} {p pos : Pos} {t : TA}
/-- a call that is known not to raise -/
theorem pe_knX (G : KnX X.prog X.w X.K X.mg X.base k x ps sp) (hr : Room k X.A) (hg : Gl X x)
    (ha : PA X (e :: es) t) (hdb : (x == ("__debug__" : Str)) = false := by decide) (he : starEach (e :: es) X.env = (false, eval e X.env) :: starEach es X.env := by rfl) (hpl : (backTo pos (starEach es X.env)).any (·.1) = false := by rfl) :
    PE X (.Call (.Name x p) (e :: es) [] pos) (tCall sp [] E0 t) := by
  obtain ⟨f, fd, F, m, kp, b⟩ := G.ex
  exact pe_call F hr hg m kp b .nil passL ha hdb he hpl
/-- a call in a def that lets out what it raises -/
theorem pe_knXX {E : XK} (tk : Takes X (fun cls d _ H => E cls d H)) (G : KnX X.prog X.w X.K X.mg X.base k x ps sp) (hr : Room k X.A) (hg : Gl X x)
    (ha : PA X (e :: es) t) (hdb : (x == ("__debug__" : Str)) = false := by decide) (he : starEach (e :: es) X.env = (false, eval e X.env) :: starEach es X.env := by rfl) (hpl : (backTo pos (starEach es X.env)).any (·.1) = false := by rfl) :
    PE X (.Call (.Name x p) (e :: es) [] pos) (tCall sp [] E t) := by
  obtain ⟨f, fd, F, m, kp, b⟩ := G.ex
  exact pe_call F hr hg m kp b .nil (passes_call tk fun _ _ _ _ h => h) ha hdb he hpl
/-- a call in a try's body -/
theorem pe_knS {W : WX} (tk : Takes X W) (G : KnX X.prog X.w X.K X.mg X.base k x ps sp) (hr : Room k X.A) (hg : Gl X x)
    (ha : PA X (e :: es) t) (hdb : (x == ("__debug__" : Str)) = false := by decide) (he : starEach (e :: es) X.env = (false, eval e X.env) :: starEach es X.env := by rfl) (hpl : (backTo pos (starEach es X.env)).any (·.1) = false := by rfl) :
    PE X (.Call (.Name x p) (e :: es) [] pos) (tCallS sp (WE W) t) := by
  obtain ⟨f, fd, F, m, kp, b⟩ := G.ex
  exact pe_callS F hr hg m kp b (fun σ => passAt tk σ) ha hdb he hpl
end
theorem Fn.knX {P : Program} {w : World} {K : PySem.W.Frag} {mg : Str → Option Value} {base : Heap} {k : Nat} {x : Str} {st : Stmt} {N ps : List Str} {sp : Sp} (F : Fn K mg x st) (S : FnScope N ps (defScope st)) (len : ∀ vs H Q E, sp vs H Q E → vs.length = ps.length)
    (hbody : ∀ (f : Addr) (cdv : Value) (A : Around) (outer : List Env) (s : Shared) (H : Hp) (vs : List V) (Q : VK) (E : XK), Room k (A.deeper (PyProof.Rows.envOfC x (defScope st) s.heap.objs.size f cdv)) → sp vs H Q E →
      ∃ t, PSs (cxOf (L2.CX P w) P w K mg base N x (defScope st) f cdv A outer s H E) (defBody st) t ∧ t { nx := fun _ H' => Q .non H', rt := Q } (start N vs) H)
    (hb : ∀ (kV doc pm : Value) (an : Option Addr) (cdv ct : Value) (us : List Value), us.length = ps.length → bindArgs (PySem.W.fnOf x x (defArgs st) (defBody st) (defScope st) .none kV doc pm an cdv ct) ⟨us, []⟩ = pure (ps.zip us)) :
    KnX P w K mg base (k + 1) x ps sp := by
  obtain ⟨f, fd, F, m⟩ := F.ex
  exact ⟨f, fd, F.ok S len fun cdv A outer s H vs Q E hr h => hbody f cdv A outer s H vs Q E hr h, m, F.kp, F.bindsN hb⟩
/-! ### an own error class without arguments -/
structure XCls (K : PySem.W.Frag) (mg : Str → Option Value) (x : Str) (C : Addr) : Prop where
  g : mg x = some (.ref C)
  q : PySem.W.excIn K C He.veBase "ValueError.__new__" = true
  k : PySem.W.keepIn K (.ref C) = true
  b : PySem.W.subIn K (.ref C) (.type "BaseException") = some true
  t : PySem.W.typeIn K (.ref C) = some (.type "type")
theorem pmk_own0 {X : Cx} {x : Str} {C : Addr} {p pos : Pos} (T : XCls X.K X.mg x C) (hg : Gl X x) (hdb : (x == ("__debug__" : Str)) = false := by decide) :
    PMk X (.Call (.Name x p) [] [] pos) (fun _ H Q => Q (.ref C) none H) := by
  intro pins s σ H Q I h
  refine wpAny_Call_Name_kw (ld_glob I hg T.g ?_ hdb)
  obtain ⟨bm, N, nm, qn, bs, hdct, sn, sub, ab, col, dd, k0, k1, k2, k3, k5, mN, hC, hN, hni, TT⟩ := exc_obj I.kIn T.q
  obtain ⟨hp1, g1, d1, tk1, os1⟩ := s
  exact PySem.W.callWith_K0 I.kIn T.k (wpAny_call_exc_subT PySem.F.excBase_ValueError TT hC hN hni (fun h1 a mk => mk_of I mk (raises_own T.b T.t) h (I.hok.gone mk.new)) (Nat.zero_le _))
/-! ### a reading that holds under a condition -/
theorem pss_when {X : Cx} {sts : List Stmt} {p : Prop} {t : TS} (h : p → PSs X sts t) : PSs X sts (fun D σ H => p ∧ t D σ H) := ⟨fun pins s σ H D I q => (h q.1).run pins s σ H D I q.2⟩
/-! ### except clauses, with and without a name, one after the other -/
inductive Hds (X : Cx) (Wout : WX) : List ExceptHandler → (Ends → WX) → Prop
  | nil : Hds X Wout [] (fun _ => Wout)
  | plain {x : Str} {c : Value} {ts : Addr → Value → Option Addr → TS} {b0 : Stmt} {su : List Stmt} {np pq : Pos} {hds : List ExceptHandler} {w : Ends → WX} (hc : Names X x c)
      (hsu : ∀ (a : Addr) (oe : Obj) (cls : Value) (d : Option Addr) (pn : List (Addr × Obj)), Zc cls d oe → (∃ vs, oe.data = .fields vs) → PSs (X.suite a ((a, oe) :: pn)) (b0 :: su) (ts a cls d)) (r : Hds X Wout hds w) :
      Hds X Wout (.ExceptHandler (some (.Name x np)) none (b0 :: su) pq :: hds) (fun D cls d σ H => ∃ b, PySem.W.exmOne X.K cls c = some b ∧ (b = true → ∀ a, H a = none → ts a cls d D σ H) ∧ (b = false → w D cls d σ H))
  | named {x n : Str} {i : Nat} {c : Value} {ts : Addr → Value → Option Addr → TS} {b0 : Stmt} {su : List Stmt} {np pq : Pos} {hds : List ExceptHandler} {w : Ends → WX} (hN : X.N.Nodup) (hi : X.N[i]? = some n) (hln : X.env.kindOf n = some .local) (hc : Names X x c)
      (hsu : ∀ (a : Addr) (oe : Obj) (cls : Value) (d : Option Addr) (pn : List (Addr × Obj)), Zc cls d oe → (∃ vs, oe.data = .fields vs) → PSs (X.suite a ((a, oe) :: pn)) (b0 :: su) (ts a cls d)) (r : Hds X Wout hds w) :
      Hds X Wout (.ExceptHandler (some (.Name x np)) (some n) (b0 :: su) pq :: hds)
        (fun D cls d σ H => ∃ b, PySem.W.exmOne X.K cls c = some b ∧ (b = true → ∀ a, H a = none → ts a cls d { nx := fun σ1 H1 => D.nx (σ1.set i none) H1, rt := D.rt, bk := fun σ1 H1 => D.bk (σ1.set i none) H1, ct := fun σ1 H1 => D.ct (σ1.set i none) H1 } (σ.set i (some (.ref a))) H) ∧ (b = false → w D cls d σ H))
section
variable {X : Cx} {body : List Stmt} {h0 : ExceptHandler} {hds : List ExceptHandler} {w : Ends → WX} {pos : Pos} {tb : WX → TS} {Wout : WX}
theorem ps_try_hs (hs : X.stack = X.env :: X.outer) (hf : X.env.frame = some X.env.locals) (tk : Takes X Wout)
    (hb : ∀ (W : WX) (pn : List (Addr × Obj)) (xe : Value → Shared → Prop), Takes (X.tr pn xe) W → PSs (X.tr pn xe) body (tb W)) (hh : Hds X Wout (h0 :: hds) w) : PS X (.Try body (h0 :: hds) [] [] pos) (fun D σ H => tb (w D) D σ H) := by
  constructor
  intro pins s σ H D I q
  have ok := I.ok
  have hfr : X.A.frames = some (X.env :: X.outer) := hs ▸ ok.frames
  refine wpAny_Try_except (wpAny_mono ((hb (w D) (X.pn ++ pins) _ ?caught).run [] s σ H D (I.toTry _) q) ?back fun _ _ z => z)
  case back =>
    intro fl s1 z
    cases fl with
    | ret u => obtain ⟨v, σ1, H1, J, r, z⟩ := z; exact ⟨v, σ1, H1, J.ofTry ok, r, z⟩
    | cont => obtain ⟨σ1, H1, J, z⟩ := z; exact ⟨σ1, H1, J.ofTry ok, z⟩
    | brk => obtain ⟨σ1, H1, J, z⟩ := z; exact ⟨σ1, H1, J.ofTry ok, z⟩
    | next => obtain ⟨σ1, H1, J, z⟩ := z; exact wpAny_execs_nil ⟨σ1, H1, J.ofTry ok, z⟩
  case caught =>
    rintro u sx ⟨a, B, sI, pins1, σ1, H1, cls, d, rfl, J0, nb, up, sky, na, os, ag, wish⟩
    have J : Inv X pins σ1 H1 sI := J0.ofTry ok
    have skyX : Sky B (X.env :: X.outer) a (Zc cls d) X.env.locals sx.heap := hs ▸ sky
    show wpAny (model X.prog X.w) X.A (noteFrame (.ref a) X.env) _ _ _
    refine Sky.land Zc.steady hfr hf skyX fun hp fly upp => ?_
    have Jl : Inv X pins σ1 H1 { sx with heap := hp } := J.landed nb fly.1 (up.trans upp) os ag
    obtain ⟨ob, vs, hob, hz, hdat⟩ := fly.there
    have nfr : a ∉ frs (X.env :: X.outer) := fun hm => by
      obtain ⟨_, o1, e1, hnf⟩ := fly.2.2.1.mem hm
      rw [hob] at e1
      cases e1
      exact hnf _ hdat
    have nL : a ≠ X.env.locals := fun z => nfr (List.mem_filterMap.mpr ⟨X.env, List.mem_cons_self, by rw [hf, z]⟩)
    have nF : a ∉ X.fs := fun hm => by
      obtain ⟨en, hen, z⟩ := List.mem_filterMap.mp hm
      exact nfr (List.mem_filterMap.mpr ⟨en, List.mem_cons_of_mem _ hen, z⟩)
    have Su := Jl.suite hob hdat na nL nF
    have ask : ∀ {x : Str} {c : Value} {np : Pos} {Q : Value → Shared → Prop} {E : Value → Shared → Prop}, Names X x c → Q c { sx with heap := hp } → wpAny (model X.prog X.w) (X.A.mark (some (.ref a))) (eval (.Name x np) X.env) Q E { sx with heap := hp } := fun hc z => by
      obtain ⟨hg, hdbg, hm | ⟨hm, hv, hnn⟩⟩ := hc
      · exact ld_glob (X := X.suite a ((a, ob) :: (X.pn ++ pins))) Su hg hm z hdbg
      · exact ld_blt (X := X.suite a ((a, ob) :: (X.pn ++ pins))) Su hg hm hv z hnn hdbg
    have LT : PySem.W.Looks (model X.prog X.w) hp (typeOf (.ref a)) cls := fun _ _ _ _ kp z => wpAny_typeOf_ref (kp _ _ hob) (by rw [hz.1]; exact z)
    have go : ∀ {hs1 : List ExceptHandler} {w1 : Ends → WX}, Hds X Wout hs1 w1 → w1 D cls d σ1 H1 → wpAny (model X.prog X.w) X.A (handleBy (.ref a) X.env hs1) (SP X pins D) X.xe { sx with heap := hp } := by
      intro hs1 w1 hk
      induction hk with
      | nil =>
        intro z
        refine wpAny_handleBy_nil ?_
        obtain ⟨f1, f2, f3, oe, vs1, T, oT, tr, e1, e2, e3, e4, e5⟩ := id fly
        unfold PySem.passOn
        refine wpAny_bind (wpAny_field e1 e3 e4 ?_)
        rw [if_neg (by simp : ¬ ((Value.ref T == Value.none) = true))]
        have out : wpAny (model X.prog X.w) X.A (setFlight (.ref a) X.env.frame) (fun _ s4 => wpAny (model X.prog X.w) X.A (throw (.ref a) : Sem Flow) (SP X pins D) X.xe s4) X.xe { sx with heap := hp } := by
          rw [hf]
          exact HandSPX.setFlight_upZ fly fun h4 held up4 => wpAny_throw (tk _ _ ⟨a, B, sI, pins, σ1, H1, cls, d, rfl, J, nb, (up.trans upp).trans up4, .inr (.inr (hs ▸ held)), na, os, ag, z⟩)
        first
          | exact wpAny_bind out
          | exact wpAny_bind (wpAny_pure (wpAny_bind out))
      | @plain x c ts b0 su np pq hd2 w2 hc hsu r ih =>
        rintro ⟨b, hb1, yes, no⟩
        refine wpAny_handleBy_cons (codeAny_handlers_test (ask hc ((PySem.W.exm_one (M := model X.prog X.w) Jl.kIn LT hb1).here ?_))) (by intro z; cases z)
        cases b with
        | false => exact ih (no rfl)
        | true =>
          refine codeAny_handlers_suite (HandSPX.lands_againZ fly fun h4 fly4 up4 => ?_)
          have J4 : Inv X pins σ1 H1 { sx with heap := h4 } := J.landed nb fly4.1 ((up.trans upp).trans up4) os ag
          obtain ⟨o4, vs4, e4, z4, d4⟩ := fly4.there
          refine wpAny_mono ((hsu a o4 cls d (X.pn ++ pins) z4 ⟨_, d4⟩).run [] _ _ H1 _ (J4.suite e4 d4 na nL nF) (yes rfl a na)) ?_ fun _ _ z => False.elim z
          intro fl s6 z
          cases fl with
          | ret u => obtain ⟨v, σ6, H6, S6, r6, z⟩ := z; exact ⟨_, _, _, S6.unsuite ok, r6, z⟩
          | cont => obtain ⟨σ6, H6, S6, z⟩ := z; exact ⟨_, _, S6.unsuite ok, z⟩
          | brk => obtain ⟨σ6, H6, S6, z⟩ := z; exact ⟨_, _, S6.unsuite ok, z⟩
          | next => obtain ⟨σ6, H6, S6, z⟩ := z; exact ⟨_, _, S6.unsuite ok, z⟩
      | @named x n i c ts b0 su np pq hd2 w2 hN hi hln hc hsu r ih =>
        rintro ⟨b, hb1, yes, no⟩
        refine wpAny_handleBy_cons (codeAny_handlers_test (ask hc ((PySem.W.exm_one (M := model X.prog X.w) Jl.kIn LT hb1).here ?_))) (by intro z; cases z)
        cases b with
        | false => exact ih (no rfl)
        | true =>
          refine codeAny_handlers_suite_as (HandSPX.lands_againZ fly fun h4 fly4 up4 => ?_)
          have J4 : Inv X pins σ1 H1 { sx with heap := h4 } := J.landed nb fly4.1 ((up.trans upp).trans up4) os ag
          obtain ⟨o4, vs4, e4, z4, d4⟩ := fly4.there
          have S4 := J4.suite e4 d4 na nL nF
          refine store_ok (X := X.suite a ((a, o4) :: (X.pn ++ pins))) (v := .ref a) S4 hN hi (.inl hln) rfl (fun s5 S5 => ?_) (.inr hln)
          refine wpAny_mono ((hsu a o4 cls d (X.pn ++ pins) z4 ⟨_, d4⟩).run [] s5 _ H1 _ S5 (yes rfl a na)) ?_ fun _ _ z => False.elim z
          intro fl s6 z
          cases fl with
          | ret u => obtain ⟨v, σ6, H6, S6, r6, z⟩ := z; exact gone_ok (S6.unsuite ok) hN hi hln fun _ J7 => ⟨_, _, _, J7, r6, z⟩
          | cont => obtain ⟨σ6, H6, S6, z⟩ := z; exact gone_ok (S6.unsuite ok) hN hi hln fun _ J7 => ⟨_, _, J7, z⟩
          | brk => obtain ⟨σ6, H6, S6, z⟩ := z; exact gone_ok (S6.unsuite ok) hN hi hln fun _ J7 => ⟨_, _, J7, z⟩
          | next => obtain ⟨σ6, H6, S6, z⟩ := z; exact gone_ok (S6.unsuite ok) hN hi hln fun _ J7 => ⟨_, _, J7, z⟩
    exact go hh wish
end
theorem r_callS {σ : St} {H : Hp} {Q : VK} {sp : Sp} {E : St → XK} {t : TA} (q : t σ H fun vs H1 => sp vs H1 Q (E σ)) : tCallS sp E t σ H Q := q
/-! ### promises of defs that may raise: C is the class of the error -/
def spFracX (C : Addr) : Sp := fun vs H Q E => ∃ t b : Int, vs = [.int t, .int b] ∧ Sm 8000 b ∧ (b = 0 → E (.ref C) none H) ∧
  (b ≠ 0 → ∀ (p : Addr) (H' : Hp), Same H H' → H p = none → H' p = some (.tup [.int (lowT t b), .int (lowB t b)]) → Q (.ref p) H')
def spOverX (K : PySem.W.Frag) (C : Addr) : Sp := fun vs H Q E => ∃ (a b : Addr) (x y u v : Int), vs = [.ref a, .ref b] ∧ SqT K H a [.int x, .int y] ∧ SqT K H b [.int u, .int v] ∧ Sm 2000 x ∧ Sm 2000 y ∧ Sm 2000 u ∧ Sm 2000 v ∧
  (y * u = 0 → E (.ref C) none H) ∧ (y * u ≠ 0 → ∀ (p : Addr) (H' : Hp), Same H H' → H p = none → H' p = some (.tup [.int (lowT (x * v) (y * u)), .int (lowB (x * v) (y * u))]) → Q (.ref p) H')
/-! ### facts of the written part -/
def eqV (a b : Option Bool) : Bool := decide (a = b)
/-- what isinstance asks of an own error's class -/
def excCB (K : PySem.W.Frag) (x : Str) : Bool :=
  He.eqO (PySem.W.findIn K (.ref (He.ga K x)) "__getattribute__") (some (some (.builtin "BaseException.__getattribute__"))) && (He.eqO (PySem.W.findIn K (.ref (He.ga K x)) "__getattr__") (some none) &&
  (eqV (PySem.W.subIn K (.ref (He.ga K x)) (.type "BaseException")) (some true) && (PySem.W.hasDictIn K (He.ga K x) && (He.eqO (PySem.W.findIn K (.ref (He.ga K x)) "__class__") (some (some (.builtin "object.__class__"))) &&
  (He.eqO (PySem.W.specialIn K (.builtin "object.__class__") "__get__") (some (some (.builtin "getset_descriptor.__get__"))) && (eqV (PySem.W.takesIn K (.builtin "object.__class__")) (some true) && eqV (PySem.W.mroIn K (He.ga K x) (.type "object")) (some true)))))))
theorem excCB_ok {K : PySem.W.Frag} {x : Str} (h : excCB K x = true) : ExcC K (He.ga K x) := by
  obtain ⟨h1, h⟩ := He.ba h
  obtain ⟨h2, h⟩ := He.ba h
  obtain ⟨h3, h⟩ := He.ba h
  obtain ⟨h4, h⟩ := He.ba h
  obtain ⟨h5, h⟩ := He.ba h
  obtain ⟨h6, h⟩ := He.ba h
  obtain ⟨h7, h8⟩ := He.ba h
  exact ⟨He.eqO_ok h1, He.eqO_ok h2, of_decide_eq_true h3, h4, He.eqO_ok h5, He.eqO_ok h6, of_decide_eq_true h7, of_decide_eq_true h8⟩
/-- whether an error of the class x is one of the class y -/
def kitIs (K : PySem.W.Frag) (x y : Str) (b : Bool) : Bool := eqV (PySem.W.kitOne K (.ref (He.ga K x)) (.ref (He.ga K y))) (some b)
theorem kitIs_ok {K : PySem.W.Frag} {x y : Str} {b : Bool} (h : kitIs K x y b = true) : PySem.W.kitOne K (.ref (He.ga K x)) (.ref (He.ga K y)) = some b := of_decide_eq_true h
theorem xcls_of {K : PySem.W.Frag} {h : Heap} {mg : Str → Option Value} (X : K.In h) (G : h.Ns mainGlobals mg) {x : Str} (c : (He.Fa.exc x).ok K = true) (g : (He.Fa.glo x).ok K = true) : XCls K mg x (He.ga K x) := by
  obtain ⟨h1, h2, h3, h4⟩ := He.exc_ok c
  exact ⟨He.glo_ok X G g, h1, h2, h3, h4⟩
/-- the head's facts with some of one's own -/
def obsXG (n : Nat) (fa : List He.Fa) (fn : List He.DefD) (xb : PySem.W.Frag → Bool) (g : Addr → Option Obj) : He.AlD × Bool := (He.obsD fa fn (He.frG g (He.asD g n ++ [cStatics])), xb (He.frG g (He.asD g n ++ [cStatics])))
def hookX (n : Nat) (fa : List He.Fa) (fn : List He.DefD) (xb : PySem.W.Frag → Bool) : PySem.W.Hook where
  α := He.AlD × Bool
  obs := fun s => obsXG n fa fn xb s.heap.get?
  val := fun _ => (He.valD fn, true)
  says := fun _ h => ∃ K : PySem.W.Frag, K.In h ∧ He.SaysD fa fn K ∧ xb K = true
  of := fun _ _ e => ⟨_, He.frG_in, congrArg Prod.fst e, congrArg Prod.snd e⟩
  keeps := fun _ _ _ ⟨K, hK, c⟩ k => ⟨K, PySem.W.Frag.In.keeps hK k, c⟩
theorem obsXG_eq {n : Nat} {fa : List He.Fa} {fn : List He.DefD} {xb : PySem.W.Frag → Bool} {g : Addr → Option Obj} {s : Shared} (h : ∀ a, g a = s.heap.get? a) : obsXG n fa fn xb g = (hookX n fa fn xb).obs s := by
  have e : g = s.heap.get? := funext h
  subst e
  rfl
end Mb
namespace Mb
open PySem L2
/-! ### errors made and held as values -/
/-- what the written part says of an own class over ValueError whose __init__ is asked by the class's name -/
structure BeI (K : PySem.W.Frag) (B : Addr) : Prop where
  ga : PySem.W.specialIn K (.ref B) "__getattribute__" = some (some (.builtin "type.__getattribute__"))
  rd : PySem.W.readsIn K B (.type "type") = true
  fc : PySem.W.findCls K (.ref B) (.type "type") "__init__" = some (.val (.builtin "ValueError.__init__"))
/-- C(e, ..) as a value, C's own __init__ keeping sp -/
def tMkV (C : Addr) (sp : Sp) (ta : TA) : TE := fun σ H Q => ta σ H fun vs H1 => vs.length ≤ 1000 ∧ ∀ a, H1 a = none → sp (.ref a :: vs) (upd H1 a (exo a C none)) (fun v H2 => v = .non ∧ Q (.ref a) H2) (fun _ _ _ => False)
section
variable {X : Cx} {e : Expr} {es : List Expr} {te : TE} {ta : TA} {x : Str} {p p1 p2 pos : Pos} {B C : Addr}
theorem pe_beinit {pl : Sem Bool} (hg : Gl X x) (hm : X.mg x = some (.ref B)) (T : BeI X.K B) (ha : PA X (e :: es) ta) (hdb : (x == ("__debug__" : Str)) = false := by decide)
    (hc : eval (.Call (.Attribute (.Name x p1) "__init__" p2) (e :: es) [] pos) X.env = (do
        let ov ← eval (.Name x p1) X.env
        standAt p2.atName
        let (f, first) ← holding [ov] (getMethod ov "__init__" pl)
        callWith pos f first (backTo pos (starEach (e :: es) X.env)) (backToKw pos (keywordEach [] X.env))) := by rfl)
    (he : starEach (e :: es) X.env = (false, eval e X.env) :: starEach es X.env := by rfl) (hpl : (backTo pos (starEach es X.env)).any (·.1) = false := by rfl) :
    PE X (.Call (.Attribute (.Name x p1) "__init__" p2) (e :: es) [] pos) (tVeI X.K ta) := by
  constructor
  intro pins s σ H Q I h
  refine PySem.W.methodCall_KW (ld_glob I hg hm ?_ hdb) hc
  refine PySem.W.method_cls I.kIn T.ga (PySem.W.cls_value I.kIn T.rd T.fc (by decide +kernel) ?_)
  show wpAny _ _ (callWith pos (Value.builtin "ValueError.__init__") [] (backTo pos (starEach (e :: es) X.env)) []) _ _ _
  refine PyProof.Rows.callWith_method1 (thn (ha.run pos pins _ σ H _ (I.tok _) h) ?_) he hpl
  rintro us s1 ⟨vs, H1, I1, r1, a, C, ws, ev, hl, T, ea, q⟩
  subst ev
  cases r1 with
  | @cons _ u0 _ ur ra rr =>
    obtain rfl : u0 = Value.ref a := ra
    have hlen : ur.length ≤ sizeLine := Nat.le_of_lt (small1000 (by rw [← Paired.length rr]; exact hl))
    exact oinit_ok T I1 ea hlen fun s2 J => ⟨.non, H1, J, rfl, q⟩
theorem pe_mkO {fI : Addr} {k : Nat} {fd : FuncData} {ps : List Str} {sp : Sp} (T : OexC X.K C) (iC : PySem.W.findIn X.K (.ref C) "__init__" = some (some (.ref fI))) (tI : PySem.W.typeIn X.K (.ref fI) = some (.type "function"))
    (F1 : FnOk X.prog X.w X.K X.mg X.base CX0 k fI fd ps sp) (hr : Room (k + 1) X.A) (hb : Binds X.K fd ps []) (hg : Gl X x) (hm : X.mg x = some (.ref C)) (ha : PA X (e :: es) ta)
    (hdb : (x == ("__debug__" : Str)) = false := by decide) (he : starEach (e :: es) X.env = (false, eval e X.env) :: starEach es X.env := by rfl) (hpl : (backTo pos (starEach es X.env)).any (·.1) = false := by rfl) :
    PE X (.Call (.Name x p) (e :: es) [] pos) (tMkV C sp ta) := by
  constructor
  intro pins s σ H Q I h
  obtain ⟨nm, q, N, bs, bm, sn, sub, ab, col, dd, k0, k1, k2, k3, k5, hC, hbm⟩ := T.cls
  refine wpAny_Call_Name_kw (ld_glob I hg hm ?_ hdb)
  refine PySem.W.callWith_K (h₀ := X.base) I.ok.mod.kin T.kC (thn (ha.run pos pins s σ H _ I h) ?_) he hpl
  rintro us s1 ⟨vs, H1, I1, r1, hz, q1⟩
  refine ⟨I1.kIn, ?_⟩
  show wpAny _ _ (call (.ref C) us) _ _ _
  obtain ⟨hp, g, dr, tk, os⟩ := s1
  have hn : H1 (hp.objs.size + 1) = none := I1.hok.fresh (Nat.le_succ _)
  have hq := q1 (hp.objs.size + 1) hn
  generalize hh : (hp.push (PySem.W.kdv_tup us)).push (PySem.HandSPX.excO C hp.objs.size) = h2
  have kk : ∀ b o, hp.get? b = some o → h2.get? b = some o := fun b o z => by
    subst hh
    exact Heap.get?_push_of_some _ (Heap.get?_push_of_some _ z)
  have hget : h2.get? (hp.objs.size + 1) = some (PySem.HandSPX.excO C hp.objs.size) := by
    subst hh
    heap_get
  have I2 : Inv X pins σ (upd H1 (hp.objs.size + 1) (exo (hp.objs.size + 1) C none)) ⟨h2, g, dr, tk, os⟩ := I1.laid (t' := tk) (a := hp.objs.size + 1) (h' := h2) kk (Nat.le_succ _) (exo_ok hget)
  have r2 : Vals (V.ref (hp.objs.size + 1) :: vs) (Value.ref (hp.objs.size + 1) :: us) := .cons rfl r1
  have hl : (Value.ref (hp.objs.size + 1) :: us).length = ps.length := by
    rw [← r2.length]
    exact F1.len _ _ _ _ hq
  have hus : us.length ≤ sizeLine := Nat.le_of_lt (small1000 (by rw [← Paired.length r1]; exact hz))
  have bt := hb ⟨h2, g, dr, tk, os⟩ (Value.ref (hp.objs.size + 1) :: us) I2.kIn (by rw [List.append_nil]; exact hl)
  rw [List.append_nil] at bt
  have run := F1.run (X.A.under (.builtin "type.__call__" ⟨.ref C :: us, []⟩)) X.stack ⟨h2, g, dr, tk, os⟩ _ ⟨Value.ref (hp.objs.size + 1) :: us, []⟩ _ _ _ _ (hr.make C us []) (I2.env0.make C us []) bt r2 hq
  rw [← hh] at run
  refine wpAny_call (PySem.HandSPX.call_own F.excBase_ValueError (fun Y => PySem.HandSPX.refsVE_contains Y bm hbm) (I1.kIn _ _ hC) (PySem.W.looks_findIn I1.kIn iC) (fun self => PySem.W.bind_fn I1.kIn self tI) hus (codeAny_mono run ?_))
  intro r s2 z
  cases r with
  | error er => exact False.elim z
  | ok fl =>
    cases fl with
    | ret u =>
      obtain ⟨v, H2, os2, bare2, un2, hok2, rv, ev, q2⟩ := z
      subst ev
      rw [hh] at un2
      exact ⟨rv, .ref (hp.objs.size + 1), H2, I2.call' (ch := []) os2 un2 hok2 bare2 (fun b y => absurd y (by simp)), rfl, q2⟩
    | next => exact False.elim z
    | brk => exact False.elim z
    | cont => exact False.elim z
/-- C() as a value, C without own __init__ -/
theorem pe_exc0 (T : XCls X.K X.mg x C) (hg : Gl X x) (hdb : (x == ("__debug__" : Str)) = false := by decide) :
    PE X (.Call (.Name x p) [] [] pos) (fun _ H Q => ∀ a, H a = none → Q (.ref a) (upd H a (exo a C none))) := by
  constructor
  intro pins s σ H Q I h
  refine wpAny_Call_Name_kw (ld_glob I hg T.g ?_ hdb)
  obtain ⟨bm, N, nm, qn, bs, hdct, sn, sub, ab, col, dd, k0, k1, k2, k3, k5, mN, hC, hN, hni, TT⟩ := exc_obj I.kIn T.q
  obtain ⟨hp1, g1, d1, tk1, os1⟩ := s
  refine PySem.W.callWith_K0 I.kIn T.k (wpAny_call_exc_subT PySem.F.excBase_ValueError TT hC hN hni (fun h1 a mk => ?_) (Nat.zero_le _))
  have hn : H a = none := I.hok.gone mk.new
  obtain ⟨t, ht, _, _⟩ := mk.there
  exact ⟨.ref a, upd H a (exo a C none), I.laidN (t' := tk1) mk.keeps mk.new hn (exo_ok ht), rfl, h a hn⟩
end
/-- an error at a of the class at C, with its fields -/
def Er (H : Hp) (a C : Addr) (fs : List (Str × V)) : Prop := (fs = [] ∧ H a = some (exo a C none)) ∨ ∃ dx, H a = some (exo a C (some dx)) ∧ H dx = some (exd dx fs)
theorem Er.same {H H1 : Hp} {a C : Addr} {fs : List (Str × V)} (h : Er H a C fs) (s : Same H H1) : Er H1 a C fs := by
  rcases h with ⟨e, h⟩ | ⟨dx, h1, h2⟩
  · exact .inl ⟨e, s _ _ h⟩
  · exact .inr ⟨dx, s _ _ h1, s _ _ h2⟩
theorem Er.inst {X : Cx} {pins : List (Addr × Obj)} {σ : St} {H : Hp} {s : Shared} {a C : Addr} {fs : List (Str × V)} (I : Inv X pins σ H s) (h : Er H a C fs) :
    ∃ ox od, PySem.W.InstAt s.heap a ox C od ∧ ∀ (n : Str) (v : V), fs.lookup n = some v → ∃ o u, od = some o ∧ PySem.W.lookIn n o = some (some u) ∧ RelV v u := by
  rcases h with ⟨rfl, h⟩ | ⟨dx, h1, h2⟩
  · obtain ⟨t1, ho⟩ := exo_at I.hok h
    exact ⟨_, none, ⟨ho, rfl, rfl, trivial⟩, fun n v z => by cases z⟩
  · obtain ⟨t1, ho⟩ := exo_at I.hok h1
    obtain ⟨mA, hns, hr⟩ := exd_at I.hok h2
    obtain ⟨od, hod, hl⟩ := lookIn_ns hns
    refine ⟨_, some od, ⟨ho, rfl, rfl, hod⟩, fun n v z => ?_⟩
    obtain ⟨u, hu, ru⟩ := RelO.some_of (v := v) (o := mA n) (by rw [← z]; exact hr n)
    exact ⟨od, u, rfl, by rw [hl, hu], ru⟩
def rIsX (K : PySem.W.Frag) : List V → Hp → VK → Prop := fun xs H Q => ∃ (a C : Addr) (fs : List (Str × V)) (c : V) (cv : Value) (b : Bool), xs = [.ref a, c] ∧ Er H a C fs ∧ ExcC K C ∧ (∀ u, RelV c u → u = cv) ∧ PySem.W.kitOne K (.ref C) cv = some b ∧ Q (.bl b) H
theorem call_isX {X : Cx} : CallR X (.builtin "isinstance") (rIsX X.K) := by
  intro pins s σ H xs us Q I r h
  obtain ⟨a, C, fs, c, cv, b, rfl, er, T, hcv, e, q⟩ := h
  obtain ⟨u1, u2, rfl, rx, rt⟩ := vals2 r
  obtain rfl : u1 = Value.ref a := rx
  obtain rfl := hcv _ rt
  obtain ⟨ox, od, J, _⟩ := er.inst I
  have hcl : (PySem.W.clsIn X.K C).isSome = true := by
    obtain ⟨cd, hc, _⟩ := PySem.W.any_some T.hd
    rw [hc]
    rfl
  exact PySem.W.kia_one (PySem.W.kitx_exc hcl T.hg T.hk T.hs T.ha T.hn T.ht T.hm) I.kIn J e (fun z => nomatch z) fun tk => ⟨.bl b, H, I.tok tk, rfl, q⟩
def tXv (K : PySem.W.Frag) (n : Str) (te : TE) : TE := fun σ H Q => te σ H fun x H1 => ∃ (a C : Addr) (fs : List (Str × V)) (v : V), x = .ref a ∧ Er H1 a C fs ∧ ExcC K C ∧ PySem.W.findIn K (.ref C) n = some none ∧ fs.lookup n = some v ∧ Q v H1
theorem pe_xv {X : Cx} {e : Expr} {te : TE} {pos : Pos} {n : Str} (he : PE X e te) (hb : attributeBase e n X.env (eval e X.env) = eval e X.env := by rfl) : PE X (.Attribute e n pos) (tXv X.K n te) := by
  constructor
  intro pins s σ H Q I h
  refine attr_of hb (thn (he.run pins s σ H _ I h) ?_)
  rintro u s1 ⟨y, H1, I1, ry, a, C, fs, v, rfl, er, T, hno, l, q⟩
  obtain rfl : u = Value.ref a := ry
  obtain ⟨ox, od, J, fl⟩ := er.inst I1
  obtain ⟨o, w, rfl, ho, rw'⟩ := fl n v l
  exact HandSPX.exc_get I1.kIn J T.hg T.hk T.hs (PySem.W.findObj_own T.hd hno rfl ho) (handed_of rw') ⟨v, H1, I1.tok _, rw', q⟩
end Mb
namespace Mb
open PySem L2
/-! ### a class with its own __init__, as its callers take it -/
structure MkC (P : Program) (w : World) (K : PySem.W.Frag) (mg : Str → Option Value) (base : Heap) (k : Nat) (x : Str) (C : Addr) (sp : Sp) : Prop where
  ex : ∃ fI fd ps, OexC K C ∧ PySem.W.findIn K (.ref C) "__init__" = some (some (.ref fI)) ∧ PySem.W.typeIn K (.ref fI) = some (.type "function") ∧ FnOk P w K mg base CX0 k fI fd ps sp ∧ Binds K fd ps [] ∧ mg x = some (.ref C)
theorem pe_mkv {X : Cx} {k : Nat} {x : Str} {C : Addr} {sp : Sp} {e : Expr} {es : List Expr} {ta : TA} {p pos : Pos} (M : MkC X.prog X.w X.K X.mg X.base k x C sp) (hr : Room (k + 1) X.A) (hg : Gl X x) (ha : PA X (e :: es) ta)
    (hdb : (x == ("__debug__" : Str)) = false := by decide) (he : starEach (e :: es) X.env = (false, eval e X.env) :: starEach es X.env := by rfl) (hpl : (backTo pos (starEach es X.env)).any (·.1) = false := by rfl) :
    PE X (.Call (.Name x p) (e :: es) [] pos) (tMkV C sp ta) := by
  obtain ⟨fI, fd, ps, T, iC, tI, F, b, m⟩ := M.ex
  exact pe_mkO T iC tI F hr b hg m ha hdb he hpl
/-- the __init__ of a class, as it stands -/
structure FnI (K : PySem.W.Frag) (mg : Str → Option Value) (x qual : Str) (C : Addr) (st : Stmt) : Prop where
  ex : ∃ fI fd, FunD K "__init__" qual (defArgs st) (defBody st) (defScope st) [] [] fI fd ∧ OexC K C ∧ PySem.W.findIn K (.ref C) "__init__" = some (some (.ref fI)) ∧ PySem.W.typeIn K (.ref fI) = some (.type "function") ∧ mg x = some (.ref C)
theorem FnI.made {P : Program} {w : World} {K : PySem.W.Frag} {mg : Str → Option Value} {base : Heap} {k : Nat} {x qual : Str} {C : Addr} {st : Stmt} {N ps : List Str} {sp : Sp} (F : FnI K mg x qual C st) (S : FnScope N ps (defScope st)) (len : ∀ vs H Q E, sp vs H Q E → vs.length = ps.length)
    (hbody : ∀ (f : Addr) (cdv : Value) (A : Around) (outer : List Env) (s : Shared) (H : Hp) (vs : List V) (Q : VK) (E : XK), Room k (A.deeper (PyProof.Rows.envOfC qual (defScope st) s.heap.objs.size f cdv)) → sp vs H Q E → OexC K C →
      ∃ t, PSs (cxOf CX0 P w K mg base N qual (defScope st) f cdv A outer s H E).nox (defBody st) t ∧ t { nx := fun _ H' => Q .non H', rt := Q } (start N vs) H)
    (hb : ∀ (kV doc pm : Value) (an : Option Addr) (cdv ct : Value) (us : List Value), us.length = ps.length → bindArgs (PySem.W.fnOf "__init__" qual (defArgs st) (defBody st) (defScope st) .none kV doc pm an cdv ct) ⟨us, []⟩ = pure (ps.zip us)) :
    MkC P w K mg base (k + 1) x C sp := by
  obtain ⟨fI, fd, F, T, iC, tI, m⟩ := F.ex
  refine ⟨fI, fd, ps, T, iC, tI, F.ok S len fun cdv A outer s H vs Q E hr h => ?_, F.bindsN hb, m⟩
  obtain ⟨t, p, q⟩ := hbody fI cdv A outer s H vs Q E hr h T
  exact ⟨t, p.nox, q⟩
/-- __init__(self, v) keeps v as the field f -/
def spInit (C : Addr) (f : Str) (ok : V → Prop) : Sp := fun vs H Q _ => ∃ (a : Addr) (v : V), vs = [.ref a, v] ∧ ok v ∧ H a = some (exo a C none) ∧ ∀ H', But a H H' → Er H' a C [(f, v)] → Q .non H'
/-- __init__(self, l) keeps a new list with the items of l -/
def spInitL (K : PySem.W.Frag) (C : Addr) (f : Str) : Sp := fun vs H Q _ => ∃ (a h : Addr) (zs : List V), vs = [.ref a, .ref h] ∧ SqL K H h zs ∧ H a = some (exo a C none) ∧ ∀ (l : Addr) (H' : Hp), But a H H' → H l = none → l ≠ a → H' l = some (.lst zs) → Er H' a C [(f, .ref l)] → Q .non H'
def okStr (v : V) : Prop := ∃ z : Str, v = .str z ∧ z.length ≤ 1000
def okInt (v : V) : Prop := ∃ i : Int, v = .int i
theorem er_new {H : Hp} {a C dx : Addr} {f : Str} {v : V} (n : H dx = none) (ne : dx ≠ a) : Er (upd (upd H dx (exd dx [(f, v)])) a (exo a C (some dx))) a C [(f, v)] := .inr ⟨dx, upd_same, by rw [upd_ne ne, upd_same]⟩
theorem but_new {H : Hp} {a C dx : Addr} {fs : List (Str × V)} (n : H dx = none) : But a H (upd (upd H dx (exd dx fs)) a (exo a C (some dx))) := fun b o nb h => by
  rw [upd_ne nb, upd_ne (ne_of_none h n)]
  exact h
theorem but_made {H H' : Hp} {a : Addr} {o : HO} (b : But a (upd H a o) H') (n : H a = none) : Same H H' := fun c u h => b c u (ne_of_none h n) (by rw [upd_ne (ne_of_none h n)]; exact h)
/-! ### the nineteen refusals, by number -/
def nms : List Str := ["BadName", "Taken", "NoThing", "WrongSort", "NotFree", "Far", "TooHeavy", "Ring", "Locked", "NoGroup", "NoWatcher", "NoMark", "Rooted", "TooWide", "Hung", "BadText", "Nought", "NoNumber", "NoStep"]
def nm (i : Nat) : Str := nms.getD i ""
structure Cs (K : PySem.W.Frag) (mg : Str → Option Value) (c : Nat → Addr) (B : Addr) : Prop where
  g : ∀ i, i < 19 → mg (nm i) = some (.ref (c i))
  gB : mg "BookError" = some (.ref B)
  ex : ∀ i, i < 19 → ExcC K (c i)
  ki : ∀ i j, i < 19 → j < 19 → PySem.W.kitOne K (.ref (c i)) (.ref (c j)) = some (decide (((j : Nat) : Int) = ((i : Nat) : Int)))
  kB : ∀ i, i < 19 → PySem.W.kitOne K (.ref (c i)) (.ref B) = some true
  kV : ∀ i, i < 19 → PySem.W.kitOne K (.ref (c i)) (.type "ValueError") = some true
def bls (l : List Bool) : List V := l.map V.bl
theorem paired_flat {K : PySem.W.Frag} {H : Hp} : ∀ {xs : List V}, (∀ x ∈ xs, flatB x = true) → Paired (EqV K H 1) xs xs
  | [], _ => .nil
  | x :: xs, h => .cons (.inl ⟨rfl, h x List.mem_cons_self⟩) (paired_flat fun y hy => h y (List.mem_cons_of_mem _ hy))
theorem r_eqFlat {K : PySem.W.Frag} {H : Hp} {Q : VK} {a b : Addr} {xs : List V} (h1 : SqL K H a xs) (h2 : SqL K H b xs) (hf : ∀ x ∈ xs, flatB x = true) (q : Q (.bl true) H) : rEqV K (.ref a) (.ref b) H Q :=
  ⟨1, by decide, .inl ⟨a, b, xs, xs, rfl, rfl, h1, h2, paired_flat hf⟩, q⟩
section
variable {σ : St} {H : Hp} {Q : VK} {D : Ends} {K : PySem.W.Frag}
theorem r_vei {ta : TA} (q : ta σ H fun vs H1 => ∃ (a C : Addr) (ws : List V), vs = .ref a :: ws ∧ ws.length ≤ 1000 ∧ OexC K C ∧ H1 a = some (exo a C none) ∧ Q .non H1) : tVeI K ta σ H Q := q
theorem r_ost {f : Str} {to te : TE} (q : te σ H fun y H1 => to σ H1 fun x H2 => ∃ a C : Addr, x = .ref a ∧ OexC K C ∧ PySem.W.findIn K (.ref C) f = some none ∧
    ((H2 a = some (exo a C none) ∧ ∀ dx, H2 dx = none → dx ≠ a → D.nx σ (upd (upd H2 dx (exd dx [(f, y)])) a (exo a C (some dx)))) ∨ ∃ (dx : Addr) (fs : List (Str × V)), H2 a = some (exo a C (some dx)) ∧ H2 dx = some (exd dx fs) ∧ fs.length ≤ 900 ∧ D.nx σ (upd H2 dx (exd dx ((f, y) :: fs))))) : tOst K f to te D σ H := q
theorem r_js1 {t : TE} {ts : List TE} {acc : Str} {R : Str → Hp → Prop} (q : t σ H fun x H1 => ∃ y : Str, x = .str y ∧ (acc ++ y).length ≤ sizeLine ∧ tJs ts (acc ++ y) σ H1 R) : tJs (t :: ts) acc σ H R := q
theorem r_yes {R : Bool → Hp → Prop} (q : R true H) : tYes σ H R := q
theorem r_bm {T : String} {r : V → List V → Hp → VK → Prop} {to : TE} {t : TA} (q : to σ H fun x H1 => tyV K T x H1 ∧ t σ H1 fun xs H2 => r x xs H2 Q) : tBM K T r to t σ H Q := q
theorem r_forR {ta : TA} {g : TG} {tb : TS} (q : ta σ H fun vs H1 => ∃ j : Int, vs = [.int j] ∧ -(2 ^ 62) ≤ j ∧ j < 2 ^ 62 ∧ ∃ W : Nat → Nat → St → Hp → Prop, (∃ m, W 0 m σ H1) ∧ ∀ i m σ H, W i m σ H →
    ((Itr 0 j.toNat).stop i H ∧ D.nx σ H) ∨ ((Itr 0 j.toNat).go i H ∧ ∃ N : St → Hp → Prop, (∀ σ1 H1, N σ1 H1 → ∃ m1, m1 < m ∧ W (i + 1) m1 σ1 H1) ∧ ∀ x H1, (Itr 0 j.toNat).yld i H x H1 → g x σ H1 fun σ2 H2 => tb { D with nx := N, ct := N, bk := D.nx } σ2 H2)) : tFor (iRng1 ta) g tb D σ H := q
theorem r_js0 {acc : Str} {R : Str → Hp → Prop} (q : R acc H) : tJs [] acc σ H R := q
theorem r_fmt {te : TE} (q : te σ H fun x H1 => (∃ y : Str, x = .str y ∧ y.length ≤ sizeLine ∧ Q (.str y) H1) ∨ ∃ i : Int, x = .int i ∧ i.natAbs.log2 < 1920 ∧ Q (.str (toString i)) H1) : tFmt te σ H Q := q
theorem r_xv {n : Str} {te : TE} (q : te σ H fun x H1 => ∃ (a C : Addr) (fs : List (Str × V)) (v : V), x = .ref a ∧ Er H1 a C fs ∧ ExcC K C ∧ PySem.W.findIn K (.ref C) n = some none ∧ fs.lookup n = some v ∧ Q v H1) : tXv K n te σ H Q := q
theorem r_mkv {C : Addr} {sp : Sp} {ta : TA} (q : ta σ H fun vs H1 => vs.length ≤ 1000 ∧ ∀ a, H1 a = none → sp (.ref a :: vs) (upd H1 a (exo a C none)) (fun v H2 => v = .non ∧ Q (.ref a) H2) (fun _ _ _ => False)) : tMkV C sp ta σ H Q := q
end
theorem cat_len (a b : Str) : (a ++ b).length = a.length + b.length := by
  show (a.cps ++ b.cps).size = a.cps.size + b.cps.size
  exact Array.size_append
theorem at_strK {z : Str} {r : Int} {n : Nat} (hn : z.cps.toList.length = n) (r0 : 0 ≤ r) (r1 : r < n) : ∃ c, atI z.cps.toList r = some c := by
  have hk : r.toNat < z.cps.toList.length := by omega
  refine ⟨z.cps.toList[r.toNat], ?_⟩
  have e : r = ((r.toNat : Nat) : Int) := by omega
  have q : atI z.cps.toList ((r.toNat : Nat) : Int) = some z.cps.toList[r.toNat] := atI_nat (List.getElem?_eq_getElem hk)
  rw [← e] at q
  exact q
/-- a name drawn from the pool, unlike those had -/
def spName (K : PySem.W.Frag) : Sp := fun vs H Q _ => ∃ (p h : Addr) (b : Int) (zs : List Str), vs = [.ref p, .ref h] ∧ Pl H p b ∧ b ≤ 1900000 ∧ SqL K H h (zs.map V.str) ∧ h ≠ p ∧ zs.length ≤ 8 ∧ ∀ (z : Str) (H' : Hp), But p H H' → Pl H' p (b + 30) → z.length ≤ 40 → Q (.str z) H'
/-- an error of the class number w, with a name -/
def spMade (c : Nat → Addr) : Sp := fun vs H Q _ => ∃ (w : Nat) (z : Str), vs = [.int w, .str z] ∧ w < 14 ∧ z.length ≤ 1000 ∧ ∀ (a : Addr) (H' : Hp), Same H H' → Er H' a (c w) [("name", .str z)] → Q (.ref a) H'
/-- it is of its own class, of the base and of ValueError, and of none of the others -/
def spIs (c : Nat → Addr) : Sp := fun vs H Q _ => ∃ (w : Nat) (a : Addr) (fs : List (Str × V)), vs = [.int w, .ref a] ∧ w < 19 ∧ Er H a (c w) fs ∧ ∀ H', Same H H' → Q (.bl true) H'
theorem Er.set {H : Hp} {a C l : Addr} {fs : List (Str × V)} {xs ys : List V} (h : Er H a C fs) (hl : H l = some (.lst xs)) : Er (L2.upd H l (.lst ys)) a C fs := by
  have ne : ∀ {b : Addr} {φ : Heap → Prop}, H b = some (HO.ext φ) → b ≠ l := fun hb z => by
    rw [z, hl] at hb
    cases hb
  rcases h with ⟨e, h⟩ | ⟨dx, h1, h2⟩
  · exact .inl ⟨e, by rw [upd_ne (ne h)]; exact h⟩
  · exact .inr ⟨dx, by rw [upd_ne (ne h1)]; exact h1, by rw [upd_ne (ne h2)]; exact h2⟩
end Mb
namespace Mb
open PySem L2
/-! ### the drawing of rows: a fraction within the bounds, a place -/
/-- a fraction in lowest terms within the bounds of free points -/
structure Fb (t u : Int) : Prop where
  pos : 0 < u
  one : Int.gcd t u = 1
  tb : t.natAbs < 1000000000
  ub : u < 1000000000
def spFracB : Sp := fun vs H Q _ => ∃ (p : Addr) (b : Int), vs = [.ref p] ∧ Pl H p b ∧ b ≤ 1900000 ∧
  ∀ (o : Addr) (t u : Int) (H' : Hp), But p H H' → Pl H' p (b + 10) → H' o = some (.tup [.int t, .int u]) → Fb t u → Q (.ref o) H'
def spPlaceB (K : PySem.W.Frag) : Sp := fun vs H Q _ => ∃ (p : Addr) (b : Int), vs = [.ref p] ∧ Pl H p b ∧ b ≤ 1800000 ∧
  ∀ (o f g : Addr) (t u r s : Int) (H' : Hp), But p H H' → Pl H' p (b + 20) → H' o = some (.tup [.ref f, .ref g]) → SqT K H' f [.int t, .int u] → SqT K H' g [.int r, .int s] → Fb t u → Fb r s → Q (.ref o) H'
theorem fb_low {t b : Int} (hb : 0 < b) (h1 : t.natAbs < 1000000000) (h2 : b < 1000000000) : Fb (lowT t b) (lowB t b) := by
  have hb' : b ≠ 0 := by omega
  have a1 := lowT_le (t := t) hb'
  have a2 := lowB_le (t := t) hb'
  have a3 := lowB_pos (t := t) hb'
  exact ⟨a3, low_gcd hb', by omega, by omega⟩
theorem fb_int {t : Int} (h : t.natAbs < 1000000000) : Fb t 1 := ⟨by decide, by rw [Int.gcd_one], h, by decide⟩
/-! ### the table of the words -/
def wordsTab : List (Str × Str × List Str) := [("free", "point", []), ("middle", "point", ["point", "point"]), ("next", "point", ["point", "point"]), ("turn", "point", ["point", "point"]), ("share", "point", ["point", "point"]), ("foot", "point", ["point", "line"]), ("mirror", "point", ["point", "line"]), ("meet", "point", ["line", "line"]), ("cut", "point", ["curve", "circle"]), ("line", "line", ["point", "point"]), ("along", "line", ["point", "line"]), ("upright", "line", ["point", "line"]), ("circle", "circle", ["point", "point"]), ("inline", "claim", ["point", "point", "point"]), ("round", "claim", ["point", "point", "point", "point"]), ("alike", "claim", ["point", "point", "point", "point"]), ("beside", "claim", ["line", "line"]), ("square", "claim", ["line", "line"])]
/-- what the table at a tells -/
def Wt (K : PySem.W.Frag) (w : World) (a : Addr) : Prop := ∀ (x s : Str) (g : List Str), (x, s, g) ∈ wordsTab → ∃ t u : Addr, KDct K w a x (.ref t) ∧ (∀ H, SqT K H t [.str s, .ref u]) ∧ ∀ H, SqT K H u (g.map V.str)
theorem r_ixT0 {K : PySem.W.Frag} {H : Hp} {Q : VK} {a : Addr} {v : V} {r : List V} (h : SqT K H a (v :: r)) (k : Q v H) : rIxT K (.ref a) (.int 0) H Q := ⟨a, _, 0, _, rfl, rfl, h, by unfold atI ixN; rw [if_pos (by decide), if_pos (by simp only [List.length_cons]; omega)]; rfl, k⟩
def spSort (K : PySem.W.Frag) : Sp := fun vs H Q _ => ∃ (a : Addr) (x s : Str) (g : List Str) (r : List V), vs = [.ref a] ∧ SqT K H a (.str x :: r) ∧ (x, s, g) ∈ wordsTab ∧ Q (.str s) H
def spWanted (K : PySem.W.Frag) : Sp := fun vs H Q _ => ∃ (a : Addr) (x s : Str) (g : List Str) (r : List V), vs = [.ref a] ∧ SqT K H a (.str x :: r) ∧ (x, s, g) ∈ wordsTab ∧ ∀ u : Addr, SqT K H u (g.map V.str) → Q (.ref u) H
/-- the grounds of a making: names behind the word, as many as the table tells, and what follows them -/
def spGrounds (K : PySem.W.Frag) : Sp := fun vs H Q _ => ∃ (a : Addr) (x s : Str) (g ns : List Str) (r : List V), vs = [.ref a] ∧ SqT K H a (.str x :: (ns.map V.str ++ r)) ∧ (x, s, g) ∈ wordsTab ∧ ns.length = g.length ∧ ∀ (l : Addr) (H' : Hp), Same H H' → H l = none → H' l = some (.lst (ns.map V.str)) → Q (.ref l) H'
theorem r_slR {r : V → Option Int → Option Int → Hp → VK → Prop} {te : TE} {tl th : TO} {σ : St} {H : Hp} {Q : VK} (q : te σ H fun x H1 => tl σ H1 fun l H2 => th σ H2 fun u H3 => r x l u H3 Q) : L2.tSl r te tl th σ H Q := q
theorem r_partR {t : TE} {σ : St} {H : Hp} {Q : Option Int → Hp → Prop} (q : t σ H fun x H1 => ∃ i, x = .int i ∧ Q (some i) H1) : L2.tPart t σ H Q := q
theorem cut_names {x : V} {ns r : List V} {n : Int} (h : n = 1 + (ns.length : Int)) : cutV (x :: (ns ++ r)) (some 1) (some n) = ns := by
  subst h
  unfold cutV
  have e1 : HT.sIx (x :: (ns ++ r)).length 0 (some 1) = 1 := by
    have := HT.sIx_nat (x :: (ns ++ r)).length 0 1
    simp only [List.length_cons] at this ⊢
    rw [show (some (1 : Int)) = some (((1 : Nat) : Int)) from rfl, this]
    omega
  have e2 : HT.sIx (x :: (ns ++ r)).length (x :: (ns ++ r)).length (some (1 + (ns.length : Int))) = 1 + ns.length := by
    have := HT.sIx_nat (x :: (ns ++ r)).length (x :: (ns ++ r)).length (1 + ns.length)
    rw [show (some (1 + (ns.length : Int))) = some (((1 + ns.length : Nat) : Int)) by rw [Int.natCast_add]; rfl, this]
    simp only [List.length_cons, List.length_append]
    omega
  rw [e1, e2]
  simp
theorem cut_part {x : V} {ns : List V} {n : Option Int} : ¬ (HT.sIx (x :: ns).length 0 (some 1) = 0 ∧ HT.sIx (x :: ns).length (x :: ns).length n = (x :: ns).length) := by
  rintro ⟨h, _⟩
  have := HT.sIx_nat (x :: ns).length 0 1
  rw [show (some (1 : Int)) = some (((1 : Nat) : Int)) from rfl, this] at h
  simp only [List.length_cons] at h
  omega
/-! ### names -/
def isLw (c : Nat) : Bool := decide (97 ≤ c) && decide (c ≤ 122)
def isLf (c : Nat) : Bool := isLw c || (decide (48 ≤ c) && decide (c ≤ 57))
def gdL : List Nat → Bool
  | [] => false
  | c :: r => isLw c && r.all isLf
/-- a text of small letters and figures, the first a letter -/
def Gd (z : Str) : Prop := gdL z.cps.toList = true
def Sok (z : Str) : Prop := (z.length ≤ 12 ∧ Gd z) ∧ PyData.strOk z = true
theorem gdL_app : ∀ {a b : List Nat}, gdL a = true → b.all isLf = true → gdL (a ++ b) = true
  | c :: r, b, h, hb => by
    obtain ⟨h1, h2⟩ := Bool.and_eq_true_iff.mp (show (isLw c && r.all isLf) = true from h)
    show (isLw c && (r ++ b).all isLf) = true
    rw [List.all_append, h1, h2, hb]
    rfl
theorem gdL_take : ∀ {a : List Nat} {n : Nat}, 0 < n → gdL a = true → gdL (a.take n) = true
  | c :: r, n + 1, _, h => by
    obtain ⟨h1, h2⟩ := Bool.and_eq_true_iff.mp (show (isLw c && r.all isLf) = true from h)
    show (isLw c && (r.take n).all isLf) = true
    rw [h1, Bool.true_and]
    exact List.all_eq_true.mpr fun x hx => List.all_eq_true.mp h2 x (List.mem_of_mem_take hx)
theorem cps_cat (a b : Str) : (a ++ b).cps.toList = a.cps.toList ++ b.cps.toList := by
  show (a.cps ++ b.cps).toList = _
  exact Array.toList_append
theorem Gd.cat {a b : Str} (h : Gd a) (hb : b.cps.toList.all isLf = true) : Gd (a ++ b) := by
  unfold Gd
  rw [cps_cat]
  exact gdL_app h hb
theorem cut9 {z : Str} : (cutS z none (some 9)).cps.toList = z.cps.toList.take 9 := by
  unfold cutS
  have e := HT.sIx_nat z.length z.length 9
  rw [show (some (9 : Int)) = some (((9 : Nat) : Int)) from rfl, e]
  show ((z.cps.toList.drop 0).take (min 9 z.length - 0)) = _
  have e2 : z.length = z.cps.toList.length := Array.length_toList.symm
  rw [List.drop_zero, Nat.sub_zero, ← List.take_take, e2, List.take_length]
theorem Gd.cut9 {z : Str} (h : Gd z) : Gd (cutS z none (some 9)) := by
  unfold Gd
  rw [Mb.cut9]
  exact gdL_take (by decide) h
theorem cut9_len {z : Str} : (cutS z none (some 9)).length ≤ 9 := by
  have h : (cutS z none (some 9)).cps.toList.length ≤ 9 := by
    rw [cut9, List.length_take]
    exact Nat.min_le_left _ _
  rw [Array.length_toList] at h
  exact h
theorem all_one {z : Str} {r : Int} {c : Nat} {f : Nat → Bool} (h : z.cps.toList.all f = true) (hc : atI z.cps.toList r = some c) : f c = true := by
  unfold atI at hc
  obtain ⟨j, _, e⟩ := Option.bind_eq_some_iff.mp hc
  exact List.all_eq_true.mp h c (List.mem_of_getElem? e)
theorem gd1 {r : Int} {c : Nat} (hc : atI ("abcdefghijklmnopqrstuvwxyz" : Str).cps.toList r = some c) : Gd ⟨#[c]⟩ := by
  show (isLw c && true) = true
  rw [all_one (f := isLw) (by decide +kernel) hc]
  rfl
theorem not_Q {z : Str} (h : Gd z) : z ≠ "Q" := fun e => by
  rw [e] at h
  exact absurd (show gdL ("Q" : Str).cps.toList = true from h) (by decide +kernel)
theorem strOk_iff {z : Str} : PyData.strOk z = true ↔ ∀ c ∈ z.cps.toList, c < 0x110000 := by
  unfold PyData.strOk
  rw [Array.all_eq_true']
  constructor
  · intro h c hc
    exact of_decide_eq_true (h c (Array.mem_toList_iff.mp hc))
  · intro h c hc
    exact decide_eq_true (h c (Array.mem_toList_iff.mpr hc))
theorem strOk_cat {a b : Str} (ha : PyData.strOk a = true) (hb : PyData.strOk b = true) : PyData.strOk (a ++ b) = true := by
  rw [strOk_iff] at *
  intro c hc
  have e : (a ++ b).cps.toList = a.cps.toList ++ b.cps.toList := by
    show (a.cps ++ b.cps).toList = _
    exact Array.toList_append
  rw [e] at hc
  exact (List.mem_append.mp hc).elim (ha c) (hb c)
theorem strOk_cut {z : Str} {lo hi : Option Int} (h : PyData.strOk z = true) : PyData.strOk (cutS z lo hi) = true := by
  rw [strOk_iff] at *
  intro c hc
  unfold cutS at hc
  exact h c (List.mem_of_mem_drop (List.mem_of_mem_take hc))
theorem strOk_one {z : Str} {r : Int} {c : Nat} (h : PyData.strOk z = true) (hc : atI z.cps.toList r = some c) : PyData.strOk ⟨#[c]⟩ = true := by
  rw [strOk_iff] at *
  intro d hd
  have : d = c := by simpa using hd
  subst this
  refine h d ?_
  unfold atI at hc
  obtain ⟨j, _, e⟩ := Option.bind_eq_some_iff.mp hc
  exact List.mem_of_getElem? e
theorem inV_str {z : Str} {zs : List Str} : inV (.str z) (zs.map V.str) = decide (z ∈ zs) := by
  unfold inV
  rw [List.any_map]
  induction zs with
  | nil => rfl
  | cons a r ih =>
    rw [List.any_cons, ih]
    show ((a == z) || _) = _
    by_cases h : a = z
    · subst h; simp
    · have : ¬ z = a := fun e => h e.symm
      simp [h, this]
theorem pigeon {f : Nat → Str} : ∀ (n : Nat) (zs : List Str), (∀ i j, i < n → j < n → f i = f j → i = j) → (∀ i, i < n → f i ∈ zs) → n ≤ zs.length
  | 0, _, _, _ => Nat.zero_le _
  | n + 1, zs, inj, h => by
    have h1 := h n (Nat.lt_succ_self n)
    have h2 := pigeon n (zs.erase (f n)) (fun i j hi hj e => inj i j (by omega) (by omega) e) fun i hi => (List.mem_erase_of_ne (fun e => by have := inj i n (by omega) (by omega) e; omega)).mpr (h i (by omega))
    rw [List.length_erase_of_mem h1] at h2
    have := List.length_pos_of_mem h1
    omega
theorem num_figs : ∀ i : Nat, i < 70 → (Str.ofString (toString (0 + (i : Int)))).cps.toList.all isLf = true := by decide +kernel
theorem num_short : ∀ i : Nat, i < 70 → (Str.ofString (toString (0 + (i : Int)))).length ≤ 2 ∧ PyData.strOk (Str.ofString (toString (0 + (i : Int)))) = true ∧ (0 + (i : Int)).natAbs.log2 < 1920 := by decide +kernel
theorem num_apart : ∀ i : Nat, i < 70 → ∀ j : Nat, j < 70 → Str.ofString (toString (0 + (i : Int))) = Str.ofString (toString (0 + (j : Int))) → i = j := by decide +kernel
theorem cat_inj {a b c : Str} (h : a ++ b = a ++ c) : b = c := by
  have e : (a.cps ++ b.cps) = (a.cps ++ c.cps) := congrArg Str.cps h
  have e1 : a.cps.toList ++ b.cps.toList = a.cps.toList ++ c.cps.toList := by rw [← Array.toList_append, ← Array.toList_append, e]
  have e2 := List.append_cancel_left e1
  cases b
  cases c
  simpa using e2
def spNameR (K : PySem.W.Frag) : Sp := fun vs H Q _ => ∃ (p h : Addr) (b : Int) (zs : List Str), vs = [.ref p, .ref h] ∧ Pl H p b ∧ b ≤ 1900000 ∧ SqL K H h (zs.map V.str) ∧ h ≠ p ∧ zs.length ≤ 60 ∧ ∀ (z : Str) (H' : Hp), But p H H' → Pl H' p (b + 30) → Sok z → z ∉ zs → Q (.str z) H'
/-! ### any making -/
def wordsL : List Str := ["free", "middle", "share", "next", "turn", "foot", "mirror", "meet", "cut", "line", "along", "upright", "circle", "inline", "round", "alike", "beside", "square"]
def spAny (K : PySem.W.Frag) : Sp := fun vs H Q _ => ∃ (p : Addr) (b : Int), vs = [.ref p] ∧ Pl H p b ∧ b ≤ 1000000 ∧
  ∀ (o mk l : Addr) (way : Nat) (x s : Str) (g ns : List Str) (r : List V) (H' : Hp), But p H H' → SqT K H' o [.ref mk, .ref l, .int way] → SqT K H' mk (.str x :: (ns.map V.str ++ r)) → H' l = some (.lst (ns.map V.str)) → H l = none → wordsL[way]? = some x → (x, s, g) ∈ wordsTab → ns.length = g.length → (∀ z ∈ ns, Sok z) → Q (.ref o) H'
def rLenK (K : PySem.W.Frag) : List V → Hp → VK → Prop := fun xs H Q => ∃ p ys, xs = [.ref p] ∧ (SqL K H p ys ∨ SqT K H p ys) ∧ Q (.int (ys.length : Int)) H
theorem but_updR {p D : Addr} {H H' : Hp} {o : HO} (h : But p H H') (n : H D = none) : But p H (upd H' D o) := fun b o' ne hb => by
  have : b ≠ D := fun z => by rw [z, n] at hb; cases hb
  rw [upd_ne this]
  exact h b o' ne hb
theorem Pl.ne2 {H : Hp} {p q : Addr} {b : Int} (h : Pl H p b) (n : H q = none) : p ≠ q := fun z => by
  obtain ⟨_, _, _, h1, _⟩ := h
  rw [z, n] at h1
  cases h1
theorem Pl.updR {H : Hp} {p D : Addr} {b : Int} {o : HO} (h : Pl H p b) (n : p ≠ D) : Pl (L2.upd H D o) p b := h.but n (But.upd D H o)
theorem but_free {p D : Addr} {H H' : Hp} {b : Int} (h : But p H H') (hp : Pl H' p b) (n : H' D = none) : H D = none := by
  cases e : H D with
  | none => rfl
  | some o =>
    have ne : D ≠ p := fun z => hp.ne2 n z.symm
    rw [h D o ne e] at n
    cases n
theorem r_cat {K : PySem.W.Frag} {H : Hp} {Q : VK} {a b : Addr} {xs ys : List V} (ha : SqT K H a xs) (hb : SqT K H b ys) (ne : xs ≠ []) (hz : xs.length + ys.length ≤ sizeLine) (q : ∀ (p : Addr) (H' : Hp), Same H H' → SqT K H' p (xs ++ ys) → Q (.ref p) H') : rCatT K (.ref a) (.ref b) H Q := by
  refine ⟨a, b, xs, ys, rfl, rfl, ha, hb, ne, hz, fun h => ?_, fun _ p hp => ?_⟩
  · subst h
    exact q a H (Same.refl H) (by rw [List.append_nil]; exact ha)
  · exact q p _ (same_new hp _) (tupOf upd_same)
theorem r_then {ta : TE} {k : V → Hp → VK → Prop} {σ : St} {H : Hp} {Q : VK} (q : ta σ H fun x H1 => k x H1 Q) : tThen ta k σ H Q := q
theorem r_tupL {K : PySem.W.Frag} {H : Hp} {Q : VK} {a : Addr} {xs : List V} (h : SqL K H a xs) (q : ∀ (p : Addr) (H' : Hp), Same H H' → SqT K H' p xs → Q (.ref p) H') : kTup K (.ref a) H Q := .inl ⟨a, xs, rfl, h, fun p hp => q p _ (same_new hp _) (tupOf upd_same)⟩
theorem ways : ∀ way : Nat, way < 18 → ∃ (x s : Str) (g : List Str), atI (wordsL.map V.str) (way : Int) = some (.str x) ∧ wordsL[way]? = some x ∧ (x, s, g) ∈ wordsTab := by
  intro way h
  have : way = 0 ∨ way = 1 ∨ way = 2 ∨ way = 3 ∨ way = 4 ∨ way = 5 ∨ way = 6 ∨ way = 7 ∨ way = 8 ∨ way = 9 ∨ way = 10 ∨ way = 11 ∨ way = 12 ∨ way = 13 ∨ way = 14 ∨ way = 15 ∨ way = 16 ∨ way = 17 := by omega
  rcases this with rfl | rfl | rfl | rfl | rfl | rfl | rfl | rfl | rfl | rfl | rfl | rfl | rfl | rfl | rfl | rfl | rfl | rfl
  · exact ⟨"free", "point", [], rfl, rfl, by decide +kernel⟩
  · exact ⟨"middle", "point", ["point", "point"], rfl, rfl, by decide +kernel⟩
  · exact ⟨"share", "point", ["point", "point"], rfl, rfl, by decide +kernel⟩
  · exact ⟨"next", "point", ["point", "point"], rfl, rfl, by decide +kernel⟩
  · exact ⟨"turn", "point", ["point", "point"], rfl, rfl, by decide +kernel⟩
  · exact ⟨"foot", "point", ["point", "line"], rfl, rfl, by decide +kernel⟩
  · exact ⟨"mirror", "point", ["point", "line"], rfl, rfl, by decide +kernel⟩
  · exact ⟨"meet", "point", ["line", "line"], rfl, rfl, by decide +kernel⟩
  · exact ⟨"cut", "point", ["curve", "circle"], rfl, rfl, by decide +kernel⟩
  · exact ⟨"line", "line", ["point", "point"], rfl, rfl, by decide +kernel⟩
  · exact ⟨"along", "line", ["point", "line"], rfl, rfl, by decide +kernel⟩
  · exact ⟨"upright", "line", ["point", "line"], rfl, rfl, by decide +kernel⟩
  · exact ⟨"circle", "circle", ["point", "point"], rfl, rfl, by decide +kernel⟩
  · exact ⟨"inline", "claim", ["point", "point", "point"], rfl, rfl, by decide +kernel⟩
  · exact ⟨"round", "claim", ["point", "point", "point", "point"], rfl, rfl, by decide +kernel⟩
  · exact ⟨"alike", "claim", ["point", "point", "point", "point"], rfl, rfl, by decide +kernel⟩
  · exact ⟨"beside", "claim", ["line", "line"], rfl, rfl, by decide +kernel⟩
  · exact ⟨"square", "claim", ["line", "line"], rfl, rfl, by decide +kernel⟩
theorem many_of {x s : Str} {g : List Str} (h : (x, s, g) ∈ wordsTab) : (x = "free" → g.length = 0) ∧ (x = "inline" → g.length = 3) ∧ (x = "round" ∨ x = "alike" → g.length = 4) ∧ (x ≠ "free" → x ≠ "inline" → ¬ (x = "round" ∨ x = "alike") → g.length = 2) := by
  have all : ∀ q ∈ wordsTab, (q.1 = "free" → q.2.2.length = 0) ∧ (q.1 = "inline" → q.2.2.length = 3) ∧ (q.1 = "round" ∨ q.1 = "alike" → q.2.2.length = 4) ∧ (q.1 ≠ "free" → q.1 ≠ "inline" → ¬ (q.1 = "round" ∨ q.1 = "alike") → q.2.2.length = 2) := by decide +kernel
  exact all (x, s, g) h
theorem sz4 {n : Nat} (h : n ≤ 64) : n ≤ sizeLine := Nat.le_trans h (by decide)
theorem at_str {zs : List Str} {j : Nat} (hj : j < zs.length) : atI (zs.map V.str) (j : Int) = some (.str zs[j]) := by
  unfold atI ixN
  rw [if_pos (Int.natCast_nonneg j), if_pos (by rw [List.length_map]; omega), Int.toNat_natCast]
  simp [hj]
def dueOf (way : Nat) : Str := if 12 < way then "claim" else if way = 12 then "circle" else if 8 < way then "line" else "point"
theorem due_of {way : Nat} {x s : Str} {g : List Str} (h : wordsL[way]? = some x) (t : (x, s, g) ∈ wordsTab) : s = dueOf way := by
  have hw : way < 18 := by
    have := List.getElem?_eq_some_iff.mp h
    obtain ⟨h1, _⟩ := this
    exact h1
  have all : ∀ way : Nat, way < 18 → ∀ q ∈ wordsTab, wordsL[way]? = some q.1 → q.2.1 = dueOf way := by decide +kernel
  exact all way hw (x, s, g) t h
theorem same_updS {D : Addr} {H H' : Hp} {o : HO} (h : Same H H') (n : H D = none) : Same H (upd H' D o) := fun b o' hb => by
  have : b ≠ D := fun z => by rw [z, n] at hb; cases hb
  rw [upd_ne this]
  exact h b o' hb
theorem dpAll_strs {K : PySem.W.Frag} {H : Hp} : ∀ (ns : List Str), DpAll K H (ns.map V.str) (ns.map PyData.str)
  | [] => .nil
  | n :: r => .cons (.str n) (dpAll_strs r)
theorem dp_strs {K : PySem.W.Frag} {H : Hp} {a : Addr} {ns : List Str} (h : SqL K H a (ns.map V.str)) : Dp K H (.ref a) (.list (ns.map PyData.str)) := .lst h (dpAll_strs ns)
theorem lay_strs : ∀ ns : List Str, (∀ z ∈ ns, PyData.strOk z = true) → PyData.canLayAll0 (ns.map PyData.str) = true ∧ PyData.depthAll (ns.map PyData.str) ≤ 1
  | [], _ => ⟨rfl, by decide⟩
  | n :: r, h => by
    obtain ⟨h1, h2⟩ := lay_strs r fun z hz => h z (List.mem_cons_of_mem _ hz)
    have h3 := h n List.mem_cons_self
    rw [List.map_cons]
    refine ⟨?_, ?_⟩
    · unfold PyData.canLayAll0 PyData.canLay0
      rw [h3, h1]
      rfl
    · unfold PyData.depthAll PyData.depth
      omega
theorem lay_list {ns : List Str} (h : ∀ z ∈ ns, PyData.strOk z = true) : PyData.canLay0 (.list (ns.map PyData.str)) = true := by
  unfold PyData.canLay0
  exact (lay_strs ns h).1
theorem sh_strs {ns : List Str} (h : ∀ z ∈ ns, PyData.strOk z = true) : SeqAt.shaped (.list (ns.map PyData.str)) = true := by
  have h2 : PyData.depth (.list (ns.map PyData.str)) ≤ 64 := by
    unfold PyData.depth
    have := (lay_strs ns h).2
    omega
  unfold SeqAt.shaped
  rw [lay_list h, decide_eq_true h2]
  rfl
theorem r_eqSt {K : PySem.W.Frag} {H : Hp} {Q : VK} {a b : Addr} {ns : List Str} (h1 : SqL K H a (ns.map V.str)) (h2 : SqL K H b (ns.map V.str)) (ok : ∀ z ∈ ns, PyData.strOk z = true) (k : Q (.bl true) H) : rEqD K (.ref a) (.ref b) H Q := by
  refine ⟨_, _, dp_strs h1, dp_strs h2, sh_strs ok, sh_strs ok, ?_⟩
  rw [SeqAt.eqv_refl _ (lay_list ok)]
  exact k
theorem r_neSt {K : PySem.W.Frag} {H : Hp} {Q : VK} {a b : Addr} {ns : List Str} (h1 : SqL K H a (ns.map V.str)) (h2 : SqL K H b (ns.map V.str)) (ok : ∀ z ∈ ns, PyData.strOk z = true) (k : Q (.bl false) H) : rNeD K (.ref a) (.ref b) H Q := by
  refine ⟨_, _, dp_strs h1, dp_strs h2, sh_strs ok, sh_strs ok, ?_⟩
  rw [SeqAt.eqv_refl _ (lay_list ok)]
  exact k
theorem r_gT {K : PySem.W.Frag} {σ : St} {H : Hp} {Q : St → Hp → Prop} {t : TGs} {a : Addr} {xs : List V} {n : Nat} (h : SqT K H a xs) (l : xs.length = n) (q : t xs σ H Q) : gTup K n t (.ref a) σ H Q := ⟨a, xs, rfl, h, l, q⟩
theorem r_g3 {i j k : Nat} {u v w : V} {σ : St} {H : Hp} {Q : St → Hp → Prop} (q : Q (((σ.set i (some u)).set j (some v)).set k (some w)) H) : gCons (gName i) (gCons (gName j) (gCons (gName k) gNil)) [u, v, w] σ H Q := ⟨u, _, rfl, v, _, rfl, w, _, rfl, rfl, q⟩
theorem r_g2 {i j : Nat} {u v : V} {σ : St} {H : Hp} {Q : St → Hp → Prop} (q : Q ((σ.set i (some u)).set j (some v)) H) : gCons (gName i) (gCons (gName j) gNil) [u, v] σ H Q := ⟨u, _, rfl, v, _, rfl, rfl, q⟩
theorem few {x s : Str} {g : List Str} (h : (x, s, g) ∈ wordsTab) : g.length < 64 := by
  have all : ∀ q ∈ wordsTab, q.2.2.length < 64 := by decide +kernel
  exact all _ h
theorem r_neE {H : Hp} {Q : VK} {w w' : Str} (e : w = w') (k : Q (.bl false) H) : rNe (.str w) (.str w') H Q := ⟨rfl, by subst e; simpa using k⟩
theorem r_neX {H : Hp} {Q : VK} {w w' : Str} (k : Q (.bl (!decide (w = w'))) H) : rNe (.str w) (.str w') H Q := ⟨rfl, by rw [show decide (V.str w = V.str w') = decide (w = w') from by simp]; exact k⟩
end Mb
namespace Mb
open PySem L2
/-! ### the head's facts with a table of text keys -/
def obsWG (n : Nat) (fa : List He.Fa) (fn : List He.DefD) (ts : List He.Tab) (xb : PySem.W.Frag → Bool) (g : Addr → Option Obj) : He.AlT × Bool := (He.obsT fa fn ts (He.frG g (He.asD g n ++ [cStatics])), xb (He.frG g (He.asD g n ++ [cStatics])))
def hookW (n : Nat) (fa : List He.Fa) (fn : List He.DefD) (ts : List He.Tab) (xb : PySem.W.Frag → Bool) : PySem.W.Hook where
  α := He.AlT × Bool
  obs := fun s => obsWG n fa fn ts xb s.heap.get?
  val := fun w => (He.valT fn ts w, true)
  says := fun w h => ∃ K : PySem.W.Frag, K.In h ∧ He.SaysT fa fn ts w K ∧ xb K = true
  of := fun _ _ e => ⟨_, He.frG_in, congrArg Prod.fst e, congrArg Prod.snd e⟩
  keeps := fun _ _ _ ⟨K, hK, c⟩ k => ⟨K, PySem.W.Frag.In.keeps hK k, c⟩
theorem obsWG_eq {n : Nat} {fa : List He.Fa} {fn : List He.DefD} {ts : List He.Tab} {xb : PySem.W.Frag → Bool} {g : Addr → Option Obj} {s : Shared} (h : ∀ a, g a = s.heap.get? a) : obsWG n fa fn ts xb g = (hookW n fa fn ts xb).obs s := by
  have e : g = s.heap.get? := funext h
  subst e
  rfl
def tupV (K : PySem.W.Frag) (t : Addr) (vs : List V) : Bool := match K.lookup t with
  | some ⟨.type c, _, .seq its _, _⟩ => decide (c = "tuple") && (decide (its.size ≤ sizeLine) && He.relAll vs its.toList)
  | _ => false
theorem tupV_ok {K : PySem.W.Frag} {t : Addr} {vs : List V} (h : tupV K t vs = true) (H : Hp) : SqT K H t vs := by
  unfold tupV at h
  cases q : K.lookup t with
  | none =>
    rw [q] at h
    cases h
  | some o =>
    obtain ⟨oc, od, dt, osl⟩ := o
    rw [q] at h
    cases oc with
    | type c =>
      cases dt with
      | seq its n =>
        obtain ⟨h1, h2⟩ := He.ba (show (decide (c = "tuple") && (decide (its.size ≤ sizeLine) && He.relAll vs its.toList)) = true from h)
        obtain ⟨h3, h4⟩ := He.ba h2
        exact .inr ⟨_, its, n, q, congrArg Value.type (of_decide_eq_true h1), rfl, of_decide_eq_true h3, He.relAll_ok h4⟩
      | _ => cases h
    | _ => cases dt <;> cases h
def refAt (K : PySem.W.Frag) (a : Addr) (x : Str) : Addr := match PySem.W.nsIn K a x with
  | some (some (.ref t)) => t
  | _ => 0
def sndOf (K : PySem.W.Frag) (t : Addr) : Addr := match K.lookup t with
  | some ⟨_, _, .seq its _, _⟩ => (match its.getD 1 .none with
    | .ref u => u
    | _ => 0)
  | _ => 0
def wtB (K : PySem.W.Frag) (a : Addr) : Bool := wordsTab.all fun q => He.eqO (PySem.W.nsIn K a q.1) (some (some (.ref (refAt K a q.1)))) && (tupV K (refAt K a q.1) [.str q.2.1, .ref (sndOf K (refAt K a q.1))] && tupV K (sndOf K (refAt K a q.1)) (q.2.2.map V.str))
theorem wt_of {K : PySem.W.Frag} {w : World} {a : Addr} (h : wtB K a = true) (d : ∃ es n, KDict K w a es n) : Wt K w a := by
  intro x s g hx
  obtain ⟨h1, h2⟩ := He.ba (List.all_eq_true.mp h _ hx)
  obtain ⟨h3, h4⟩ := He.ba h2
  obtain ⟨es, n, D⟩ := d
  exact ⟨refAt K a x, sndOf K (refAt K a x), ⟨es, n, _, D.at_, D.lit, He.eqO_ok h1, rfl⟩, fun H => tupV_ok h3 H, fun H => tupV_ok h4 H⟩
def wordsKeys : List Str := wordsTab.map (·.1)
def wordsTs : List He.Tab := [(fun K => He.ga K "WORDS", wordsKeys)]
/-- a world with what it says of one row of the text written out -/
def wB (b : Bool) (w : World) : World := { w with params := { w.params with followText := fun s => bif s == "special-get-raises" then b else w.params.followText s } }
theorem wB_eq (w : World) : wB (w.params.followText "special-get-raises") w = w := by
  obtain ⟨d, p⟩ := w
  obtain ⟨p1, p2, p3, p4, p5, p6, p7⟩ := p
  have e : (fun s => bif s == "special-get-raises" then p6 "special-get-raises" else p6 s) = p6 := by
    funext s
    cases h : (s == "special-get-raises") with
    | true =>
      rw [beq_iff_eq.mp h]
      rfl
    | false => rfl
  unfold wB
  dsimp only
  rw [e]
end Mb
namespace Mb
open PySem PySem.Spec PyProof.Rows L2
/-! ### list(d.values()) -/
def rValsL : V → Hp → VK → Prop := fun x H Q => ∃ (d : Addr) (kvs : List (Key × V)), x = .ref d ∧ H d = some (.dK kvs) ∧ ∀ p, H p = none → Q (.ref p) (upd H p (.lst (kvs.map (·.2))))
def tListVals (te : TE) : TE := fun σ H Q => te σ H fun x H1 => rValsL x H1 Q
section
variable {X : Cx} {e : Expr} {te : TE} {p apos cpos pos : Pos}
theorem pe_listVals (hc : X.calm = true) (he : PE X e te) (hg : Gl X "list") (hm : X.mg "list" = none) (hv : bootBuiltins "list" = some (.type "list")) (hbase : attributeBase e "values" X.env (eval e X.env) = eval e X.env := by rfl) (hline : (apos.endLine == cpos.line) = true := by rfl)
    (hs : starEach [.Call (.Attribute e "values" apos) [] [] cpos] X.env = (false, eval (.Call (.Attribute e "values" apos) [] [] cpos) X.env) :: starEach [] X.env := by rfl) :
    PE X (.Call (.Name "list" p) [.Call (.Attribute e "values" apos) [] [] cpos] [] pos) (tListVals te) := by
  refine ⟨fun pins s σ H Q I hq => ?_⟩
  refine wpAny_Call_Name_kw (ld_blt I hg hm hv ?_)
  refine PyProof.Rows.callWith_type1 ?_ hs rfl
  rw [hs]
  show wpAny _ _ (spliced ((false, eval (.Call (.Attribute e "values" apos) [] [] cpos) X.env) :: backTo pos (starEach [] X.env))) _ _ s
  refine Calls.spliced_cons ?_
  refine wpAny_Call_method (T := "dict") (id := "dict.values") hbase rfl hline F.plainAttrs_dict F.slot_dict_values F.type_dict_values (thn (he.run pins s σ H _ I hq) fun u s1 ⟨x, H1, I1, rx, d, kvs, ex, hd, q⟩ => ?_)
  subst ex
  obtain rfl : u = Value.ref d := rx
  obtain ⟨hz, hs0, vs, kv, hdo⟩ := I1.hok d _ hd
  obtain ⟨ep, hat⟩ := hdo.dictAt
  have lk : kvs.length = vs.length := Paired.length kv
  have I2 : Inv X pins σ H1 { s1 with heap := s1.heap.push { cls := .type "dict_values", data := .fields #[.ref d] } } := I1.kept (t' := s1.toks) fun b ob q => Heap.get?_push_of_some _ q
  refine ⟨hdo.typeIs, hdo.mapOf.noDict, ?_⟩
  show wpAny _ _ (callWith cpos (.builtin "dict.values") [.ref d] [] []) _ X.xe s1
  refine method_meetsIn F.slot_dict_values F.entry_dict_values rfl (PySem.evalArgs_none ⟨rfl, hdo.typeIs, F.args_dict_values_1 _, _, meets_dict_values (mixKind X.prog X.w) d hs0, ⟨vs, hdo⟩, ?_⟩)
  refine Calls.spliced_nil ?_
  refine PySem.W.kdl_call (PySem.W.kdl_values (knd := mixKind X.prog X.w) (d := d) (kvs := vs) (ep := ep)) (I1.ok.hd hc) ⟨⟨_, Heap.get?_push_size _ rfl, rfl, rfl⟩, hat.push _⟩ (by rw [← lk]; exact hz) fun h' tk acc' c' hkeep hS hacc => ?_
  refine ⟨.ref _, upd H1 _ (.lst (kvs.map (·.2))), I2.laid hkeep (Nat.le_refl _) (show ObjOk X.prog X.w _ _ _ (.lst (kvs.map (·.2))) from ⟨?_, acc'.toList, c', ?_, ?_⟩), rfl, q _ (I2.hok.fresh (Nat.le_refl _))⟩
  · rw [List.length_map]; exact hz
  · have el : acc'.toList.length = acc'.size := by simp
    refine vals_of_at (by rw [List.length_map, el, hacc.1, lk]) fun j x w h1 h2 => ?_
    obtain ⟨k, hky⟩ := hacc.2 j w (by rw [← Array.getElem?_toList]; exact h2)
    obtain ⟨pk, g1, g2⟩ : ∃ pk, kvs[j]? = some pk ∧ x = pk.2 := by
      rw [List.getElem?_map] at h1
      cases hj : kvs[j]? with
      | none => rw [hj] at h1; cases h1
      | some pk =>
        rw [hj] at h1
        exact ⟨pk, rfl, (Option.some.inj h1).symm⟩
    obtain ⟨qv, f1, f2, f3⟩ := LiI.paired_get kv g1
    rw [hky] at f1
    cases f1
    rw [g2]
    exact f3
  · rw [Array.toArray_toList]; exact hS
theorem r_lv {te : TE} {σ : L2.St} {H : Hp} {Q : VK} (q : te σ H fun x H1 => rValsL x H1 Q) : tListVals te σ H Q := q
end
end Mb
namespace Mb
open PySem L2
/-! ### rows: things by name, sort, weight; dicts of them -/
theorem u1 {n : Nat} (h : n + 64 < cLine) : n + 1 < cLine := by omega
/-- what is known of the things so far: name, sort, weight -/
abbrev Env : Type := List (Str × Str × Int)
def sortsD (L : Env) : List (Key × V) := L.map fun e => (.inr e.1, .str e.2.1)
def loadsD (L : Env) : List (Key × V) := L.map fun e => (.inr e.1, .int e.2.2)
def nmsE (L : Env) : List Str := L.map (·.1)
def srtE (L : Env) (z : Str) : Str := ((L.find? fun e => decide (e.1 = z)).map (·.2.1)).getD ""
def wtE (L : Env) (z : Str) : Int := ((L.find? fun e => decide (e.1 = z)).map (·.2.2)).getD 0
theorem find_in {L : Env} {z : Str} (h : z ∈ nmsE L) : ∃ e, e ∈ L ∧ L.find? (fun e => decide (e.1 = z)) = some e := by
  induction L with
  | nil => simp [nmsE] at h
  | cons a r ih =>
    by_cases c : a.1 = z
    · exact ⟨a, List.mem_cons_self, by rw [List.find?_cons]; simp [c]⟩
    · have h2 : z ∈ nmsE r := by
        simp only [nmsE, List.map_cons, List.mem_cons] at h
        rcases h with h | h
        · exact absurd h.symm c
        · exact h
      obtain ⟨e, he, hf⟩ := ih h2
      exact ⟨e, List.mem_cons_of_mem _ he, by rw [List.find?_cons]; simp [c, hf]⟩
theorem val_map {L : Env} {z : Str} {f : Str × Str × Int → V} : valV (L.map fun e => ((.inr e.1 : Key), f e)) (.inr z) = (L.find? fun e => decide (e.1 = z)).map f := by
  unfold valV
  induction L with
  | nil => rfl
  | cons a r ih =>
    rw [List.map_cons, List.find?_cons, List.find?_cons]
    by_cases c : a.1 = z
    · simp [c]
    · have : ¬ ((.inr a.1 : Key) = .inr z) := fun h => c (Sum.inr.inj h)
      simp only [c, this, decide_false]
      exact ih
theorem get_sort {H : Hp} {S : Addr} {L : Env} {z : Str} (h : H S = some (.dK (sortsD L))) (hz : z ∈ nmsE L) : DGet H S (.str z) (some (.str (srtE L z))) := by
  obtain ⟨e, _, hf⟩ := find_in hz
  have := DGet.k (k := .inr z) h
  unfold sortsD at this
  rw [val_map (f := fun e => V.str e.2.1), hf] at this
  unfold srtE
  rw [hf]
  exact this
theorem get_load {H : Hp} {W : Addr} {L : Env} {z : Str} (h : H W = some (.dK (loadsD L))) (hz : z ∈ nmsE L) : DGet H W (.str z) (some (.int (wtE L z))) := by
  obtain ⟨e, _, hf⟩ := find_in hz
  have := DGet.k (k := .inr z) h
  unfold loadsD at this
  rw [val_map (f := fun e => V.int e.2.2), hf] at this
  unfold wtE
  rw [hf]
  exact this
theorem put_new {L : Env} {z : Str} {f : Str × Str × Int → V} {v : V} {e : Str × Str × Int} (h : z ∉ nmsE L) (he : e.1 = z) (hv : f e = v) : putK (L.map fun e => ((.inr e.1 : Key), f e)) (.inr z) v = (L ++ [e]).map fun e => ((.inr e.1 : Key), f e) := by
  unfold putK
  rw [if_neg]
  · rw [List.map_append, List.map_cons, List.map_nil, he, hv]
  · intro c
    obtain ⟨kv, hk, hd⟩ := List.any_eq_true.mp c
    obtain ⟨a, ha, rfl⟩ := List.mem_map.mp hk
    have e : a.1 = z := Sum.inr.inj (of_decide_eq_true hd)
    exact h (e ▸ List.mem_map.mpr ⟨a, ha, rfl⟩)
/-- bounds of the weights -/
def Light (L : Env) : Prop := ∀ e ∈ L, 0 ≤ e.2.2 ∧ e.2.2 ≤ 40
theorem Light.wt {L : Env} (h : Light L) (z : Str) : 0 ≤ wtE L z ∧ wtE L z ≤ 40 := by
  unfold wtE
  cases c : L.find? fun e => decide (e.1 = z) with
  | none => exact ⟨by decide, by decide⟩
  | some e => exact h e (List.mem_of_find?_eq_some c)
def wOf (x : Str) (ns : List Str) (L : Env) : Int :=
  if x = "free" then 1 else if x = "foot" ∨ x = "mirror" then wtE L (ns.getD 0 "") + 2 * wtE L (ns.getD 1 "") else
  if x = "cut" then (if srtE L (ns.getD 0 "") = "circle" then 5 * (wtE L (ns.getD 0 "") + wtE L (ns.getD 1 "")) else 2 * wtE L (ns.getD 0 "") + wtE L (ns.getD 1 "")) else
  if x = "round" ∨ x = "alike" then 2 * (ns.map (wtE L)).sum else (ns.map (wtE L)).sum
/-! ### tuples stay -/
def Kp (K : PySem.W.Frag) (H H' : Hp) : Prop := ∀ a xs, SqT K H a xs → SqT K H' a xs
theorem Kp.refl (K : PySem.W.Frag) (H : Hp) : Kp K H H := fun _ _ h => h
theorem Kp.trans {K : PySem.W.Frag} {H H1 H2 : Hp} (a : Kp K H H1) (b : Kp K H1 H2) : Kp K H H2 := fun x xs h => b x xs (a x xs h)
theorem Kp.same {K : PySem.W.Frag} {H H' : Hp} (s : Same H H') : Kp K H H' := fun _ _ h => s.tp h
theorem Kp.but {K : PySem.W.Frag} {H H' : Hp} {p : Addr} {b : Int} (s : But p H H') (h : Pl H p b) : Kp K H H' := fun _ _ t => h.tup s t
theorem kp_set {K : PySem.W.Frag} {H : Hp} {p : Addr} {o o' : HO} (h : H p = some o) (n1 : ∀ xs, o ≠ .tup xs) (n2 : ∀ u v, o ≠ .frz u v) : Kp K H (upd H p o') := fun a xs t => by
  rcases t with (t | ⟨u, t⟩) | t
  · refine .inl (.inl ?_)
    rw [upd_ne (fun z => by rw [z, h] at t; exact n1 _ (Option.some.inj t))]
    exact t
  · refine .inl (.inr ⟨u, ?_⟩)
    rw [upd_ne (fun z => by rw [z, h] at t; exact n2 _ _ (Option.some.inj t))]
    exact t
  · exact .inr t
theorem kp_list {K : PySem.W.Frag} {H : Hp} {p : Addr} {xs : List V} {o' : HO} (h : H p = some (.lst xs)) : Kp K H (upd H p o') := kp_set h (fun _ z => by cases z) (fun _ _ z => by cases z)
theorem kp_dict {K : PySem.W.Frag} {H : Hp} {p : Addr} {kvs : List (Key × V)} {o' : HO} (h : H p = some (.dK kvs)) : Kp K H (upd H p o') := kp_set h (fun _ z => by cases z) (fun _ _ z => by cases z)
/-! ### makings, things, rows -/
/-- what follows the names of a making -/
def Tl (K : PySem.W.Frag) (H : Hp) (x : Str) (r : List V) : Prop :=
  (x = "free" ∧ ∃ (f g : Addr) (t u t' u' : Int), r = [.ref f, .ref g] ∧ SqT K H f [.int t, .int u] ∧ SqT K H g [.int t', .int u']) ∨
  (x = "share" ∧ ∃ (f : Addr) (t u : Int), r = [.ref f] ∧ SqT K H f [.int t, .int u]) ∨ (x = "cut" ∧ ∃ n : Int, r = [.int n]) ∨ (x ≠ "free" ∧ x ≠ "share" ∧ x ≠ "cut" ∧ r = [])
def Mk (K : PySem.W.Frag) (H : Hp) (m : Addr) (x : Str) (ns : List Str) : Prop := ∃ r : List V, SqT K H m (.str x :: (ns.map V.str ++ r)) ∧ Tl K H x r
abbrev Thing : Type := Str × Str × List Str
def Th (K : PySem.W.Frag) (H : Hp) (v : V) (t : Thing) : Prop := ∃ a m : Addr, v = .ref a ∧ SqT K H a [.str t.1, .ref m] ∧ Mk K H m t.2.1 t.2.2
theorem Tl.kp {K : PySem.W.Frag} {H H' : Hp} {x : Str} {r : List V} (h : Tl K H x r) (k : Kp K H H') : Tl K H' x r := by
  rcases h with ⟨e, f, g, t, u, t', u', er, h1, h2⟩ | ⟨e, f, t, u, er, h1⟩ | h | h
  · exact .inl ⟨e, f, g, t, u, t', u', er, k _ _ h1, k _ _ h2⟩
  · exact .inr (.inl ⟨e, f, t, u, er, k _ _ h1⟩)
  · exact .inr (.inr (.inl h))
  · exact .inr (.inr (.inr h))
theorem Mk.kp {K : PySem.W.Frag} {H H' : Hp} {m : Addr} {x : Str} {ns : List Str} (h : Mk K H m x ns) (k : Kp K H H') : Mk K H' m x ns := by
  obtain ⟨r, h1, h2⟩ := h
  exact ⟨r, k _ _ h1, h2.kp k⟩
theorem Th.kp {K : PySem.W.Frag} {H H' : Hp} {v : V} {t : Thing} (h : Th K H v t) (k : Kp K H H') : Th K H' v t := by
  obtain ⟨a, m, e, h1, h2⟩ := h
  exact ⟨a, m, e, k _ _ h1, h2.kp k⟩
def Rws (K : PySem.W.Frag) (H : Hp) (vs : List V) (ts : List Thing) : Prop := Paired (Th K H) vs ts
theorem Rws.kp {K : PySem.W.Frag} {H H' : Hp} (k : Kp K H H') : ∀ {vs : List V} {ts : List Thing}, Rws K H vs ts → Rws K H' vs ts
  | _, _, .nil => .nil
  | _, _, .cons h t => .cons (h.kp k) (Rws.kp k t)
/-- the word is one of the table, with so many names; they are of the things so far -/
def Okm (x : Str) (ns : List Str) (L : Env) : Prop := (∃ (s : Str) (g : List Str), (x, s, g) ∈ wordsTab ∧ ns.length = g.length) ∧ ∀ z ∈ ns, z ∈ nmsE L ∧ Sok z
def sOf (x : Str) : Str := ((wordsTab.find? fun q => decide (q.1 = x)).map (·.2.1)).getD ""
theorem sOf_eq {x s : Str} {g : List Str} (h : (x, s, g) ∈ wordsTab) : sOf x = s := by
  have all : ∀ q ∈ wordsTab, sOf q.1 = q.2.1 := by decide +kernel
  exact all _ h
def envStep (L : Env) (t : Thing) : Env := L ++ [(t.1, sOf t.2.1, wOf t.2.1 t.2.2 L)]
def envOf : Env → List Thing → Env
  | L, [] => L
  | L, t :: r => envOf (envStep L t) r
def Vr : Env → List Thing → Prop
  | _, [] => True
  | L, t :: r => (t.1 ∉ nmsE L ∧ Sok t.1 ∧ Okm t.2.1 t.2.2 L ∧ 0 ≤ wOf t.2.1 t.2.2 L ∧ wOf t.2.1 t.2.2 L ≤ 40) ∧ Vr (envStep L t) r
/-- the two dicts of the things so far -/
structure Dc (H : Hp) (S W : Addr) (L : Env) : Prop where
  s : H S = some (.dK (sortsD L))
  w : H W = some (.dK (loadsD L))
  light : Light L
  few : L.length ≤ 100
  ne : S ≠ W
theorem Dc.same {H H' : Hp} {S W : Addr} {L : Env} (h : Dc H S W L) (k : Same H H') : Dc H' S W L := ⟨k _ _ h.s, k _ _ h.w, h.light, h.few, h.ne⟩
theorem Dc.but {H H' : Hp} {S W p : Addr} {L : Env} {b : Int} (h : Dc H S W L) (k : But p H H') (hp : Pl H p b) : Dc H' S W L := by
  obtain ⟨_, _, _, e, _⟩ := hp
  exact ⟨k _ _ (fun z => by have := h.s; rw [z, e] at this; cases this) h.s, k _ _ (fun z => by have := h.w; rw [z, e] at this; cases this) h.w, h.light, h.few, h.ne⟩
def spWeight (K : PySem.W.Frag) : Sp := fun vs H Q _ => ∃ (m S W : Addr) (x : Str) (ns : List Str) (L : Env), vs = [.ref m, .ref S, .ref W] ∧ Mk K H m x ns ∧ Okm x ns L ∧ Dc H S W L ∧ ∀ H', Same H H' → Q (.int (wOf x ns L)) H'
def spGroundsL (K : PySem.W.Frag) : Sp := fun vs H Q _ => ∃ (m : Addr) (x : Str) (ns : List Str) (L : Env), vs = [.ref m] ∧ Mk K H m x ns ∧ Okm x ns L ∧ ∀ (l : Addr) (H' : Hp), Same H H' → H l = none → H' l = some (.lst (ns.map V.str)) → Q (.ref l) H'
def spSortL (K : PySem.W.Frag) : Sp := fun vs H Q _ => ∃ (m : Addr) (x : Str) (ns : List Str) (L : Env), vs = [.ref m] ∧ Mk K H m x ns ∧ Okm x ns L ∧ ∀ H', Same H H' → Q (.str (sOf x)) H'
def spEnter (K : PySem.W.Frag) : Sp := fun vs H Q _ => ∃ (m S W : Addr) (z x : Str) (ns : List Str) (L : Env), vs = [.str z, .ref m, .ref S, .ref W] ∧ Mk K H m x ns ∧ Okm x ns L ∧ Dc H S W L ∧ z ∉ nmsE L ∧
  ∀ H', Kp K H H' → (∀ b o, b ≠ S → b ≠ W → H b = some o → H' b = some o) → H' S = some (.dK (sortsD (envStep L (z, x, ns)))) → H' W = some (.dK (loadsD (envStep L (z, x, ns)))) → Q .non H'
def weightsOf (L : Env) : List V := L.map fun e => .int e.2.2
def spWeights (K : PySem.W.Frag) : Sp := fun vs H Q _ => ∃ (l : Addr) (us : List V) (ts : List Thing), vs = [.ref l] ∧ SqL K H l us ∧ Rws K H us ts ∧ Vr [] ts ∧ ts.length ≤ 60 ∧ ∀ (p : Addr) (H' : Hp), Same H H' → H p = none → H' p = some (.lst (weightsOf (envOf [] ts))) → Q (.ref p) H'
/-- sums of the loads -/
theorem r_dg {td ty : TE} {σ : St} {H : Hp} {Q : VK} (q : td σ H fun x H1 => ty σ H1 fun y H2 => ∃ a v, x = .ref a ∧ DGet H2 a y (some v) ∧ Q v H2) : tDGet td ty σ H Q := q
theorem r_dput {td ty tv : TE} {σ : St} {H : Hp} {D : Ends} (q : tv σ H fun v H1 => td σ H1 fun x H2 => ty σ H2 fun y H3 => ∃ a H4, x = .ref a ∧ DPut H3 a y v H4 ∧ D.nx σ H4) : sDPut td ty tv D σ H := q
theorem r_dputS {td ty tv : TE} {σ : St} {H : Hp} {D : Ends} {u : TS} (q : tv σ H fun v H1 => td σ H1 fun x H2 => ty σ H2 fun y H3 => ∃ a H4, x = .ref a ∧ DPut H3 a y v H4 ∧ u D σ H4) : tSeq (sDPut td ty tv) u D σ H := q
theorem r_inS {K : PySem.W.Frag} {H : Hp} {Q : VK} {a : Addr} {z : Str} {zs : List Str} (h : SqT K H a (zs.map V.str)) (q : Q (.bl (decide (z ∈ zs))) H) : rIn K false (.str z) (.ref a) H Q :=
  ⟨a, _, rfl, .inr h, rfl, by rw [List.all_map]; exact List.all_eq_true.mpr (fun _ _ => rfl), by rw [inV_str]; exact q⟩
theorem r_inSL {K : PySem.W.Frag} {H : Hp} {Q : VK} {a : Addr} {z : Str} {zs : List Str} (h : SqL K H a (zs.map V.str)) (q : Q (.bl (decide (z ∈ zs))) H) : rIn K false (.str z) (.ref a) H Q :=
  ⟨a, _, rfl, .inl h, rfl, by rw [List.all_map]; exact List.all_eq_true.mpr (fun _ _ => rfl), by rw [inV_str]; exact q⟩
theorem at_1 {a b : V} {r : List V} : atI (a :: b :: r) 1 = some b := atI_nat (j := 1) rfl
theorem at_2 {a b c : V} {r : List V} : atI (a :: b :: c :: r) 2 = some c := atI_nat (j := 2) rfl
theorem at_0 {a : V} {r : List V} : atI (a :: r) 0 = some a := atI_nat (j := 0) rfl
theorem cut_tail {x : V} {ys : List V} : cutV (x :: ys) (some 1) none = ys := by
  unfold cutV
  have e1 : HT.sIx (x :: ys).length 0 (some 1) = 1 := by
    have := HT.sIx_nat (x :: ys).length 0 1
    rw [show (some (1 : Int)) = some (((1 : Nat) : Int)) from rfl, this]
    simp only [List.length_cons]
    omega
  have e2 : HT.sIx (x :: ys).length (x :: ys).length none = (x :: ys).length := rfl
  rw [e1, e2]
  simp
theorem Tl.nil {K : PySem.W.Frag} {H : Hp} {x : Str} {r : List V} (h : Tl K H x r) (h1 : x ≠ "free") (h2 : x ≠ "share") (h3 : x ≠ "cut") : r = [] := by
  rcases h with ⟨e, _⟩ | ⟨e, _⟩ | ⟨e, _⟩ | ⟨_, _, _, e⟩
  · exact absurd e h1
  · exact absurd e h2
  · exact absurd e h3
  · exact e
theorem two_of {x s : Str} {g : List Str} (h : (x, s, g) ∈ wordsTab) (c : x = "share" ∨ x = "cut" ∨ x = "foot" ∨ x = "mirror") : g.length = 2 := by
  have all : ∀ q ∈ wordsTab, (q.1 = "share" ∨ q.1 = "cut" ∨ q.1 = "foot" ∨ q.1 = "mirror") → q.2.2.length = 2 := by decide +kernel
  exact all _ h c
theorem pair_of {ns : List Str} (h : ns.length = 2) : ∃ a b, ns = [a, b] := by
  match ns, h with
  | [a, b], _ => exact ⟨a, b, rfl⟩
theorem sorts_of {x s : Str} {g : List Str} (h : (x, s, g) ∈ wordsTab) : (x ∈ (["line", "along", "upright"] : List Str) → s = "line") ∧ (x ∈ (["inline", "round", "alike", "beside", "square"] : List Str) → s = "claim") ∧ (x = "circle" → s = "circle") ∧ (x ∉ (["line", "along", "upright"] : List Str) → x ∉ (["inline", "round", "alike", "beside", "square"] : List Str) → x ≠ "circle" → s = "point") := by
  have all : ∀ q ∈ wordsTab, (q.1 ∈ (["line", "along", "upright"] : List Str) → q.2.1 = "line") ∧ (q.1 ∈ (["inline", "round", "alike", "beside", "square"] : List Str) → q.2.1 = "claim") ∧ (q.1 = "circle" → q.2.1 = "circle") ∧ (q.1 ∉ (["line", "along", "upright"] : List Str) → q.1 ∉ (["inline", "round", "alike", "beside", "square"] : List Str) → q.1 ≠ "circle" → q.2.1 = "point") := by decide +kernel
  exact all _ h
/-! ### comprehensions over a list -/
def lcL (K : PySem.W.Frag) (g : TG) (tt : TT) (te : TE) (vs : List Nat) (σ : St) (Q : VK) (x : V) (H1 : Hp) : Prop := ∃ a, x = .ref a ∧ (∃ xs, SqL K H1 a xs) ∧ ∀ D, H1 D = none → ∃ W : Nat → Nat → Hp → Prop, (∃ m, W 0 m (upd H1 D (.lst []))) ∧ ∀ i m H, W i m H →
  ((Itl K a).stop i H ∧ Q (.ref D) H) ∨ ((Itl K a).go i H ∧ ∃ Nx : Hp → Prop, (∀ H', Nx H' → ∃ m', m' < m ∧ W (i + 1) m' H') ∧ ∀ x H', (Itl K a).yld i H x H' → g x (wipe σ vs) H' fun σ2 H2 => wipe σ2 vs = wipe σ vs ∧ tt σ2 H2 fun b H3 =>
    if b = true then te σ2 H3 fun y H4 => ∃ acc, H4 D = some (.lst acc) ∧ acc.length < sizeLine ∧ Nx (upd H4 D (.lst (acc ++ [y]))) else Nx H3)
theorem r_lcM {K : PySem.W.Frag} {tl : TE} {g : TG} {tt : TT} {te : TE} {vs : List Nat} {σ : St} {H : Hp} {Q : VK} (q : tl σ H (lcL K g tt te vs σ Q)) : tLc (iList K tl) g tt te vs σ H Q := q
/-- a value of each item, nothing changed -/
theorem lc_map {K : PySem.W.Frag} {j : Nat} {te : TE} {σ : St} {Q : VK} {l : Addr} {xs : List V} {H : Hp} (F : V → V) (hl : SqL K H l xs) (few : xs.length ≤ 1000) (hσ : ∀ v, wipe ((wipe σ [j]).set j (some v)) [j] = wipe σ [j])
    (step : ∀ (i : Nat) (x : V) (H' : Hp), xs[i]? = some x → Same H H' → ∀ R : VK, (∀ H4, Same H' H4 → R (F x) H4) → te ((wipe σ [j]).set j (some x)) H' R)
    (fin : ∀ (D : Addr) (H' : Hp), Same H H' → H D = none → H' D = some (.lst (xs.map F)) → Q (.ref D) H') : lcL K (gName j) tYes te [j] σ Q (.ref l) H := by
  refine ⟨l, rfl, ⟨_, hl⟩, fun D hD => ?_⟩
  refine lc_list (xs := xs) (fun i H' => Same H H' ∧ H' D = some (.lst ((xs.take i).map F))) ⟨same_new hD _, by rw [List.take_zero]; exact upd_same⟩ (fun i H' _ h => h.1.seq hl) ?_ ?_
  · rintro i x H' hx ⟨g, d⟩
    have hi : i < xs.length := (List.getElem?_eq_some_iff.mp hx).1
    refine ⟨hσ x, ?_⟩
    refine r_yes ?_
    show te _ _ _
    refine step i x H' hx g _ fun H4 g4 => ?_
    refine ⟨_, g4 _ _ d, ?_, same_updS (g.trans g4) hD, ?_⟩
    · rw [List.length_map, List.length_take]
      exact Nat.lt_of_le_of_lt (Nat.min_le_left _ _) (Nat.lt_of_lt_of_le (show i < 1001 by omega) (by decide))
    · rw [List.take_succ, hx, Option.toList_some, List.map_append]
      exact upd_same
  · rintro H' ⟨g, d⟩
    rw [List.take_length] at d
    exact fin D H' g hD d
theorem r_lst0 {K : PySem.W.Frag} {H : Hp} {Q : VK} {p : Addr} {xs : List V} {v : V} {n : Nat} (h : SqL K H p xs) (e : xs[n]? = some v) (q : Q v H) : rIxL K (.ref p) (.int (n : Int)) H Q := r_ixL h (atI_nat e) q
theorem sm_small {i : Int} (h : i.natAbs < 1000000) : Sm 64 i := Nat.lt_of_lt_of_le h (by decide)
theorem cm_small {i j : Int} (h : i.natAbs < 1000000) (h' : j.natAbs < 1000000) : CMulW i j := Sm.cmul (sm_small h) (sm_small h')
theorem sum_small {L : Env} (hL : Light L) : ∀ ns : List Str, 0 ≤ (ns.map (wtE L)).sum ∧ (ns.map (wtE L)).sum ≤ 40 * (ns.length : Int)
  | [] => by simp
  | n :: r => by
    obtain ⟨h1, h2⟩ := sum_small hL r
    obtain ⟨h3, h4⟩ := hL.wt n
    simp only [List.map_cons, List.sum_cons, List.length_cons, Int.natCast_add]
    omega
theorem envOf_append : ∀ (a b : List Thing) (L : Env), envOf L (a ++ b) = envOf (envOf L a) b
  | [], _, _ => rfl
  | t :: a, b, L => envOf_append a b (envStep L t)
theorem envOf_len : ∀ (a : List Thing) (L : Env), (envOf L a).length = L.length + a.length
  | [], _ => rfl
  | t :: a, L => by
    show (envOf (envStep L t) a).length = _
    rw [envOf_len a]
    unfold envStep
    simp only [List.length_append, List.length_cons, List.length_nil]
    omega
theorem Vr.split : ∀ (a b : List Thing) (L : Env), Vr L (a ++ b) → Vr L a ∧ Vr (envOf L a) b
  | [], _, _, h => ⟨trivial, h⟩
  | t :: a, b, L, ⟨h1, h2⟩ => by
    obtain ⟨h3, h4⟩ := Vr.split a b _ h2
    exact ⟨⟨h1, h3⟩, h4⟩
theorem Vr.join : ∀ (a b : List Thing) (L : Env), Vr L a → Vr (envOf L a) b → Vr L (a ++ b)
  | [], _, _, _, h => h
  | t :: a, b, L, ⟨h1, h2⟩, h => ⟨h1, Vr.join a b _ h2 h⟩
theorem Vr.light : ∀ (a : List Thing) (L : Env), Light L → Vr L a → Light (envOf L a)
  | [], _, h, _ => h
  | t :: a, L, h, ⟨h1, h2⟩ => Vr.light a _ (fun e he => by
      rcases List.mem_append.mp he with h' | h'
      · exact h e h'
      · rw [List.mem_singleton.mp h']
        exact ⟨h1.2.2.2.1, h1.2.2.2.2⟩) h2
theorem light0 : Light [] := fun _ h => by cases h
/-- the i-th thing, with what was known ahead of it -/
theorem Vr.at {ts : List Thing} {i : Nat} {t : Thing} (h : Vr [] ts) (hi : ts[i]? = some t) : t.1 ∉ nmsE (envOf [] (ts.take i)) ∧ Sok t.1 ∧ Okm t.2.1 t.2.2 (envOf [] (ts.take i)) ∧ envOf [] (ts.take (i + 1)) = envStep (envOf [] (ts.take i)) t ∧ Light (envOf [] (ts.take i)) ∧ Light (envOf [] (ts.take (i + 1))) := by
  have hl := (List.getElem?_eq_some_iff.mp hi).1
  have e1 : ts.take (i + 1) = ts.take i ++ [t] := by rw [List.take_succ, hi, Option.toList_some]
  have e2 : envOf [] (ts.take (i + 1)) = envStep (envOf [] (ts.take i)) t := by rw [e1, envOf_append]; rfl
  have h1 : Vr [] (ts.take (i + 1) ++ ts.drop (i + 1)) := by rw [List.take_append_drop]; exact h
  obtain ⟨h2, _⟩ := Vr.split _ _ _ h1
  have h3 := h2
  rw [e1] at h3
  obtain ⟨h4, h5⟩ := Vr.split _ _ _ h3
  exact ⟨h5.1.1, h5.1.2.1, h5.1.2.2.1, e2, Vr.light _ _ light0 h4, Vr.light _ _ light0 h2⟩
theorem Rws.at {K : PySem.W.Frag} {H : Hp} {vs : List V} {ts : List Thing} {i : Nat} {v : V} (h : Rws K H vs ts) (hi : vs[i]? = some v) : ∃ t, ts[i]? = some t ∧ Th K H v t := LiI.paired_get h hi
theorem Rws.len {K : PySem.W.Frag} {H : Hp} {vs : List V} {ts : List Thing} (h : Rws K H vs ts) : vs.length = ts.length := Paired.length h
end Mb
namespace Mb
open PySem L2
/-! ### drawing a making: names by sort -/
structure By (H : Hp) (p B P Ln C Z : Addr) (pts lns crs cls : List Str) : Prop where
  b : H B = some (.dK [(.inr "point", .ref P), (.inr "line", .ref Ln), (.inr "circle", .ref C), (.inr "claim", .ref Z)])
  eP : H P = some (.lst (pts.map V.str))
  eL : H Ln = some (.lst (lns.map V.str))
  eC : H C = some (.lst (crs.map V.str))
  eZ : H Z = some (.lst (cls.map V.str))
  nP : P ≠ p
  nL : Ln ≠ p
  nC : C ≠ p
  nZ : Z ≠ p
  f : pts.length ≤ 100 ∧ lns.length ≤ 100 ∧ crs.length ≤ 100 ∧ cls.length ≤ 100
  nB : B ≠ p
theorem By.but {H H' : Hp} {p B P Ln C Z : Addr} {pts lns crs cls : List Str} (h : By H p B P Ln C Z pts lns crs cls) (k : But p H H') : By H' p B P Ln C Z pts lns crs cls :=
  ⟨k _ _ h.nB h.b, k _ _ h.nP h.eP, k _ _ h.nL h.eL, k _ _ h.nC h.eC, k _ _ h.nZ h.eZ, h.nP, h.nL, h.nC, h.nZ, h.f, h.nB⟩
def Fit (pts lns crs : List Str) (g z : Str) : Prop := (g = "point" ∧ z ∈ pts) ∨ (g = "line" ∧ z ∈ lns) ∨ (g = "circle" ∧ z ∈ crs) ∨ (g = "curve" ∧ (z ∈ lns ∨ z ∈ crs))
theorem fitP {pts lns crs : List Str} {z : Str} (h : z ∈ pts) : Fit pts lns crs "point" z := .inl ⟨rfl, h⟩
theorem fitL {pts lns crs : List Str} {z : Str} (h : z ∈ lns) : Fit pts lns crs "line" z := .inr (.inl ⟨rfl, h⟩)
theorem fitC {pts lns crs : List Str} {z : Str} (h : z ∈ crs) : Fit pts lns crs "circle" z := .inr (.inr (.inl ⟨rfl, h⟩))
theorem fitU {pts lns crs : List Str} {z : Str} (h : z ∈ lns ∨ z ∈ crs) : Fit pts lns crs "curve" z := .inr (.inr (.inr ⟨rfl, h⟩))
def spMaking (K : PySem.W.Frag) : Sp := fun vs H Q _ => ∃ (p B P Ln C Z : Addr) (pts lns crs cls : List Str) (b : Int), vs = [.ref p, .ref B] ∧ Pl H p b ∧ b ≤ 1700000 ∧ By H p B P Ln C Z pts lns crs cls ∧
  ∀ (m : Addr) (x s : Str) (g ns : List Str) (H' : Hp), But p H H' → Pl H' p (b + 100) → Mk K H' m x ns → (x, s, g) ∈ wordsTab → Paired (Fit pts lns crs) g ns → Q (.ref m) H'
theorem pick_str {zs : List Str} {r : Int} (l : 0 ≤ r) (u : r < (zs.length : Int)) : ∃ z, atI (zs.map V.str) r = some (.str z) ∧ z ∈ zs := by
  obtain ⟨j, rfl⟩ : ∃ n : Nat, r = (n : Int) := ⟨r.toNat, by omega⟩
  have hj : j < zs.length := by omega
  exact ⟨zs[j], at_str hj, List.getElem_mem hj⟩
theorem tl0 {K : PySem.W.Frag} {H : Hp} {x : Str} (h1 : x ≠ "free") (h2 : x ≠ "share") (h3 : x ≠ "cut") : Tl K H x [] := .inr (.inr (.inr ⟨h1, h2, h3, rfl⟩))
theorem word4 {i : Int} (h : i = 0 ∨ i = 2 ∨ i = 3) : ∃ x : Str, atI [V.str "middle", .str "share", .str "next", .str "turn"] i = some (.str x) ∧ (x, ("point" : Str), (["point", "point"] : List Str)) ∈ wordsTab ∧ x ≠ "free" ∧ x ≠ "share" ∧ x ≠ "cut" := by
  rcases h with rfl | rfl | rfl
  all_goals exact ⟨_, rfl, by decide +kernel, by decide +kernel, by decide +kernel, by decide +kernel⟩
theorem word4b {i : Int} (h : i = 0 ∨ i = 1 ∨ i = 2 ∨ i = 3) : ∃ x s : Str, atI [V.str "along", .str "upright", .str "foot", .str "mirror"] i = some (.str x) ∧ (x, s, (["point", "line"] : List Str)) ∈ wordsTab ∧ x ≠ "free" ∧ x ≠ "share" ∧ x ≠ "cut" := by
  rcases h with rfl | rfl | rfl | rfl
  · exact ⟨_, "line", rfl, by decide +kernel, by decide +kernel, by decide +kernel, by decide +kernel⟩
  · exact ⟨_, "line", rfl, by decide +kernel, by decide +kernel, by decide +kernel, by decide +kernel⟩
  · exact ⟨_, "point", rfl, by decide +kernel, by decide +kernel, by decide +kernel, by decide +kernel⟩
  · exact ⟨_, "point", rfl, by decide +kernel, by decide +kernel, by decide +kernel, by decide +kernel⟩
theorem word2 {i : Int} (h : i = 0 ∨ i = 1) : ∃ x : Str, atI [V.str "beside", .str "square"] i = some (.str x) ∧ (x, ("claim" : Str), (["line", "line"] : List Str)) ∈ wordsTab ∧ x ≠ "free" ∧ x ≠ "share" ∧ x ≠ "cut" := by
  rcases h with rfl | rfl
  all_goals exact ⟨_, rfl, by decide +kernel, by decide +kernel, by decide +kernel, by decide +kernel⟩
theorem word2b {i : Int} (h : i = 0 ∨ i = 1) : ∃ x : Str, atI [V.str "round", .str "alike"] i = some (.str x) ∧ (x, ("claim" : Str), (["point", "point", "point", "point"] : List Str)) ∈ wordsTab ∧ x ≠ "free" ∧ x ≠ "share" ∧ x ≠ "cut" := by
  rcases h with rfl | rfl
  all_goals exact ⟨_, rfl, by decide +kernel, by decide +kernel, by decide +kernel, by decide +kernel⟩
end Mb
namespace Mb
open PySem L2
/-! ### drawing a row -/
theorem fit_mem {pts lns crs : List Str} : ∀ {g ns : List Str}, Paired (Fit pts lns crs) g ns → ∀ z ∈ ns, z ∈ pts ∨ z ∈ lns ∨ z ∈ crs
  | _, _, .cons h t, z, hz => by
    rcases List.mem_cons.mp hz with rfl | hz
    · rcases h with ⟨_, h⟩ | ⟨_, h⟩ | ⟨_, h⟩ | ⟨_, h | h⟩
      · exact .inl h
      · exact .inr (.inl h)
      · exact .inr (.inr h)
      · exact .inr (.inl h)
      · exact .inr (.inr h)
    · exact fit_mem t z hz
theorem okm_of {pts lns crs : List Str} {x s : Str} {g ns : List Str} {L : Env} (tx : (x, s, g) ∈ wordsTab) (pr : Paired (Fit pts lns crs) g ns) (mem : ∀ z, (z ∈ pts ∨ z ∈ lns ∨ z ∈ crs) → z ∈ nmsE L ∧ Sok z) : Okm x ns L :=
  ⟨⟨s, g, tx, (Paired.length pr).symm⟩, fun z hz => mem z (fit_mem pr z hz)⟩
theorem okm_free {L : Env} : Okm "free" [] L := ⟨⟨"point", [], by decide +kernel, rfl⟩, fun _ h => by cases h⟩
theorem wOf_nonneg {L : Env} (h : Light L) (x : Str) (ns : List Str) : 0 ≤ wOf x ns L := by
  have w := fun z => (h.wt z).1
  have s := (sum_small h ns).1
  have w0 := w (ns.getD 0 "")
  have w1 := w (ns.getD 1 "")
  unfold wOf
  split
  · decide
  split
  · omega
  split
  · split <;> omega
  split <;> omega
theorem wOf_free {L : Env} {ns : List Str} : wOf "free" ns L = 1 := by unfold wOf; rw [if_pos rfl]
structure All (K : PySem.W.Frag) (H H' : Hp) (p R B S W P Ln C Z : Addr) (c : Int) (us : List V) (ts : List Thing) (pts lns crs cls : List Str) : Prop where
  bt : But p H H'
  pl : Pl H' p c
  eR : H' R = some (.lst us)
  rw : Rws K H' us ts
  bi : By H' p B P Ln C Z pts lns crs cls
  dc : Dc H' S W (envOf [] ts)
  vr : Vr [] ts
  mem : ∀ z, (z ∈ pts ∨ z ∈ lns ∨ z ∈ crs) → z ∈ nmsE (envOf [] ts) ∧ Sok z
  ln : pts.length ≤ ts.length ∧ lns.length ≤ ts.length ∧ crs.length ≤ ts.length ∧ cls.length ≤ ts.length
theorem All.but {K : PySem.W.Frag} {H H' H2 : Hp} {p R B S W P Ln C Z : Addr} {c c' : Int} {us : List V} {ts : List Thing} {pts lns crs cls : List Str} (h : All K H H' p R B S W P Ln C Z c us ts pts lns crs cls) (k : But p H' H2) (pl : Pl H2 p c') (nR : R ≠ p) : All K H H2 p R B S W P Ln C Z c' us ts pts lns crs cls :=
  ⟨h.bt.trans k, pl, k _ _ nR h.eR, h.rw.kp (Kp.but k h.pl), h.bi.but k, h.dc.but k h.pl, h.vr, h.mem, h.ln⟩
theorem All.same {K : PySem.W.Frag} {H H' H2 : Hp} {p R B S W P Ln C Z : Addr} {c : Int} {us : List V} {ts : List Thing} {pts lns crs cls : List Str} (h : All K H H' p R B S W P Ln C Z c us ts pts lns crs cls) (k : Same H' H2) (nR : R ≠ p) : All K H H2 p R B S W P Ln C Z c us ts pts lns crs cls := h.but (But.same k) (h.pl.same k) nR
theorem sort_keys {L : Env} : (sortsD L).map (fun kv => kV kv.1) = (nmsE L).map V.str := by
  unfold sortsD nmsE
  rw [List.map_map, List.map_map]
  rfl
theorem nms_len {L : Env} : (nmsE L).length = L.length := List.length_map _
theorem nms_step {L : Env} {t : Thing} : nmsE (envStep L t) = nmsE L ++ [t.1] := by
  unfold envStep nmsE
  rw [List.map_append]
  rfl
theorem srt_step {L : Env} {t : Thing} (h : t.1 ∉ nmsE L) : srtE (envStep L t) t.1 = sOf t.2.1 := by
  unfold srtE envStep
  rw [List.find?_append]
  have : L.find? (fun e => decide (e.1 = t.1)) = none := by
    rw [List.find?_eq_none]
    intro e he hd
    exact h (of_decide_eq_true hd ▸ List.mem_map.mpr ⟨e, he, rfl⟩)
  rw [this]
  simp
theorem sort4 {x s : Str} {g : List Str} (h : (x, s, g) ∈ wordsTab) : sOf x = "point" ∨ sOf x = "line" ∨ sOf x = "circle" ∨ sOf x = "claim" := by
  have all : ∀ q ∈ wordsTab, sOf q.1 = "point" ∨ sOf q.1 = "line" ∨ sOf q.1 = "circle" ∨ sOf q.1 = "claim" := by decide +kernel
  exact all _ h
def spRow (K : PySem.W.Frag) : Sp := fun vs H Q _ => ∃ (p : Addr) (n : Nat) (b : Int), vs = [.ref p, .int (n : Int)] ∧ n ≤ 60 ∧ Pl H p b ∧ b ≤ 1100000 ∧
  ∀ (l : Addr) (us : List V) (ts : List Thing) (H' : Hp), But p H H' → Pl H' p (b + 100000) → H l = none → H' l = some (.lst us) → Rws K H' us ts → Vr [] ts → ts.length = n → Q (.ref l) H'
theorem env_snoc {ts : List Thing} {t : Thing} : envOf [] (ts ++ [t]) = envStep (envOf [] ts) t := by rw [envOf_append]; rfl
theorem vr_snoc {ts : List Thing} {t : Thing} (h : Vr [] ts) (h1 : t.1 ∉ nmsE (envOf [] ts)) (h2 : Sok t.1) (h3 : Okm t.2.1 t.2.2 (envOf [] ts)) (h4 : 0 ≤ wOf t.2.1 t.2.2 (envOf [] ts)) (h5 : wOf t.2.1 t.2.2 (envOf [] ts) ≤ 40) : Vr [] (ts ++ [t]) := Vr.join _ _ _ h ⟨⟨h1, h2, h3, h4, h5⟩, trivial⟩
theorem rws_snoc {K : PySem.W.Frag} {H : Hp} {v : V} {t : Thing} : ∀ {us : List V} {ts : List Thing}, Rws K H us ts → Th K H v t → Rws K H (us ++ [v]) (ts ++ [t])
  | _, _, .nil, h => .cons h .nil
  | _, _, .cons a r, h => .cons a (rws_snoc r h)
theorem ne_kind {H : Hp} {a b : Addr} {xs : List V} {kvs : List (Key × V)} (h : H a = some (.lst xs)) (h' : H b = some (.dK kvs)) : a ≠ b := fun z => by rw [z, h'] at h; cases h
theorem r_prs {tk tv : TE} {r : List (TE × TE)} {σ : St} {H : Hp} {Q : List (V × V) → Hp → Prop} (q : tk σ H fun x H1 => tv σ H1 fun y H2 => tPairs r σ H2 fun ps H3 => Q ((x, y) :: ps) H3) : tPairs ((tk, tv) :: r) σ H Q := q
theorem r_prs0 {σ : St} {H : Hp} {Q : List (V × V) → Hp → Prop} (q : Q [] H) : tPairs [] σ H Q := q
theorem mmP {pts lns crs : List Str} {z : Str} : ∀ y, (y ∈ pts ++ [z] ∨ y ∈ lns ∨ y ∈ crs) → (y ∈ pts ∨ y ∈ lns ∨ y ∈ crs) ∨ y = z := by
  intro y h
  rcases h with h | h | h
  · rcases List.mem_append.mp h with h | h
    · exact .inl (.inl h)
    · exact .inr (List.mem_singleton.mp h)
  · exact .inl (.inr (.inl h))
  · exact .inl (.inr (.inr h))
theorem mmL {pts lns crs : List Str} {z : Str} : ∀ y, (y ∈ pts ∨ y ∈ lns ++ [z] ∨ y ∈ crs) → (y ∈ pts ∨ y ∈ lns ∨ y ∈ crs) ∨ y = z := by
  intro y h
  rcases h with h | h | h
  · exact .inl (.inl h)
  · rcases List.mem_append.mp h with h | h
    · exact .inl (.inr (.inl h))
    · exact .inr (List.mem_singleton.mp h)
  · exact .inl (.inr (.inr h))
theorem mmC {pts lns crs : List Str} {z : Str} : ∀ y, (y ∈ pts ∨ y ∈ lns ∨ y ∈ crs ++ [z]) → (y ∈ pts ∨ y ∈ lns ∨ y ∈ crs) ∨ y = z := by
  intro y h
  rcases h with h | h | h
  · exact .inl (.inl h)
  · exact .inl (.inr (.inl h))
  · rcases List.mem_append.mp h with h | h
    · exact .inl (.inr (.inr h))
    · exact .inr (List.mem_singleton.mp h)
end Mb
namespace Mb
open PySem L2
/-! ### rows as data; equality -/
theorem lay_app : ∀ {a b : List PyData}, PyData.canLayAll0 a = true → PyData.canLayAll0 b = true → PyData.canLayAll0 (a ++ b) = true
  | [], _, _, h => h
  | x :: a, b, h1, h2 => by
    unfold PyData.canLayAll0 at h1
    obtain ⟨h3, h4⟩ := Bool.and_eq_true_iff.mp h1
    show PyData.canLayAll0 (x :: (a ++ b)) = true
    unfold PyData.canLayAll0
    rw [h3, lay_app h4 h2]
    rfl
theorem dep_app : ∀ {a b : List PyData} {n : Nat}, PyData.depthAll a ≤ n → PyData.depthAll b ≤ n → PyData.depthAll (a ++ b) ≤ n
  | [], _, _, _, h => h
  | x :: a, b, n, h1, h2 => by
    unfold PyData.depthAll at h1
    show PyData.depthAll (x :: (a ++ b)) ≤ n
    unfold PyData.depthAll
    have := dep_app (a := a) (b := b) (n := n) (by omega) h2
    omega
theorem dpAll_app {K : PySem.W.Frag} {H : Hp} : ∀ {xs ys : List V} {ds es : List PyData}, DpAll K H xs ds → DpAll K H ys es → DpAll K H (xs ++ ys) (ds ++ es)
  | _, _, _, _, .nil, h => h
  | _, _, _, _, .cons a r, h => .cons a (dpAll_app r h)
theorem dp_two {K : PySem.W.Frag} {H : Hp} {f : Addr} {t u : Int} (h : SqT K H f [.int t, .int u]) : Dp K H (.ref f) (.tuple [.int t, .int u]) := .tup h (.cons (.int t) (.cons (.int u) .nil))
theorem Tl.dp {K : PySem.W.Frag} {H : Hp} {x : Str} {r : List V} (h : Tl K H x r) : ∃ ds, DpAll K H r ds ∧ PyData.canLayAll0 ds = true ∧ PyData.depthAll ds ≤ 10 := by
  rcases h with ⟨e, f, g, t, u, t', u', rfl, h1, h2⟩ | ⟨e, f, t, u, rfl, h1⟩ | ⟨_, n, rfl⟩ | ⟨_, _, _, rfl⟩
  · exact ⟨_, .cons (dp_two h1) (.cons (dp_two h2) .nil), rfl, by simp [PyData.depthAll, PyData.depth]⟩
  · exact ⟨_, .cons (dp_two h1) .nil, rfl, by simp [PyData.depthAll, PyData.depth]⟩
  · exact ⟨_, .cons (.int n) .nil, rfl, by simp [PyData.depthAll, PyData.depth]⟩
  · exact ⟨[], .nil, rfl, by decide⟩
theorem word_ok {x s : Str} {g : List Str} (h : (x, s, g) ∈ wordsTab) : PyData.strOk x = true := by
  have all : ∀ q ∈ wordsTab, PyData.strOk q.1 = true := by decide +kernel
  exact all _ h
theorem Th.dp {K : PySem.W.Frag} {H : Hp} {v : V} {t : Thing} {L : Env} (h : Th K H v t) (ok : Okm t.2.1 t.2.2 L) (sk : Sok t.1) : ∃ d, Dp K H v d ∧ PyData.canLay0 d = true ∧ PyData.depth d ≤ 20 := by
  obtain ⟨a, m, rfl, ta, r, tm, tl⟩ := h
  obtain ⟨⟨so, g, tx, _⟩, hz⟩ := ok
  obtain ⟨ds, d1, d2, d3⟩ := tl.dp
  obtain ⟨e1, e2⟩ := lay_strs t.2.2 fun z h => (hz z h).2.2
  have l1 := lay_app e1 d2
  have l2 : PyData.depthAll (t.2.2.map PyData.str ++ ds) ≤ 10 := dep_app (by omega) d3
  refine ⟨.tuple [.str t.1, .tuple (.str t.2.1 :: (t.2.2.map PyData.str ++ ds))], .tup ta (.cons (.str _) (.cons (.tup tm (.cons (.str _) (dpAll_app (dpAll_strs _) d1))) .nil)), ?_, ?_⟩
  · simp only [PyData.canLay0, PyData.canLayAll0, sk.2, word_ok tx, l1, Bool.and_self]
  · simp only [PyData.depth, PyData.depthAll]
    omega
theorem rows_dp {K : PySem.W.Frag} {H : Hp} : ∀ {us : List V} {ts : List Thing} {L : Env}, Rws K H us ts → Vr L ts → ∃ ds, DpAll K H us ds ∧ PyData.canLayAll0 ds = true ∧ PyData.depthAll ds ≤ 20
  | _, _, _, .nil, _ => ⟨[], .nil, rfl, by decide⟩
  | _, _, L, .cons h r, ⟨v1, v2⟩ => by
    obtain ⟨d, h1, h2, h3⟩ := h.dp v1.2.2.1 v1.2.1
    obtain ⟨ds, g1, g2, g3⟩ := rows_dp r v2
    refine ⟨d :: ds, .cons h1 g1, ?_, ?_⟩
    · unfold PyData.canLayAll0
      rw [h2, g2]
      rfl
    · unfold PyData.depthAll
      omega
theorem r_neRow {K : PySem.W.Frag} {H : Hp} {Q : VK} {a b : Addr} {us : List V} {ts : List Thing} (h1 : SqL K H a us) (h2 : SqL K H b us) (rw_ : Rws K H us ts) (vr : Vr [] ts) (k : Q (.bl false) H) : rNeD K (.ref a) (.ref b) H Q := by
  obtain ⟨ds, d1, d2, d3⟩ := rows_dp rw_ vr
  have sh : SeqAt.shaped (.list ds) = true := by
    have e1 : PyData.canLay0 (.list ds) = true := by unfold PyData.canLay0; exact d2
    have e2 : PyData.depth (.list ds) ≤ 64 := by unfold PyData.depth; omega
    unfold SeqAt.shaped
    rw [e1, decide_eq_true e2]
    rfl
  refine ⟨_, _, .lst h1 d1, .lst h2 d1, sh, sh, ?_⟩
  rw [SeqAt.eqv_refl _ (by unfold PyData.canLay0; exact d2)]
  exact k
theorem dpAll_ints {K : PySem.W.Frag} {H : Hp} : ∀ (ns : List Int), DpAll K H (ns.map V.int) (ns.map PyData.int)
  | [] => .nil
  | n :: r => .cons (.int n) (dpAll_ints r)
theorem lay_ints : ∀ ns : List Int, PyData.canLayAll0 (ns.map PyData.int) = true ∧ PyData.depthAll (ns.map PyData.int) ≤ 1
  | [] => ⟨rfl, by decide⟩
  | n :: r => by
    obtain ⟨h1, h2⟩ := lay_ints r
    rw [List.map_cons]
    refine ⟨?_, ?_⟩
    · unfold PyData.canLayAll0 PyData.canLay0
      rw [h1]
      rfl
    · unfold PyData.depthAll PyData.depth
      omega
theorem sh_ints (ns : List Int) : SeqAt.shaped (.list (ns.map PyData.int)) = true ∧ PyData.canLay0 (.list (ns.map PyData.int)) = true := by
  have e1 : PyData.canLay0 (.list (ns.map PyData.int)) = true := by unfold PyData.canLay0; exact (lay_ints ns).1
  have e2 : PyData.depth (.list (ns.map PyData.int)) ≤ 64 := by unfold PyData.depth; have := (lay_ints ns).2; omega
  refine ⟨?_, e1⟩
  unfold SeqAt.shaped
  rw [e1, decide_eq_true e2]
  rfl
theorem r_neInt {K : PySem.W.Frag} {H : Hp} {Q : VK} {a b : Addr} {ns : List Int} (h1 : SqL K H a (ns.map V.int)) (h2 : SqL K H b (ns.map V.int)) (k : Q (.bl false) H) : rNeD K (.ref a) (.ref b) H Q := by
  refine ⟨_, _, .lst h1 (dpAll_ints ns), .lst h2 (dpAll_ints ns), (sh_ints ns).1, (sh_ints ns).1, ?_⟩
  rw [SeqAt.eqv_refl _ (sh_ints ns).2]
  exact k
theorem r_eqInt {K : PySem.W.Frag} {H : Hp} {Q : VK} {a b : Addr} {ns : List Int} (h1 : SqL K H a (ns.map V.int)) (h2 : SqL K H b (ns.map V.int)) (k : Q (.bl true) H) : rEqD K (.ref a) (.ref b) H Q := by
  refine ⟨_, _, .lst h1 (dpAll_ints ns), .lst h2 (dpAll_ints ns), (sh_ints ns).1, (sh_ints ns).1, ?_⟩
  rw [SeqAt.eqv_refl _ (sh_ints ns).2]
  exact k
def wts (L : Env) : List Int := L.map (·.2.2)
theorem wts_of {L : Env} : weightsOf L = (wts L).map V.int := by
  unfold weightsOf wts
  rw [List.map_map]
  rfl
theorem wts_step {L : Env} {t : Thing} : wts (envStep L t) = wts L ++ [wOf t.2.1 t.2.2 L] := by
  unfold wts envStep
  rw [List.map_append]
  rfl
theorem at_last {xs : List V} {v : V} : atI (xs ++ [v]) (-1) = some v := by
  unfold atI ixN
  rw [if_neg (by decide), if_pos (by simp only [List.length_append, List.length_cons, List.length_nil]; omega)]
  have : ((-1 : Int) + ((xs ++ [v]).length : Int)).toNat = xs.length := by simp only [List.length_append, List.length_cons, List.length_nil]; omega
  rw [this]
  simp
theorem cut_init {xs : List V} {v : V} : cutV (xs ++ [v]) none (some (-1)) = xs := by
  unfold cutV
  have e1 : HT.sIx (xs ++ [v]).length 0 none = 0 := rfl
  have e2 : HT.sIx (xs ++ [v]).length (xs ++ [v]).length (some (-1)) = xs.length := by
    unfold HT.sIx
    dsimp only
    rw [if_pos (by decide)]
    simp only [List.length_append, List.length_cons, List.length_nil]
    omega
  rw [e1, e2]
  simp
theorem rws_split {K : PySem.W.Frag} {H : Hp} : ∀ (ts' : List Thing) {us : List V} {t : Thing}, Rws K H us (ts' ++ [t]) → ∃ us' v, us = us' ++ [v] ∧ Rws K H us' ts'
  | [], us, t, h => by
    unfold Rws at h
    cases h with
    | cons h1 h2 =>
      cases h2
      exact ⟨[], _, rfl, .nil⟩
  | a :: r, us, t, h => by
    unfold Rws at h
    cases h with
    | cons h1 h2 =>
      obtain ⟨us', v, e, q⟩ := rws_split r h2
      exact ⟨_ :: us', v, by rw [e]; rfl, .cons h1 q⟩
theorem rws_init {K : PySem.W.Frag} {H : Hp} {us : List V} {ts : List Thing} (h : Rws K H us ts) (hl : 1 ≤ ts.length) : ∃ us' v ts' t, us = us' ++ [v] ∧ ts = ts' ++ [t] ∧ Rws K H us' ts' := by
  have ne : ts ≠ [] := fun z => by rw [z] at hl; simp at hl
  have e := (List.dropLast_concat_getLast ne).symm
  rw [e] at h
  obtain ⟨us', v, e', q⟩ := rws_split _ h
  exact ⟨us', v, _, _, e', e, q⟩
theorem r_bmz {K : PySem.W.Frag} {T : String} {r : V → List V → Hp → VK → Prop} {to : TE} {σ : St} {H : Hp} {Q : VK} (q : to σ H fun x H1 => tyV K T x H1 ∧ r x [] H1 Q) : tBM0 K T r to σ H Q := q
theorem r_noPart {σ : St} {H : Hp} {Q : Option Int → Hp → Prop} (q : Q none H) : L2.tNoPart σ H Q := q
end Mb
namespace Mb
open PySem PySem.Spec PyProof.Rows L2
/-! ### Base.__init__(self, ..) where Base has a def of its own -/
structure BoI (K : PySem.W.Frag) (B fB : Addr) : Prop where
  ga : PySem.W.specialIn K (.ref B) "__getattribute__" = some (some (.builtin "type.__getattribute__"))
  rd : PySem.W.readsIn K B (.type "type") = true
  fc : PySem.W.findCls K (.ref B) (.type "type") "__init__" = some (.val (.ref fB))
  ty : PySem.W.typeIn K (.ref fB) = some (.type "function")
  kp : PySem.W.keepIn K (.ref fB) = true
/-- Base.__init__ as its callers take it -/
structure KnB (P : Program) (w : World) (K : PySem.W.Frag) (mg : Str → Option Value) (base : Heap) (k : Nat) (x : Str) (ps : List Str) (sp : Sp) : Prop where
  ex : ∃ B fB fd, FnOk P w K mg base CX0 k fB fd ps sp ∧ BoI K B fB ∧ mg x = some (.ref B) ∧ Binds K fd ps []
section
variable {X : Cx} {e : Expr} {es : List Expr} {ta : TA} {x : Str} {p p1 p2 pos : Pos} {k : Nat} {ps : List Str} {sp : Sp}
theorem pe_own {pl : Sem Bool} (G : KnB X.prog X.w X.K X.mg X.base k x ps sp) (hr : Room k X.A) (hg : Gl X x) (ha : PA X (e :: es) ta) (hdb : (x == ("__debug__" : Str)) = false := by decide)
    (hc : eval (.Call (.Attribute (.Name x p1) "__init__" p2) (e :: es) [] pos) X.env = (do
        let ov ← eval (.Name x p1) X.env
        standAt p2.atName
        let (f, first) ← holding [ov] (getMethod ov "__init__" pl)
        callWith pos f first (backTo pos (starEach (e :: es) X.env)) (backToKw pos (keywordEach [] X.env))) := by rfl)
    (he : starEach (e :: es) X.env = (false, eval e X.env) :: starEach es X.env := by rfl) (hpl : (backTo pos (starEach es X.env)).any (·.1) = false := by rfl) :
    PE X (.Call (.Attribute (.Name x p1) "__init__" p2) (e :: es) [] pos) (tCall sp [] E0 ta) := by
  obtain ⟨B, fB, fd, F, T, hm, hb⟩ := G.ex
  constructor
  intro pins s σ H Q I h
  refine PySem.W.methodCall_KW (ld_glob I hg hm ?_ hdb) hc
  refine PySem.W.method_cls I.kIn T.ga (PySem.W.cls_value I.kIn T.rd T.fc rfl ?_)
  show wpAny _ _ (callWith pos (Value.ref fB) [] (backTo pos (starEach (e :: es) X.env)) []) _ _ _
  refine PySem.W.callWith_K (h₀ := X.base) I.ok.mod.kin T.kp (thn (ha.run pos pins _ σ H _ (I.tok _) h) fun us s1 ⟨vs, H1, I1, r, q⟩ => ⟨I1.kIn, ?_⟩) he hpl
  exact run_fn F hr hb .nil pass0 I1 r q
/-- C() raised, C's own __init__ keeping sp -/
theorem pmk_mk0 {C : Addr} (M : MkC X.prog X.w X.K X.mg X.base k x C sp) (hr : Room (k + 1) X.A) (hg : Gl X x) (hdb : (x == ("__debug__" : Str)) = false := by decide) :
    PMk X (.Call (.Name x p) [] [] pos) (tMkO C sp [] tNil) := by
  obtain ⟨fI, fd, ps, T, iC, tI, F1, hb, hm⟩ := M.ex
  intro pins s σ H Q I h
  obtain ⟨nm, q, N, bs, bm, sn, sub, ab, col, dd, k0, k1, k2, k3, k5, hC, hbm⟩ := T.cls
  refine wpAny_Call_Name_kw (ld_glob I hg hm ?_ hdb)
  refine PySem.W.callWith_K0 I.kIn T.kC ?_
  obtain ⟨hz, q1⟩ := h
  have I1 := I
  obtain ⟨hp, g, dr, tk, os⟩ := s
  have hsz : hp.objs.size ≤ hp.objs.size + 1 := Nat.le_succ _
  have hn : H (hp.objs.size + 1) = none := I1.hok.fresh hsz
  have hq := q1 (hp.objs.size + 1) hn
  have kk : ∀ b o, hp.get? b = some o → ((hp.push (PySem.W.kdv_tup [])).push (PySem.HandSPX.excO C hp.objs.size)).get? b = some o := fun b o e => Heap.get?_push_of_some _ (Heap.get?_push_of_some _ e)
  have hget : ((hp.push (PySem.W.kdv_tup [])).push (PySem.HandSPX.excO C hp.objs.size)).get? (hp.objs.size + 1) = some (PySem.HandSPX.excO C hp.objs.size) := by heap_get
  have I2 : Inv X pins σ (upd H (hp.objs.size + 1) (exo (hp.objs.size + 1) C none)) ⟨(hp.push (PySem.W.kdv_tup [])).push (PySem.HandSPX.excO C hp.objs.size), g, dr, tk, os⟩ :=
    I1.laid (t' := tk) (a := hp.objs.size + 1) (o := exo (hp.objs.size + 1) C none) (h' := (hp.push (PySem.W.kdv_tup [])).push (PySem.HandSPX.excO C hp.objs.size)) kk hsz (exo_ok hget)
  have r2 : Vals [V.ref (hp.objs.size + 1)] [Value.ref (hp.objs.size + 1)] := .cons rfl .nil
  have hl : ([Value.ref (hp.objs.size + 1)] ++ ([] : List Value)).length = ps.length := F1.len _ _ _ _ hq
  refine wpAny_call (PySem.HandSPX.call_own F.excBase_ValueError (fun Y => PySem.HandSPX.refsVE_contains Y bm hbm) (I1.kIn _ _ hC) (PySem.W.looks_findIn I1.kIn iC) (fun self => PySem.W.bind_fn I1.kIn self tI) (Nat.zero_le _)
    (codeAny_mono (F1.run _ X.stack _ _ ⟨[Value.ref (hp.objs.size + 1)], []⟩ [Value.ref (hp.objs.size + 1)] _ _ (fun _ _ _ => False) (hr.make C [] []) (I2.env0.make C [] []) (hb _ [Value.ref (hp.objs.size + 1)] I2.kIn hl) r2 hq) fun r s' hq' => ?_))
  cases r with
  | error er => exact False.elim hq'
  | ok fl =>
    cases fl with
    | ret u =>
      obtain ⟨v, H2, os2, bare2, un2, hok2, rv, ev, d, fs, ea, ed, hd1, q2⟩ := hq'
      subst ev
      obtain ⟨h2, g2, d2, t2, os'⟩ := s'
      exact ⟨rv, mk_end (raises_own T.exC T.tyC) I1 hsz kk un2 hok2 os2 bare2 ea ed hd1 q2⟩
    | next => exact False.elim hq'
    | brk => exact False.elim hq'
    | cont => exact False.elim hq'
theorem pmk_mk {C : Addr} (M : MkC X.prog X.w X.K X.mg X.base k x C sp) (hr : Room (k + 1) X.A) (hg : Gl X x) (ha : PA X (e :: es) ta)
    (hdb : (x == ("__debug__" : Str)) = false := by decide) (he : starEach (e :: es) X.env = (false, eval e X.env) :: starEach es X.env := by rfl) (hpl : (backTo pos (starEach es X.env)).any (·.1) = false := by rfl) :
    PMk X (.Call (.Name x p) (e :: es) [] pos) (tMkO C sp [] ta) := by
  obtain ⟨fI, fd, ps, T, iC, tI, F1, hb, hm⟩ := M.ex
  exact pmk_oex T iC tI F1 hr hb .nil pass0 hg hm ha hdb he hpl
end
/-- isinstance(e, c) of a caught error with fields -/
def rIsED (K : PySem.W.Frag) (D a : Addr) (d : Option Addr) : List V → Hp → VK → Prop := fun xs H Q => ∃ (c : V) (cv : Value) (b : Bool) (dd : Addr) (fs : List (Str × V)), xs = [.ref a, c] ∧ (∀ u, RelV c u → u = cv) ∧ PySem.W.kitOne K (.ref D) cv = some b ∧ d = some dd ∧ H dd = some (.xd fs) ∧ Q (.bl b) H
theorem call_isED {X : Cx} {a D : Addr} {d : Option Addr} {oe : Obj} {pn : List (Addr × Obj)} (C : ExcC X.K D) (hz : Zc (.ref D) d oe) (hf : ∃ vs, oe.data = .fields vs) : CallR (X.suite a ((a, oe) :: pn)) (.builtin "isinstance") (rIsED X.K D a d) := by
  intro pins s σ H xs us Q I r h
  obtain ⟨c, cv, b, dd, fs, rfl, hcv, e, rfl, ea, q⟩ := h
  cases r with
  | cons rx rr =>
    cases rr with
    | cons rt rr =>
      cases rr
      cases rx
      have ec := hcv _ rt
      subst ec
      obtain ⟨hget, _⟩ := I.pin (a, oe) (List.mem_append.mpr (.inl List.mem_cons_self))
      obtain ⟨vs, hv⟩ := hf
      have hx : ObjOk X.prog X.w H s.heap dd (.xd fs) := I.hok dd _ ea
      obtain ⟨mA, hns, hr⟩ := hx
      obtain ⟨od, ho, hl⟩ := lookIn_ns hns
      have J : PySem.W.InstAt s.heap a oe D (some od) := ⟨hget, hz.1, by unfold PySem.W.notCls; rw [hv] <;> rfl, by rw [hz.2]; exact ho⟩
      have hcl : (PySem.W.clsIn X.K D).isSome = true := by
        obtain ⟨cd, hc, _⟩ := PySem.W.any_some C.hd
        rw [hc]
        rfl
      exact PySem.W.kia_one (PySem.W.kitx_exc hcl C.hg C.hk C.hs C.ha C.hn C.ht C.hm) I.kIn J e (fun z => nomatch z) fun tk => ⟨.bl b, H, I.kept (t' := tk) fun _ _ z => z, rfl, q⟩
theorem call_isEC {X : Cx} {a D : Addr} {cls : Value} {d : Option Addr} {oe : Obj} {pn : List (Addr × Obj)} (C : ExcC X.K D) (hp : cls = .ref D) (hz : Zc cls d oe) (hf : ∃ vs, oe.data = .fields vs) : CallR (X.suite a ((a, oe) :: pn)) (.builtin "isinstance") (rIsED X.K D a d) := by
  subst hp
  exact call_isED C hz hf
/-! ### the base's __init__(self, message, words) -/
structure FnB (K : PySem.W.Frag) (mg : Str → Option Value) (x qual : Str) (st : Stmt) : Prop where
  ex : ∃ B fB fd u v, FunD K "__init__" qual (defArgs st) (defBody st) (defScope st) [u, v] [] fB fd ∧ BoI K B fB ∧ mg x = some (.ref B)
theorem FnB.made {P : Program} {w : World} {K : PySem.W.Frag} {mg : Str → Option Value} {base : Heap} {k : Nat} {x qual : Str} {st : Stmt} {N ps : List Str} {sp : Sp} (F : FnB K mg x qual st) (S : FnScope N ps (defScope st)) (len : ∀ vs H Q E, sp vs H Q E → vs.length = ps.length)
    (hbody : ∀ (f : Addr) (cdv : Value) (A : Around) (outer : List PySem.Env) (s : Shared) (H : Hp) (vs : List V) (Q : VK) (E : XK), Room k (A.deeper (PyProof.Rows.envOfC qual (defScope st) s.heap.objs.size f cdv)) → sp vs H Q E →
      ∃ t, PSs (cxOf CX0 P w K mg base N qual (defScope st) f cdv A outer s H E).nox (defBody st) t ∧ t { nx := fun _ H' => Q .non H', rt := Q } (start N vs) H)
    (h3 : ps.length = 3) (hb : ∀ (T : Addr) (kV doc pm : Value) (an : Option Addr) (cdv ct : Value) (us its : List Value), us.length = 3 → its.length = 2 →
      ∃ k, bindArgs (PySem.W.fnOf "__init__" qual (defArgs st) (defBody st) (defScope st) (.ref T) kV doc pm an cdv ct) ⟨us, []⟩ = seqItems? (.ref T) >>= k ∧ k (some its.toArray) = pure (ps.zip (us ++ its.drop 2))) :
    KnB P w K mg base (k + 1) x ps sp := by
  obtain ⟨B, fB, fd, u, v, F, T, m⟩ := F.ex
  obtain ⟨ds, r, b⟩ := F.binds1 (ps := ps) 3 2 (by simp) (by simp [h3]) hb
  have : ds = [] := by
    have := r.length
    simp at this
    exact List.eq_nil_of_length_eq_zero this.symm
  subst this
  refine ⟨B, fB, fd, F.ok S len fun cdv A outer s H vs Q E hr h => ?_, T, m, b⟩
  obtain ⟨t, p, q⟩ := hbody fB cdv A outer s H vs Q E hr h
  exact ⟨t, p.nox, q⟩
def spBook (K : PySem.W.Frag) : Sp := fun vs H Q _ => ∃ (a C wd : Addr) (m : Str), vs = [.ref a, .str m, .ref wd] ∧ H a = some (exo a C none) ∧ OexC K C ∧ PySem.W.findIn K (.ref C) "words" = some none ∧
  ∀ (dx : Addr) (H' : Hp), H dx = none → dx ≠ a → But a H H' → H' a = some (exo a C (some dx)) → H' dx = some (exd dx [("words", .ref wd)]) → Q .non H'
/-- an __init__(self) without a value of its own -/
def spInit0 (C : Addr) : Sp := fun vs H Q _ => ∃ a : Addr, vs = [.ref a] ∧ H a = some (exo a C none) ∧ ∀ (dx : Addr) (fs : List (Str × V)) (H' : Hp), H dx = none → dx ≠ a → But a H H' → H' a = some (exo a C (some dx)) → H' dx = some (exd dx fs) → Q .non H'
/-- the facts of the base in the head -/
def boB (K : PySem.W.Frag) (x : Str) : Bool := He.eqO (PySem.W.specialIn K (.ref (He.ga K x)) "__getattribute__") (some (some (.builtin "type.__getattribute__"))) && (PySem.W.readsIn K (He.ga K x) (.type "type") && (match PySem.W.findCls K (.ref (He.ga K x)) (.type "type") "__init__" with
    | some (.val a) => decide (a = .ref (He.ma K (He.ga K x) "__init__")) && (decide (PySem.W.typeIn K (.ref (He.ma K (He.ga K x) "__init__")) = some (.type "function")) && PySem.W.keepIn K (.ref (He.ma K (He.ga K x) "__init__")))
    | _ => false))
theorem boB_ok {K : PySem.W.Frag} {x : Str} (h : boB K x = true) : BoI K (He.ga K x) (He.ma K (He.ga K x) "__init__") := by
  obtain ⟨h1, h⟩ := He.ba h
  obtain ⟨h2, h3⟩ := He.ba h
  split at h3
  · rename_i a e
    obtain ⟨a1, h3⟩ := He.ba h3
    obtain ⟨a5, a6⟩ := He.ba h3
    rw [of_decide_eq_true a1] at e
    exact ⟨He.eqO_ok h1, h2, e, of_decide_eq_true a5, a6⟩
  · cases h3
def veB (K : PySem.W.Frag) : Bool := match PySem.W.findCls K (.type "ValueError") (.type "type") "__init__" with
    | some (.val v) => decide (v = .builtin "ValueError.__init__")
    | _ => false
theorem veB_ok {K : PySem.W.Frag} (h : veB K = true) : PySem.W.findCls K (.type "ValueError") (.type "type") "__init__" = some (.val (.builtin "ValueError.__init__")) := by
  unfold veB at h
  split at h
  · rename_i v e
    rw [e, of_decide_eq_true h]
  · cases h
/-! ### promises of defs that may raise an error with fields: C is its class -/
def spFracD (C : Addr) : Sp := fun vs H Q E => ∃ t b : Int, vs = [.int t, .int b] ∧ Sm 8000 b ∧ (b = 0 → ∀ (d : Addr) (fs : List (Str × V)) (H' : Hp), Same H H' → H' d = some (.xd fs) → E (.ref C) (some d) H') ∧
  (b ≠ 0 → ∀ (p : Addr) (H' : Hp), Same H H' → H p = none → H' p = some (.tup [.int (lowT t b), .int (lowB t b)]) → Q (.ref p) H')
def spOverD (K : PySem.W.Frag) (C : Addr) : Sp := fun vs H Q E => ∃ (a b : Addr) (x y u v : Int), vs = [.ref a, .ref b] ∧ SqT K H a [.int x, .int y] ∧ SqT K H b [.int u, .int v] ∧ Sm 2000 x ∧ Sm 2000 y ∧ Sm 2000 u ∧ Sm 2000 v ∧
  (y * u = 0 → ∀ (d : Addr) (fs : List (Str × V)) (H' : Hp), Same H H' → H' d = some (.xd fs) → E (.ref C) (some d) H') ∧ (y * u ≠ 0 → ∀ (p : Addr) (H' : Hp), Same H H' → H p = none → H' p = some (.tup [.int (lowT (x * v) (y * u)), .int (lowB (x * v) (y * u))]) → Q (.ref p) H')
/-- what a raised error leaves: the heap as it was, and its fields -/
theorem same_raised {H H' : Hp} {a dx : Addr} {o : HO} {fs : List (Str × V)} (na : H a = none) (nd : H dx = none) (b : But a (upd H a o) H') : Same H (upd (del H' a) dx (.xd fs)) := fun x u hx => by
  have n1 : x ≠ a := ne_of_none hx na
  have n2 : x ≠ dx := ne_of_none hx nd
  rw [upd_ne n2, del_ne n1]
  exact b x u n1 (by rw [upd_ne n1]; exact hx)
theorem r_mk0 {C : Addr} {σ : L2.St} {H : Hp} {Q : XK} (q : ∀ (d : Addr) (fs : List (Str × V)) (H' : Hp), Same H H' → H' d = some (.xd fs) → Q (.ref C) (some d) H') : tMkO C (spInit0 C) [] tNil σ H Q := by
  refine ⟨by simp, fun a na => ⟨a, rfl, upd_same, fun dx fs H' nd ne bt e1 e2 => ?_⟩⟩
  have nd' : H dx = none := by rw [upd_ne ne] at nd; exact nd
  exact ⟨rfl, dx, fs, e1, e2, nd', q dx fs _ (same_raised na nd' bt) upd_same⟩
def ownOexB (K : PySem.W.Frag) (C : Addr) : Bool := (match K.lookup C with
    | some ⟨.type "type", _, .cls cd, sl⟩ => (match cd.mro, sl.toList with
        | .ref D :: bm, [_, _, _, _, some (.builtin n), _] => decide (D = C) && (decide (n = "ValueError.__new__") && ((!cd.hasDel) && (cd.hasDict && PySem.HandSPX.refsVE bm)))
        | _, _ => false)
    | _ => false) && (He.eqO (PySem.W.findIn K (.ref C) "__setattr__") (some (some (.builtin "object.__setattr__"))) && (eqV (PySem.W.subIn K (.ref C) (.type "BaseException")) (some true) && (decide (PySem.W.typeIn K (.ref C) = some (.type "type")) && PySem.W.keepIn K (.ref C))))
theorem ownOexB_ok {K : PySem.W.Frag} {C : Addr} (h : ownOexB K C = true) : OexC K C := by
  obtain ⟨h0, h⟩ := He.ba h
  obtain ⟨h1, h⟩ := He.ba h
  obtain ⟨h2, h⟩ := He.ba h
  obtain ⟨h3, h4⟩ := He.ba h
  refine ⟨?_, He.eqO_ok h1, of_decide_eq_true h2, of_decide_eq_true h3, h4⟩
  split at h0
  · rename_i dd cd sl ho
    split at h0
    · rename_i D bm k0 k1 k2 k3 n k5 hm hs
      obtain ⟨a1, a⟩ := He.ba h0
      obtain ⟨a2, a⟩ := He.ba a
      obtain ⟨a3, a⟩ := He.ba a
      obtain ⟨a4, a5⟩ := He.ba a
      have e1 := of_decide_eq_true a1
      have e2 := of_decide_eq_true a2
      have e3 : cd.hasDel = false := by simpa using a3
      obtain ⟨x1, x2, x3, x4, x5, x6, x7, x8, x9, x10, x11⟩ := cd
      obtain ⟨l⟩ := sl
      dsimp only at hm hs e3 a4
      subst e1 e2 e3 a4 hm hs
      exact ⟨_, _, _, _, _, _, _, _, _, _, _, _, _, _, _, ho, a5⟩
    · cases h0
  · cases h0
/-! ### refusals as values -/
def spInitD (C : Addr) (f : Str) (ok : V → Prop) : Sp := fun vs H Q _ => ∃ (a : Addr) (v : V), vs = [.ref a, v] ∧ ok v ∧ H a = some (exo a C none) ∧ ∀ (wd : Addr) (H' : Hp), But a H H' → Er H' a C [(f, v), ("words", .ref wd)] → Q .non H'
def spInitLD (K : PySem.W.Frag) (C : Addr) (f : Str) : Sp := fun vs H Q _ => ∃ (a h : Addr) (zs : List V), vs = [.ref a, .ref h] ∧ SqL K H h zs ∧ zs.length ≤ 100 ∧ H a = some (exo a C none) ∧ ∀ (wd l : Addr) (H' : Hp), But a H H' → H l = none → l ≠ a → H' l = some (.lst zs) → Er H' a C [(f, .ref l), ("words", .ref wd)] → Q .non H'
def spMadeD (c : Nat → Addr) : Sp := fun vs H Q _ => ∃ (w : Nat) (z : Str), vs = [.int w, .str z] ∧ w < 14 ∧ z.length ≤ 1000 ∧ ∀ (a wd : Addr) (H' : Hp), Same H H' → Er H' a (c w) [("name", .str z), ("words", .ref wd)] → Q (.ref a) H'
theorem exo_lst {a C : Addr} {d : Option Addr} {xs : List V} : ¬ (exo a C d = .lst xs) := fun z => by unfold exo at z; cases z
theorem exo_frz {a C : Addr} {d : Option Addr} {o : Obj} {u : HO} : ¬ (exo a C d = .frz o u) := fun z => by unfold exo at z; cases z
theorem but_updR' {p D : Addr} {H H' : Hp} {o : HO} (h : But p H H') (n : H D = none) : But p H (upd H' D o) := fun b o' ne hb => by
  have : b ≠ D := fun z => by rw [z, n] at hb; cases hb
  rw [upd_ne this]
  exact h b o' ne hb
section
variable {X : Cx} {x : Str} {p pos : Pos} {k : Nat} {sp : Sp}
/-- C() as a value, C's own __init__ keeping sp -/
theorem pe_mkv0 {C : Addr} (M : MkC X.prog X.w X.K X.mg X.base k x C sp) (hr : Room (k + 1) X.A) (hg : Gl X x) (hdb : (x == ("__debug__" : Str)) = false := by decide) :
    PE X (.Call (.Name x p) [] [] pos) (tMkV C sp tNil) := by
  obtain ⟨fI, fd, ps, T, iC, tI, F1, hb, hm⟩ := M.ex
  constructor
  intro pins s σ H Q I h
  obtain ⟨nm, q, N, bs, bm, sn, sub, ab, col, dd, k0, k1, k2, k3, k5, hC, hbm⟩ := T.cls
  refine wpAny_Call_Name_kw (ld_glob I hg hm ?_ hdb)
  refine PySem.W.callWith_K0 I.kIn T.kC ?_
  obtain ⟨hz, q1⟩ := h
  have I1 := I
  obtain ⟨hp, g, dr, tk, os⟩ := s
  have hn : H (hp.objs.size + 1) = none := I1.hok.fresh (Nat.le_succ _)
  have hq := q1 (hp.objs.size + 1) hn
  generalize hh : (hp.push (PySem.W.kdv_tup [])).push (PySem.HandSPX.excO C hp.objs.size) = h2
  have kk : ∀ b o, hp.get? b = some o → h2.get? b = some o := fun b o z => by
    subst hh
    exact Heap.get?_push_of_some _ (Heap.get?_push_of_some _ z)
  have hget : h2.get? (hp.objs.size + 1) = some (PySem.HandSPX.excO C hp.objs.size) := by
    subst hh
    heap_get
  have I2 : Inv X pins σ (upd H (hp.objs.size + 1) (exo (hp.objs.size + 1) C none)) ⟨h2, g, dr, tk, os⟩ := I1.laid (t' := tk) (a := hp.objs.size + 1) (h' := h2) kk (Nat.le_succ _) (exo_ok hget)
  have r2 : Vals [V.ref (hp.objs.size + 1)] [Value.ref (hp.objs.size + 1)] := .cons rfl .nil
  have hl : ([Value.ref (hp.objs.size + 1)] ++ ([] : List Value)).length = ps.length := F1.len _ _ _ _ hq
  have bt := hb ⟨h2, g, dr, tk, os⟩ [Value.ref (hp.objs.size + 1)] I2.kIn hl
  have run := F1.run (X.A.under (.builtin "type.__call__" ⟨.ref C :: [], []⟩)) X.stack ⟨h2, g, dr, tk, os⟩ _ ⟨[Value.ref (hp.objs.size + 1)], []⟩ _ _ _ _ (hr.make C [] []) (I2.env0.make C [] []) bt r2 hq
  rw [← hh] at run
  refine wpAny_call (PySem.HandSPX.call_own F.excBase_ValueError (fun Y => PySem.HandSPX.refsVE_contains Y bm hbm) (I1.kIn _ _ hC) (PySem.W.looks_findIn I1.kIn iC) (fun self => PySem.W.bind_fn I1.kIn self tI) (Nat.zero_le _) (codeAny_mono run ?_))
  intro r s2 z
  cases r with
  | error er => exact False.elim z
  | ok fl =>
    cases fl with
    | ret u =>
      obtain ⟨v, H2, os2, bare2, un2, hok2, rv, ev, q2⟩ := z
      subst ev
      rw [hh] at un2
      exact ⟨rv, .ref (hp.objs.size + 1), H2, I2.call' (ch := []) os2 un2 hok2 bare2 (fun b y => absurd y (by simp)), rfl, q2⟩
    | next => exact False.elim z
    | brk => exact False.elim z
    | cont => exact False.elim z
end
end Mb
namespace Mb
open PySem L2
/-! ### names out of a row -/
theorem lc_things {K : PySem.W.Frag} {i j : Nat} {tt : TT} {te : TE} {σ : St} {Q : VK} {l : Addr} {us : List V} {ts : List Thing} {H : Hp} (keep : Thing → Bool) (val : Thing → V) (hl : SqL K H l us) (rw_ : Rws K H us ts) (few : us.length ≤ 1000)
    (hσ : ∀ u v, wipe (((wipe σ [i, j]).set i (some u)).set j (some v)) [i, j] = wipe σ [i, j])
    (stT : ∀ (n : Nat) (t : Thing) (m : Addr) (H' : Hp), ts[n]? = some t → Same H H' → Mk K H' m t.2.1 t.2.2 → ∀ R : Bool → Hp → Prop, (∀ H4, Same H' H4 → R (keep t) H4) → tt (((wipe σ [i, j]).set i (some (.str t.1))).set j (some (.ref m))) H' R)
    (stE : ∀ (n : Nat) (t : Thing) (m : Addr) (H' : Hp), ts[n]? = some t → Same H H' → Mk K H' m t.2.1 t.2.2 → ∀ R : VK, (∀ H4, Same H' H4 → R (val t) H4) → te (((wipe σ [i, j]).set i (some (.str t.1))).set j (some (.ref m))) H' R)
    (fin : ∀ (D : Addr) (H' : Hp), Same H H' → H D = none → H' D = some (.lst ((ts.filter keep).map val)) → Q (.ref D) H') : lcL K (gTup K 2 (gCons (gName i) (gCons (gName j) gNil))) tt te [i, j] σ Q (.ref l) H := by
  refine ⟨l, rfl, ⟨_, hl⟩, fun D hD => ?_⟩
  have ln := rw_.len
  refine lc_list (xs := us) (fun n H' => Same H H' ∧ H' D = some (.lst (((ts.take n).filter keep).map val))) ⟨same_new hD _, by rw [List.take_zero]; exact upd_same⟩ (fun n H' _ h => h.1.seq hl) ?_ ?_
  · rintro n v H' hv ⟨g, d⟩
    obtain ⟨t, ht, a, m, rfl, ta, mk⟩ := rw_.at hv
    have hi : n < ts.length := (List.getElem?_eq_some_iff.mp ht).1
    have e1 : ts.take (n + 1) = ts.take n ++ [t] := by rw [List.take_succ, ht, Option.toList_some]
    refine r_gT (g.tp ta) rfl ?_
    refine r_g2 ?_
    refine ⟨hσ _ _, ?_⟩
    refine stT n t m H' ht g (mk.kp (Kp.same g)) _ fun H3 g3 => ?_
    cases hk : keep t with
    | false =>
      rw [if_neg (by simp)]
      refine ⟨g.trans g3, ?_⟩
      rw [e1, List.filter_append, List.filter_cons, hk]
      simpa using g3 _ _ d
    | true =>
      rw [if_pos rfl]
      refine stE n t m H3 ht (g.trans g3) ((mk.kp (Kp.same g)).kp (Kp.same g3)) _ fun H4 g4 => ?_
      refine ⟨_, g4 _ _ (g3 _ _ d), ?_, same_updS ((g.trans g3).trans g4) hD, ?_⟩
      · rw [List.length_map]
        have := List.length_filter_le keep (ts.take n)
        rw [List.length_take] at this
        exact Nat.lt_of_le_of_lt this (Nat.lt_of_lt_of_le (show min n ts.length < 1001 by omega) (by decide))
      · rw [e1, List.filter_append, List.map_append, List.filter_cons, hk]
        simp only [if_true, List.filter_nil, List.map_cons, List.map_nil]
        exact upd_same
  · rintro H' ⟨g, d⟩
    rw [ln, List.take_length] at d
    exact fin D H' g hD d
def nmsT (ts : List Thing) : List Str := ts.map (·.1)
/-- a name that the row has: nothing; else NoThing with it -/
def spMissing (K : PySem.W.Frag) (C : Addr) : Sp := fun vs H Q E => ∃ (l : Addr) (z : Str) (us : List V) (ts : List Thing), vs = [.ref l, .str z] ∧ SqL K H l us ∧ Rws K H us ts ∧ ts.length ≤ 60 ∧ z.length ≤ 1000 ∧
  (z ∈ nmsT ts → ∀ H', Same H H' → Q .non H') ∧ (z ∉ nmsT ts → ∀ (d : Addr) (fs : List (Str × V)) (H' : Hp), Same H H' → H' d = some (.xd fs) → fs.lookup ("name" : Str) = some (V.str z) → E (.ref C) (some d) H')
/-- __init__(self, v) as a raiser takes it -/
def spInitR (C : Addr) (f : Str) (ok : V → Prop) : Sp := fun vs H Q _ => ∃ (a : Addr) (v : V), vs = [.ref a, v] ∧ ok v ∧ H a = some (exo a C none) ∧ ∀ (wd dx : Addr) (H' : Hp), H dx = none → dx ≠ a → But a H H' → H' a = some (exo a C (some dx)) → H' dx = some (exd dx [(f, v), ("words", .ref wd)]) → Q .non H'
theorem r_notIn {K : PySem.W.Frag} {H : Hp} {Q : VK} {a : Addr} {z : Str} {zs : List Str} (h : SqL K H a (zs.map V.str)) (q : Q (.bl (!decide (z ∈ zs))) H) : rIn K true (.str z) (.ref a) H Q :=
  ⟨a, _, rfl, .inl h, rfl, by rw [List.all_map]; exact List.all_eq_true.mpr (fun _ _ => rfl), by rw [inV_str]; exact q⟩
theorem r_mkO {C : Addr} {sp : Sp} {ta : TA} {σ : St} {H : Hp} {Q : XK} (q : ta σ H fun vs H1 => vs.length ≤ 1000 ∧ ∀ a, H1 a = none → sp (.ref a :: (vs ++ [])) (upd H1 a (exo a C none)) (fun v H2 => v = .non ∧ ∃ (d : Addr) (fs : List (Str × V)), H2 a = some (exo a C (some d)) ∧ H2 d = some (exd d fs) ∧ H1 d = none ∧ Q (.ref C) (some d) (upd (del H2 a) d (.xd fs))) (fun _ _ _ => False)) : tMkO C sp [] ta σ H Q := q
/-! ### a dict as a set of names -/
def setD (F : List Str) : List (Key × V) := F.map fun k => (.inr k, .bl true)
def addF (F : List Str) (g : Str) : List Str := if g ∈ F then F else F ++ [g]
theorem any_set {F : List Str} {g : Str} : ((setD F).any fun kv => decide (kv.1 = (.inr g : Key))) = decide (g ∈ F) := by
  unfold setD
  rw [List.any_map]
  induction F with
  | nil => rfl
  | cons a r ih =>
    rw [List.any_cons, ih]
    by_cases h : a = g
    · subst h; simp
    · have h1 : ¬ ((.inr a : Key) = .inr g) := fun e => h (Sum.inr.inj e)
      have h2 : ¬ g = a := fun e => h e.symm
      simp [h1, h2]
theorem put_set {F : List Str} {g : Str} : putK (setD F) (.inr g) (.bl true) = setD (addF F g) := by
  unfold putK addF
  rw [any_set]
  by_cases h : g ∈ F
  · rw [if_pos (by simpa using h), if_pos h]
    unfold setD
    rw [List.map_map]
    refine List.map_congr_left fun k _ => ?_
    show (if (.inr k : Key) = .inr g then ((.inr k : Key), V.bl true) else (.inr k, .bl true)) = _
    split <;> rfl
  · rw [if_neg (by simpa using h), if_neg h]
    unfold setD
    rw [List.map_append]
    rfl
theorem get_set {H : Hp} {D : Addr} {F : List Str} {z : Str} (h : H D = some (.dK (setD F))) : ∃ o, DGet H D (.str z) o ∧ o.isSome = decide (z ∈ F) := by
  refine ⟨_, DGet.k (k := .inr z) h, ?_⟩
  rw [← valV_any, any_set]
theorem addF_len {F : List Str} {g : Str} : (addF F g).length ≤ F.length + 1 := by
  unfold addF
  split
  · omega
  · simp
theorem addsF_len : ∀ (ns F : List Str), (ns.foldl addF F).length ≤ F.length + ns.length
  | [], _ => Nat.le_refl _
  | n :: r, F => by
    have h1 := addsF_len r (addF F n)
    have h2 := addF_len (F := F) (g := n)
    simp only [List.foldl_cons, List.length_cons]
    omega
def stepF (F : List Str) (t : Thing) : List Str := if t.1 ∈ F then t.2.2.foldl addF F else F
/-- the name and all that it hangs on, found from the row's end -/
def closeF (z : Str) (ts : List Thing) : List Str := ts.reverse.foldl stepF [z]
def keepB (z : Str) (F : List Str) (t : Thing) : Bool := decide (t.1 ∈ F) && !decide (t.1 = z)
def benOf (z : Str) (ts : List Thing) : List Str := (ts.filter (keepB z (closeF z ts))).map (·.1)
def spBeneath (K : PySem.W.Frag) (C : Addr) : Sp := fun vs H Q E => ∃ (l : Addr) (z : Str) (us : List V) (ts : List Thing), vs = [.ref l, .str z] ∧ SqL K H l us ∧ Rws K H us ts ∧ Vr [] ts ∧ ts.length ≤ 60 ∧ z.length ≤ 1000 ∧
  (z ∈ nmsT ts → ∀ (D : Addr) (H' : Hp), Same H H' → H D = none → H' D = some (.lst ((benOf z ts).map V.str)) → Q (.ref D) H') ∧ (z ∉ nmsT ts → ∀ (d : Addr) (fs : List (Str × V)) (H' : Hp), Same H H' → H' d = some (.xd fs) → fs.lookup ("name" : Str) = some (V.str z) → E (.ref C) (some d) H')
theorem Vr.okm {ts : List Thing} {i : Nat} {t : Thing} (h : Vr [] ts) (hi : ts[i]? = some t) : ∃ (s : Str) (g : List Str), (t.2.1, s, g) ∈ wordsTab ∧ t.2.2.length = g.length := (h.at hi).2.2.1.1
theorem four {x s : Str} {g : List Str} (h : (x, s, g) ∈ wordsTab) : g.length ≤ 4 := by
  have all : ∀ q ∈ wordsTab, q.2.2.length ≤ 4 := by decide +kernel
  exact all _ h
theorem r_din {ty td : TE} {σ : St} {H : Hp} {Q : VK} (q : ty σ H fun y H1 => td σ H1 fun x H2 => ∃ a o, x = .ref a ∧ DGet H2 a y o ∧ Q (.bl o.isSome) H2) : tDIn ty td σ H Q := q
theorem step_in {F : List Str} {t : Thing} (h : t.1 ∈ F) : stepF F t = t.2.2.foldl addF F := if_pos h
theorem step_out {F : List Str} {t : Thing} (h : t.1 ∉ F) : stepF F t = F := if_neg h
/-- things made anew as pairs -/
theorem lc_made {K : PySem.W.Frag} {i j : Nat} {tt : TT} {te : TE} {σ : St} {Q : VK} {l : Addr} {us : List V} {ts : List Thing} {H : Hp} (keep : Thing → Bool) (hl : SqL K H l us) (rw_ : Rws K H us ts) (few : us.length ≤ 1000)
    (hσ : ∀ u v, wipe (((wipe σ [i, j]).set i (some u)).set j (some v)) [i, j] = wipe σ [i, j])
    (stT : ∀ (n : Nat) (t : Thing) (m : Addr) (H' : Hp), ts[n]? = some t → Same H H' → Mk K H' m t.2.1 t.2.2 → ∀ R : Bool → Hp → Prop, (∀ H4, Same H' H4 → R (keep t) H4) → tt (((wipe σ [i, j]).set i (some (.str t.1))).set j (some (.ref m))) H' R)
    (stE : ∀ (n : Nat) (t : Thing) (m : Addr) (H' : Hp), ts[n]? = some t → Same H H' → Mk K H' m t.2.1 t.2.2 → ∀ R : VK, (∀ a H4, Same H' H4 → SqT K H4 a [.str t.1, .ref m] → R (.ref a) H4) → te (((wipe σ [i, j]).set i (some (.str t.1))).set j (some (.ref m))) H' R)
    (fin : ∀ (D : Addr) (vs : List V) (H' : Hp), Same H H' → H D = none → H' D = some (.lst vs) → Rws K H' vs (ts.filter keep) → Q (.ref D) H') : lcL K (gTup K 2 (gCons (gName i) (gCons (gName j) gNil))) tt te [i, j] σ Q (.ref l) H := by
  refine ⟨l, rfl, ⟨_, hl⟩, fun D hD => ?_⟩
  have ln := rw_.len
  refine lc_list (xs := us) (fun n H' => ∃ vs : List V, Same H H' ∧ H' D = some (.lst vs) ∧ Rws K H' vs ((ts.take n).filter keep)) ⟨[], same_new hD _, upd_same, by rw [List.take_zero]; exact .nil⟩ (fun n H' _ h => by obtain ⟨_, h, _⟩ := h; exact h.seq hl) ?_ ?_
  · rintro n v H' hv ⟨vs, g, d, rv⟩
    obtain ⟨t, ht, a, m, rfl, ta, mk⟩ := rw_.at hv
    have hi : n < ts.length := (List.getElem?_eq_some_iff.mp ht).1
    have e1 : ts.take (n + 1) = ts.take n ++ [t] := by rw [List.take_succ, ht, Option.toList_some]
    have lv := rv.len
    refine r_gT (g.tp ta) rfl ?_
    refine r_g2 ?_
    refine ⟨hσ _ _, ?_⟩
    replace mk := mk.kp (Kp.same g)
    refine stT n t m H' ht g mk _ fun H3 g3 => ?_
    cases hk : keep t with
    | false =>
      rw [if_neg (by simp)]
      refine ⟨vs, g.trans g3, g3 _ _ d, ?_⟩
      rw [e1, List.filter_append, List.filter_cons, hk]
      simpa using rv.kp (Kp.same g3)
    | true =>
      rw [if_pos rfl]
      replace mk := mk.kp (Kp.same g3)
      refine stE n t m H3 ht (g.trans g3) mk _ fun b H4 g4 tb => ?_
      have d4 := g4 _ _ (g3 _ _ d)
      have kp : Kp K H4 (upd H4 D (.lst (vs ++ [.ref b]))) := kp_list d4
      refine ⟨_, d4, ?_, vs ++ [.ref b], same_updS ((g.trans g3).trans g4) hD, upd_same, ?_⟩
      · have := List.length_filter_le keep (ts.take n)
        rw [List.length_take] at this
        exact Nat.lt_of_le_of_lt (show vs.length ≤ 1000 by omega) (by decide)
      · rw [e1, List.filter_append, List.filter_cons, hk]
        simp only [if_true, List.filter_nil]
        exact rws_snoc (((rv.kp (Kp.same g3)).kp (Kp.same g4)).kp kp) ⟨b, m, rfl, kp _ _ tb, (mk.kp (Kp.same g4)).kp kp⟩
  · rintro H' ⟨vs, g, d, rv⟩
    rw [ln, List.take_length] at rv
    exact fin D vs H' g hD d rv
def freeB (t : Thing) : Bool := decide (t.2.1 = "free")
def spFrees (K : PySem.W.Frag) : Sp := fun vs H Q _ => ∃ (l : Addr) (us : List V) (ts : List Thing), vs = [.ref l] ∧ SqL K H l us ∧ Rws K H us ts ∧ us.length ≤ 1000 ∧ ∀ (D : Addr) (H' : Hp), Same H H' → H D = none → H' D = some (.lst (((ts.filter freeB).map (·.1)).map V.str)) → Q (.ref D) H'
/-- the name and what it hangs on, as a row -/
def rootB (z : Str) (ts : List Thing) (t : Thing) : Bool := decide (t.1 ∈ benOf z ts ++ [z])
def spRooted (K : PySem.W.Frag) (C : Addr) : Sp := fun vs H Q E => ∃ (l : Addr) (z : Str) (us : List V) (ts : List Thing), vs = [.ref l, .str z] ∧ SqL K H l us ∧ Rws K H us ts ∧ Vr [] ts ∧ ts.length ≤ 60 ∧ z.length ≤ 1000 ∧
  (z ∈ nmsT ts → ∀ (D : Addr) (vs : List V) (H' : Hp), Same H H' → H D = none → H' D = some (.lst vs) → Rws K H' vs (ts.filter (rootB z ts)) → Q (.ref D) H') ∧ (z ∉ nmsT ts → ∀ (d : Addr) (fs : List (Str × V)) (H' : Hp), Same H H' → H' d = some (.xd fs) → fs.lookup ("name" : Str) = some (V.str z) → E (.ref C) (some d) H')
def freeOf (z : Str) (ts : List Thing) : List Str := ((ts.filter (rootB z ts)).filter freeB).map (·.1)
def spFreePoints (K : PySem.W.Frag) (C : Addr) : Sp := fun vs H Q E => ∃ (l : Addr) (z : Str) (us : List V) (ts : List Thing), vs = [.ref l, .str z] ∧ SqL K H l us ∧ Rws K H us ts ∧ Vr [] ts ∧ ts.length ≤ 60 ∧ z.length ≤ 1000 ∧
  (z ∈ nmsT ts → ∀ (D : Addr) (H' : Hp), Same H H' → H D = none → H' D = some (.lst ((freeOf z ts).map V.str)) → Q (.ref D) H') ∧ (z ∉ nmsT ts → ∀ (d : Addr) (fs : List (Str × V)) (H' : Hp), Same H H' → H' d = some (.xd fs) → fs.lookup ("name" : Str) = some (V.str z) → E (.ref C) (some d) H')
theorem r_in2 {K : PySem.W.Frag} {H : Hp} {Q : VK} {a : Addr} {z : Str} {zs : List Str} (h : SqL K H a (zs.map V.str)) (q : Q (.bl (decide (z ∈ zs))) H) : rIn K false (.str z) (.ref a) H Q := r_inSL h q
/-! ### the law's own part of a row: taken at its time, from the row's end -/
def takeF : List Str → List Thing → List Thing
  | _, [] => []
  | F, t :: r => if t.1 ∈ F then t :: takeF (t.2.2.foldl addF F) r else takeF F r
theorem takeF_snoc : ∀ (a : List Thing) (F : List Str) (t : Thing), takeF F (a ++ [t]) = takeF F a ++ (if t.1 ∈ a.foldl stepF F then [t] else [])
  | [], F, t => by
    show takeF F [t] = [] ++ _
    unfold takeF
    by_cases h : t.1 ∈ F
    · rw [if_pos h, if_pos (show t.1 ∈ [].foldl stepF F from h)]
      rfl
    · rw [if_neg h, if_neg (show ¬ t.1 ∈ [].foldl stepF F from h)]
      rfl
  | u :: r, F, t => by
    rw [List.cons_append]
    unfold takeF
    rw [List.foldl_cons]
    by_cases h : u.1 ∈ F
    · rw [if_pos h, if_pos h, takeF_snoc r, step_in h]
      rfl
    · rw [if_neg h, if_neg h, takeF_snoc r, step_out h]
theorem takeF_len : ∀ (a : List Thing) (F : List Str), (takeF F a).length ≤ a.length
  | [], _ => by simp [takeF]
  | u :: r, F => by
    unfold takeF
    have h1 := takeF_len r (u.2.2.foldl addF F)
    have h2 := takeF_len r F
    split
    · simp only [List.length_cons]; omega
    · simp only [List.length_cons]; omega
theorem rws_rev {K : PySem.W.Frag} {H : Hp} : ∀ {us : List V} {ts : List Thing}, Rws K H us ts → Rws K H us.reverse ts.reverse
  | _, _, .nil => .nil
  | _, _, .cons h r => by
    rw [List.reverse_cons, List.reverse_cons]
    exact rws_snoc (rws_rev r) h
def partOf (z : Str) (ts : List Thing) : List Thing := (takeF [z] ts.reverse).reverse
def spPart (K : PySem.W.Frag) : Sp := fun vs H Q _ => ∃ (l : Addr) (z : Str) (us : List V) (ts : List Thing), vs = [.ref l, .str z] ∧ SqL K H l us ∧ Rws K H us ts ∧ Vr [] ts ∧ ts.length ≤ 60 ∧ ∀ (D : Addr) (vs : List V) (H' : Hp), Same H H' → H D = none → H' D = some (.lst vs) → Rws K H' vs (partOf z ts) → Q (.ref D) H'
theorem r_revL {K : PySem.W.Frag} {te : TE} {σ : St} {H : Hp} {Q : VK} (q : te σ H fun x H1 => ∃ a xs, x = .ref a ∧ SqL K H1 a xs ∧ ∀ p, H1 p = none → Q (.ref p) (upd H1 p (.lst xs.reverse))) : tRevL K te σ H Q := q
end Mb
namespace Mb
open PySem L2
/-! ### the part of a row by both ways -/
theorem mem_addF {F : List Str} {g n : Str} : n ∈ addF F g ↔ n ∈ F ∨ n = g := by
  unfold addF
  split
  · rename_i h
    constructor
    · exact .inl
    · rintro (h' | rfl)
      · exact h'
      · exact h
  · rw [List.mem_append, List.mem_singleton]
theorem mem_addsF : ∀ {ns F : List Str} {n : Str}, n ∈ ns.foldl addF F ↔ n ∈ F ∨ n ∈ ns
  | [], F, n => by simp
  | g :: r, F, n => by
    rw [List.foldl_cons, mem_addsF, mem_addF, List.mem_cons, or_assoc]
theorem mem_stepF {F : List Str} {t : Thing} {n : Str} : n ∈ stepF F t ↔ n ∈ F ∨ (t.1 ∈ F ∧ n ∈ t.2.2) := by
  unfold stepF
  split
  · rename_i h
    rw [mem_addsF]
    simp [h]
  · rename_i h
    simp [h]
/-- nothing further on hangs on it -/
theorem mem_foldF : ∀ {r : List Thing} {F : List Str} {n : Str}, (∀ u ∈ r, n ∉ u.2.2) → (n ∈ r.foldl stepF F ↔ n ∈ F)
  | [], _, _, _ => Iff.rfl
  | t :: r, F, n, h => by
    rw [List.foldl_cons, mem_foldF (fun u hu => h u (List.mem_cons_of_mem _ hu)), mem_stepF]
    have := h t List.mem_cons_self
    simp [this]
def Rv : List Thing → Prop
  | [] => True
  | t :: r => (t.1 ∉ t.2.2 ∧ ∀ u ∈ r, t.1 ∉ u.2.2) ∧ Rv r
theorem takeF_filter : ∀ {r : List Thing} {F : List Str}, Rv r → takeF F r = r.filter fun t => decide (t.1 ∈ r.foldl stepF F)
  | [], _, _ => rfl
  | t :: r, F, ⟨⟨h1, h2⟩, h3⟩ => by
    rw [List.filter_cons, List.foldl_cons]
    have e1 : t.1 ∈ r.foldl stepF (stepF F t) ↔ t.1 ∈ F := by
      rw [mem_foldF h2, mem_stepF]
      simp [h1]
    unfold takeF
    by_cases h : t.1 ∈ F
    · rw [if_pos h, if_pos (decide_eq_true (e1.mpr h)), takeF_filter h3, step_in h]
    · rw [if_neg h, if_neg (by simpa using fun z => h (e1.mp z)), takeF_filter h3, step_out h]
theorem nms_env : ∀ (ts : List Thing) (L : Env), nmsE (envOf L ts) = nmsE L ++ nmsT ts
  | [], L => by simp [envOf, nmsT]
  | t :: r, L => by
    show nmsE (envOf (envStep L t) r) = _
    rw [nms_env r, nms_step]
    unfold nmsT
    simp
theorem nms_env0 {ts : List Thing} : nmsE (envOf [] ts) = nmsT ts := by rw [nms_env]; rfl
theorem Vr.gr : ∀ {ts : List Thing} {L : Env}, Vr L ts → ∀ u ∈ ts, ∀ g ∈ u.2.2, g ∈ nmsE (envOf L ts)
  | t :: r, L, ⟨h1, h2⟩, u, hu, g, hg => by
    rcases List.mem_cons.mp hu with rfl | hu
    · show g ∈ nmsE (envOf (envStep L u) r)
      rw [nms_env, nms_step]
      exact List.mem_append_left _ (List.mem_append_left _ (h1.2.2.1.2 g hg).1)
    · exact Vr.gr h2 u hu g hg
theorem Rv_of : ∀ {n : Nat} {ts : List Thing}, ts.length = n → Vr [] ts → Rv ts.reverse
  | 0, ts, hn, _ => by
    rw [List.eq_nil_of_length_eq_zero hn]
    exact trivial
  | n + 1, ts, hn, h => by
    have hne : ts ≠ [] := fun e => by rw [e] at hn; cases hn
    have e := List.dropLast_concat_getLast hne
    generalize ts.dropLast = a at e
    generalize ts.getLast hne = t at e
    subst e
    rw [List.reverse_append]
    obtain ⟨h1, h2⟩ := Vr.split _ _ _ h
    obtain ⟨⟨h3, _, h5, _⟩, _⟩ := h2
    refine ⟨⟨fun z => h3 (h5.2 _ z).1, fun u hu z => ?_⟩, Rv_of (n := n) (by simpa using hn) h1⟩
    exact h3 (Vr.gr h1 u (List.mem_reverse.mp hu) _ z)
theorem mem_foldl_self : ∀ {r : List Thing} {F : List Str} {n : Str}, n ∈ F → n ∈ r.foldl stepF F
  | [], _, _, h => h
  | t :: r, F, n, h => by
    rw [List.foldl_cons]
    exact mem_foldl_self (mem_stepF.mpr (.inl h))
theorem part_root {z : Str} {ts : List Thing} (h : Vr [] ts) : partOf z ts = ts.filter (rootB z ts) := by
  unfold partOf
  rw [takeF_filter (Rv_of rfl h), ← List.filter_reverse, List.reverse_reverse]
  refine List.filter_congr fun t ht => ?_
  unfold rootB
  rw [decide_eq_decide, List.mem_append, List.mem_singleton]
  show t.1 ∈ closeF z ts ↔ _
  have hz : z ∈ closeF z ts := mem_foldl_self List.mem_cons_self
  constructor
  · intro hc
    by_cases e : t.1 = z
    · exact .inr e
    · refine .inl (List.mem_map.mpr ⟨t, List.mem_filter.mpr ⟨ht, ?_⟩, rfl⟩)
      unfold keepB
      simp [hc, e]
  · rintro (hb | e)
    · obtain ⟨u, hu, e⟩ := List.mem_map.mp hb
      have := (List.mem_filter.mp hu).2
      unfold keepB at this
      simp only [Bool.and_eq_true, decide_eq_true_eq] at this
      rw [← e]
      exact this.1
    · rw [e]
      exact hz
/-- an unknown name is refused by its name -/
def spUnknown (K : PySem.W.Frag) : Sp := fun vs H Q _ => ∃ (l : Addr) (z : Str) (us : List V) (ts : List Thing), vs = [.ref l, .str z] ∧ SqL K H l us ∧ Rws K H us ts ∧ Vr [] ts ∧ ts.length ≤ 60 ∧ z.length ≤ 1000 ∧ z ∉ nmsT ts ∧ ∀ H', Same H H' → Q (.bl true) H'
theorem Vr.sok {ts : List Thing} (h : Vr [] ts) : ∀ z ∈ nmsT ts, Sok z := fun z hz => by
  obtain ⟨t, ht, rfl⟩ := List.mem_map.mp hz
  obtain ⟨i, hi⟩ := List.getElem?_of_mem ht
  exact (h.at hi).2.1
theorem Vr.noQ {ts : List Thing} (h : Vr [] ts) : ("Q" : Str) ∉ nmsT ts := fun hz => not_Q (h.sok _ hz).1.2 rfl
theorem r_neStrs {K : PySem.W.Frag} {H : Hp} {Q : VK} {a b : Addr} {ns : List Str} (h1 : SqL K H a (ns.map V.str)) (h2 : SqL K H b (ns.map V.str)) (ok : ∀ z ∈ ns, PyData.strOk z = true) (k : Q (.bl false) H) : rNeD K (.ref a) (.ref b) H Q := by
  obtain ⟨l1, l2⟩ := lay_strs ns ok
  have e1 : PyData.canLay0 (.list (ns.map PyData.str)) = true := by unfold PyData.canLay0; exact l1
  have sh : SeqAt.shaped (.list (ns.map PyData.str)) = true := by
    have e2 : PyData.depth (.list (ns.map PyData.str)) ≤ 64 := by unfold PyData.depth; omega
    unfold SeqAt.shaped
    rw [e1, decide_eq_true e2]
    rfl
  refine ⟨_, _, dp_strs h1, dp_strs h2, sh, sh, ?_⟩
  rw [SeqAt.eqv_refl _ e1]
  exact k
theorem free_mem {z : Str} {ts : List Thing} : ∀ x ∈ freeOf z ts, x ∈ nmsT ts := fun x hx => by
  unfold freeOf at hx
  obtain ⟨t, ht, rfl⟩ := List.mem_map.mp hx
  exact List.mem_map.mpr ⟨t, (List.mem_filter.mp (List.mem_filter.mp ht).1).1, rfl⟩
end Mb
namespace Mb
open PySem L2
theorem r_xf {a : Addr} {cls : Value} {d : Option Addr} {C : Addr} {f : Str} {te : TE} {σ : St} {H : Hp} {Q : VK} (q : te σ H fun x H1 => x = .ref a ∧ cls = .ref C ∧ ∃ (dd : Addr) (fs : List (Str × V)) (v : V), d = some dd ∧ H1 dd = some (.xd fs) ∧ fs.lookup f = some v ∧ Q v H1) : tXf a cls d C f te σ H Q := q
end Mb
namespace Mb
open PySem L2
theorem cutV_map {ns : List Str} {lo hi : Option Int} : ∃ zs : List Str, cutV (ns.map V.str) lo hi = zs.map V.str ∧ (∀ z ∈ zs, z ∈ ns) ∧ zs.length ≤ ns.length := by
  refine ⟨(ns.drop (HT.sIx (ns.map V.str).length 0 lo)).take (HT.sIx (ns.map V.str).length (ns.map V.str).length hi - HT.sIx (ns.map V.str).length 0 lo), ?_, fun z hz => List.mem_of_mem_drop (List.mem_of_mem_take hz), ?_⟩
  · unfold cutV
    rw [List.map_take, List.map_drop]
  · rw [List.length_take, List.length_drop]
    omega
theorem one60 {m : Int} {r : Int} (h0 : 0 ≤ m) (h1 : m < 14) : ∃ n : Nat, atI [V.int (1 + m), .int 60] (if decide (r = 0) = true then 1 else 0) = some (.int (n : Int)) ∧ 1 ≤ n ∧ n ≤ 60 ∧ (r = 0 → n = 60) := by
  by_cases c : r = 0
  · rw [if_pos (decide_eq_true c)]
    exact ⟨60, rfl, by decide, by decide, fun _ => rfl⟩
  · rw [if_neg (by simpa using c)]
    obtain ⟨n, hn⟩ : ∃ n : Nat, 1 + m = (n : Int) := ⟨(1 + m).toNat, by omega⟩
    refine ⟨n, by rw [hn]; rfl, by omega, by omega, fun h => absurd h c⟩
end Mb
namespace Mb
open PySem L2
/-! ### what hangs on what -/
inductive Hg (ts : List Thing) : Str → Str → Prop
  | dir {t : Thing} {g : Str} : t ∈ ts → g ∈ t.2.2 → Hg ts t.1 g
  | far {t : Thing} {g x : Str} : t ∈ ts → g ∈ t.2.2 → Hg ts g x → Hg ts t.1 x
theorem Hg.trans {ts : List Thing} {a b c : Str} (h : Hg ts a b) (k : Hg ts b c) : Hg ts a c := by
  induction h with
  | dir h1 h2 => exact .far h1 h2 k
  | far h1 h2 _ ih => exact .far h1 h2 (ih k)
theorem Vr.ahead {ts : List Thing} (vr : Vr [] ts) {i : Nat} {t : Thing} (hi : ts[i]? = some t) : t.1 ∉ nmsT (ts.take i) ∧ ∀ g ∈ t.2.2, g ∈ nmsT (ts.take i) := by
  obtain ⟨h1, _, h3, _⟩ := vr.at hi
  rw [nms_env0] at h1
  refine ⟨h1, fun g hg => ?_⟩
  have := (h3.2 g hg).1
  rw [nms_env0] at this
  exact this
theorem mem_take_of {ts : List Thing} {i j : Nat} {t : Thing} (h : ts[i]? = some t) (l : i < j) : t ∈ ts.take j :=
  List.mem_of_getElem? (i := i) (by rw [List.getElem?_take_of_lt l]; exact h)
theorem uniq {ts : List Thing} (vr : Vr [] ts) {t u : Thing} (ht : t ∈ ts) (hu : u ∈ ts) (e : t.1 = u.1) : t = u := by
  obtain ⟨i, hi⟩ := List.getElem?_of_mem ht
  obtain ⟨j, hj⟩ := List.getElem?_of_mem hu
  rcases Nat.lt_trichotomy i j with l | l | l
  · exact absurd (List.mem_map.mpr ⟨t, mem_take_of hi l, e⟩) (vr.ahead hj).1
  · subst l
    rw [hi] at hj
    exact Option.some.inj hj
  · exact absurd (List.mem_map.mpr ⟨u, mem_take_of hj l, e.symm⟩) (vr.ahead hi).1
theorem Hg.inv {ts : List Thing} (vr : Vr [] ts) {t : Thing} (ht : t ∈ ts) {x : Str} : Hg ts t.1 x ↔ ∃ g ∈ t.2.2, g = x ∨ Hg ts g x := by
  constructor
  · intro h
    generalize e : t.1 = a at h
    cases h with
    | dir h1 h2 =>
      have := uniq vr ht h1 e
      subst this
      exact ⟨_, h2, .inl rfl⟩
    | far h1 h2 h3 =>
      have := uniq vr ht h1 e
      subst this
      exact ⟨_, h2, .inr h3⟩
  · rintro ⟨g, hg, rfl | h⟩
    · exact .dir ht hg
    · exact .far ht hg h
theorem take_in {ts : List Thing} {i j : Nat} (l : i ≤ j) {n : Str} (h : n ∈ nmsT (ts.take i)) : n ∈ nmsT (ts.take j) := by
  obtain ⟨v, hv, rfl⟩ := List.mem_map.mp h
  refine List.mem_map.mpr ⟨v, ?_, rfl⟩
  have e : ts.take i = (ts.take j).take i := by rw [List.take_take, Nat.min_eq_left l]
  rw [e] at hv
  exact List.mem_of_mem_take hv
theorem early {ts : List Thing} (vr : Vr [] ts) (i : Nat) : ∀ (t : Thing) (x : Str), ts[i]? = some t → Hg ts t.1 x → x ∈ nmsT (ts.take i) := by
  induction i using Nat.strongRecOn with
  | _ i ih =>
    intro t x hi h
    obtain ⟨g, hg, e⟩ := (Hg.inv vr (List.mem_of_getElem? hi)).mp h
    have hgm := (vr.ahead hi).2 g hg
    rcases e with rfl | h
    · exact hgm
    · obtain ⟨u, hu, rfl⟩ := List.mem_map.mp hgm
      obtain ⟨j, hj⟩ := List.getElem?_of_mem hu
      have hji : j < i := by
        have := (List.getElem?_eq_some_iff.mp hj).1
        rw [List.length_take] at this
        omega
      rw [List.getElem?_take_of_lt hji] at hj
      exact take_in (Nat.le_of_lt hji) (ih j hji u x hj h)
theorem noself {ts : List Thing} (vr : Vr [] ts) {n : Str} (hn : n ∈ nmsT ts) : ¬ Hg ts n n := fun h => by
  obtain ⟨t, ht, rfl⟩ := List.mem_map.mp hn
  obtain ⟨i, hi⟩ := List.getElem?_of_mem ht
  exact (vr.ahead hi).1 (early vr i t _ hi h)
/-! beneath -/
theorem closed : ∀ {r : List Thing} {F : List Str}, Rv r → ∀ t ∈ r, t.1 ∈ r.foldl stepF F → ∀ g ∈ t.2.2, g ∈ r.foldl stepF F
  | u :: r, F, ⟨⟨h1, h2⟩, h3⟩, t, ht, hm, g, hg => by
    rw [List.foldl_cons] at hm ⊢
    rcases List.mem_cons.mp ht with rfl | ht
    · have := (mem_foldF h2).mp hm
      rcases mem_stepF.mp this with h | ⟨h, h'⟩
      · exact mem_foldl_self (mem_stepF.mpr (.inr ⟨h, hg⟩))
      · exact absurd h' h1
    · exact closed h3 t ht hm g hg
theorem sound {ts : List Thing} {z : Str} : ∀ (r : List Thing) (F : List Str), (∀ t ∈ r, t ∈ ts) → (∀ n ∈ F, n = z ∨ Hg ts z n) → ∀ n ∈ r.foldl stepF F, n = z ∨ Hg ts z n
  | [], F, _, h => h
  | t :: r, F, hr, h => by
    rw [List.foldl_cons]
    refine sound r _ (fun u hu => hr u (List.mem_cons_of_mem _ hu)) fun n hn => ?_
    rcases mem_stepF.mp hn with hn | ⟨h1, h2⟩
    · exact h n hn
    · have ht := hr t List.mem_cons_self
      rcases h _ h1 with e | e
      · exact .inr (e ▸ .dir ht h2)
      · exact .inr (e.trans (.dir ht h2))
theorem close_iff {ts : List Thing} (vr : Vr [] ts) {z n : Str} : n ∈ closeF z ts ↔ n = z ∨ Hg ts z n := by
  have hz : z ∈ closeF z ts := mem_foldl_self List.mem_cons_self
  constructor
  · exact sound ts.reverse [z] (fun t h => List.mem_reverse.mp h) (fun n hn => .inl (List.mem_singleton.mp hn)) n
  · rintro (rfl | h)
    · exact hz
    · have key : ∀ a b, Hg ts a b → a ∈ closeF z ts → b ∈ closeF z ts := by
        intro a b h
        induction h with
        | dir h1 h2 => exact fun h => closed (Rv_of rfl vr) _ (List.mem_reverse.mpr h1) h _ h2
        | far h1 h2 _ ih => exact fun h => ih (closed (Rv_of rfl vr) _ (List.mem_reverse.mpr h1) h _ h2)
      exact key _ _ h hz
/-! the law's own sets of what lies under each -/
abbrev Und : Type := List (Str × List Str)
def getU (M : Und) (g : Str) : List Str := ((M.find? fun m => decide (m.1 = g)).map (·.2)).getD []
def addU (M : Und) (F : List Str) (g : Str) : List Str := (getU M g).foldl addF (addF F g)
def undStep (M : Und) (t : Thing) : Und := M ++ [(t.1, t.2.2.foldl (addU M) [])]
def undOf (ts : List Thing) : Und := ts.foldl undStep []
theorem mem_addU {M : Und} : ∀ {ns F : List Str} {x : Str}, x ∈ ns.foldl (addU M) F ↔ x ∈ F ∨ ∃ g ∈ ns, g = x ∨ x ∈ getU M g
  | [], F, x => by simp
  | g :: r, F, x => by
    rw [List.foldl_cons, mem_addU]
    unfold addU
    rw [mem_addsF, mem_addF]
    simp only [List.mem_cons, exists_eq_or_imp]
    constructor
    · rintro ((h | h) | h)
      · exact h.elim .inl fun e => .inr (.inl (.inl e.symm))
      · exact .inr (.inl (.inr h))
      · exact .inr (.inr h)
    · rintro (h | (h | h) | h)
      · exact .inl (.inl (.inl h))
      · exact .inl (.inl (.inr h.symm))
      · exact .inl (.inr h)
      · exact .inr h
theorem getU_in {M : Und} {g : Str} (h : g ∈ M.map (·.1)) : ∃ m ∈ M, m.1 = g ∧ getU M g = m.2 ∧ M.find? (fun m => decide (m.1 = g)) = some m := by
  unfold getU
  cases e : M.find? fun m => decide (m.1 = g) with
  | none =>
    obtain ⟨m, hm, rfl⟩ := List.mem_map.mp h
    have := List.find?_eq_none.mp e m hm
    simp at this
  | some m => exact ⟨m, List.mem_of_find?_eq_some e, by simpa using List.find?_some e, rfl, rfl⟩
theorem und_take {ts : List Thing} (vr : Vr [] ts) : ∀ k, k ≤ ts.length → (undOf (ts.take k)).map (·.1) = nmsT (ts.take k) ∧ ∀ m ∈ undOf (ts.take k), ∀ x, x ∈ m.2 ↔ Hg ts m.1 x
  | 0, _ => by
    rw [List.take_zero]
    exact ⟨rfl, fun m hm => by cases hm⟩
  | k + 1, hk => by
    obtain ⟨h1, h2⟩ := und_take vr k (by omega)
    have hi : ts[k]? = some ts[k] := List.getElem?_eq_getElem (by omega)
    generalize ts[k] = t at hi
    have e1 : ts.take (k + 1) = ts.take k ++ [t] := by rw [List.take_succ, hi, Option.toList_some]
    have e2 : undOf (ts.take (k + 1)) = undStep (undOf (ts.take k)) t := by
      unfold undOf
      rw [e1, List.foldl_append]
      rfl
    rw [e2]
    unfold undStep
    refine ⟨?_, fun m hm x => ?_⟩
    · rw [List.map_append, h1, e1]
      unfold nmsT
      rw [List.map_append]
      rfl
    · rcases List.mem_append.mp hm with hm | hm
      · exact h2 m hm x
      · rw [List.mem_singleton.mp hm]
        show x ∈ t.2.2.foldl _ [] ↔ Hg ts t.1 x
        rw [mem_addU, Hg.inv vr (List.mem_of_getElem? hi)]
        simp only [List.not_mem_nil, false_or]
        constructor
        · rintro ⟨g, hg, h⟩
          refine ⟨g, hg, h.imp id fun h => ?_⟩
          obtain ⟨m, hm, e, e', _⟩ := getU_in (M := undOf (ts.take k)) (by rw [h1]; exact (vr.ahead hi).2 g hg)
          rw [e'] at h
          rw [← e]
          exact (h2 m hm x).mp h
        · rintro ⟨g, hg, h⟩
          refine ⟨g, hg, h.imp id fun h => ?_⟩
          obtain ⟨m, hm, e, e', _⟩ := getU_in (M := undOf (ts.take k)) (by rw [h1]; exact (vr.ahead hi).2 g hg)
          rw [e']
          rw [← e] at h
          exact (h2 m hm x).mpr h
theorem und_iff {ts : List Thing} (vr : Vr [] ts) {n x : Str} (hn : n ∈ nmsT ts) : x ∈ getU (undOf ts) n ↔ Hg ts n x := by
  obtain ⟨h1, h2⟩ := und_take vr ts.length (Nat.le_refl _)
  rw [List.take_length] at h1 h2
  obtain ⟨m, hm, e, e', _⟩ := getU_in (M := undOf ts) (g := n) (by rw [h1]; exact hn)
  rw [e', ← e]
  exact h2 m hm x
/-! above -/
def upB (zs F : List Str) (t : Thing) : Bool := decide (t.1 ∈ zs) || t.2.2.any fun g => decide (g ∈ F)
def upStep (zs F : List Str) (t : Thing) : List Str := if upB zs F t = true then addF F t.1 else F
def upF (zs : List Str) (ts : List Thing) : List Str := ts.foldl (upStep zs) []
def abvOf (z : Str) (ts : List Thing) : List Str := (upF [z] ts).filter fun n => !decide (n = z)
theorem up_take {ts : List Thing} (vr : Vr [] ts) {z : Str} (p : Str → Bool) (hp : ∀ n, p n = true ↔ n = z ∨ Hg ts n z) : ∀ k, k ≤ ts.length → upF [z] (ts.take k) = (nmsT (ts.take k)).filter p
  | 0, _ => by
    rw [List.take_zero]
    rfl
  | k + 1, hk => by
    have ih := up_take vr p hp k (by omega)
    have hi : ts[k]? = some ts[k] := List.getElem?_eq_getElem (by omega)
    generalize ts[k] = t at hi
    have e1 : ts.take (k + 1) = ts.take k ++ [t] := by rw [List.take_succ, hi, Option.toList_some]
    have e2 : upF [z] (ts.take (k + 1)) = upStep [z] (upF [z] (ts.take k)) t := by
      unfold upF
      rw [e1, List.foldl_append]
      rfl
    have e3 : nmsT (ts.take (k + 1)) = nmsT (ts.take k) ++ [t.1] := by
      unfold nmsT
      rw [e1, List.map_append]
      rfl
    have hb : upB [z] (upF [z] (ts.take k)) t = p t.1 := by
      rw [Bool.eq_iff_iff, hp, Hg.inv vr (List.mem_of_getElem? hi)]
      unfold upB
      simp only [Bool.or_eq_true, decide_eq_true_eq, List.mem_singleton, List.any_eq_true]
      refine or_congr Iff.rfl ⟨?_, ?_⟩
      · rintro ⟨g, hg, h⟩
        rw [ih, List.mem_filter, hp] at h
        exact ⟨g, hg, h.2⟩
      · rintro ⟨g, hg, h⟩
        refine ⟨g, hg, ?_⟩
        rw [ih, List.mem_filter, hp]
        exact ⟨(vr.ahead hi).2 g hg, h⟩
    rw [e2, e3, List.filter_append]
    unfold upStep
    rw [hb, List.filter_cons]
    cases p t.1 with
    | false =>
      rw [if_neg (by simp), if_neg (by simp), ih]
      simp
    | true =>
      rw [if_pos rfl, if_pos rfl, ih]
      unfold addF
      rw [if_neg (fun h => (vr.ahead hi).1 (List.mem_filter.mp h).1)]
      simp
def lowOf (z : Str) (ts : List Thing) : List Str := (nmsT ts).filter fun n => decide (n ∈ getU (undOf ts) z)
def highOf (z : Str) (ts : List Thing) : List Str := (nmsT ts).filter fun n => decide (z ∈ getU (undOf ts) n)
theorem lowOf_eq {ts : List Thing} (vr : Vr [] ts) {z : Str} (hz : z ∈ nmsT ts) : lowOf z ts = benOf z ts := by
  unfold lowOf benOf nmsT
  rw [List.filter_map]
  refine congrArg _ (List.filter_congr fun t ht => ?_)
  show decide (t.1 ∈ getU (undOf ts) z) = keepB z (closeF z ts) t
  unfold keepB
  rw [Bool.eq_iff_iff]
  simp only [Bool.and_eq_true, decide_eq_true_eq, Bool.not_eq_true', decide_eq_false_iff_not]
  rw [und_iff vr hz, close_iff vr]
  constructor
  · intro h
    exact ⟨.inr h, fun e => noself vr hz (by rw [e] at h; exact h)⟩
  · rintro ⟨h | h, e⟩
    · exact absurd h e
    · exact h
theorem highOf_eq {ts : List Thing} (vr : Vr [] ts) {z : Str} (hz : z ∈ nmsT ts) : highOf z ts = abvOf z ts := by
  unfold highOf abvOf
  have h := up_take vr (z := z) (fun n => decide (n = z) || decide (z ∈ getU (undOf ts) n) && decide (n ∈ nmsT ts)) (fun n => ?_) ts.length (Nat.le_refl _)
  · rw [List.take_length] at h
    rw [h, List.filter_filter]
    refine List.filter_congr fun n hn => ?_
    rw [Bool.eq_iff_iff]
    simp only [Bool.and_eq_true, Bool.or_eq_true, decide_eq_true_eq, Bool.not_eq_true', decide_eq_false_iff_not]
    constructor
    · intro h
      exact ⟨fun e => noself vr hz (by rw [und_iff vr hn, e] at h; exact h), .inr ⟨h, hn⟩⟩
    · rintro ⟨e, h | h⟩
      · exact absurd h e
      · exact h.1
  · simp only [Bool.or_eq_true, Bool.and_eq_true, decide_eq_true_eq]
    refine or_congr Iff.rfl ⟨fun h => (und_iff vr h.2).mp h.1, fun h => ?_⟩
    have hn : n ∈ nmsT ts := by
      cases h with
      | dir h1 _ => exact List.mem_map.mpr ⟨_, h1, rfl⟩
      | far h1 _ _ => exact List.mem_map.mpr ⟨_, h1, rfl⟩
    exact ⟨(und_iff vr hn).mpr h, hn⟩
def spWithAbove (K : PySem.W.Frag) : Sp := fun vs H Q _ => ∃ (l nl : Addr) (zs : List Str) (us : List V) (ts : List Thing), vs = [.ref l, .ref nl] ∧ SqL K H l us ∧ SqL K H nl (zs.map V.str) ∧ Rws K H us ts ∧ Vr [] ts ∧ ts.length ≤ 60 ∧
  ∀ (D : Addr) (H' : Hp), Same H H' → H D = none → H' D = some (.lst ((upF zs ts).map V.str)) → Q (.ref D) H'
def spAbove (K : PySem.W.Frag) (C : Addr) : Sp := fun vs H Q E => ∃ (l : Addr) (z : Str) (us : List V) (ts : List Thing), vs = [.ref l, .str z] ∧ SqL K H l us ∧ Rws K H us ts ∧ Vr [] ts ∧ ts.length ≤ 60 ∧ z.length ≤ 1000 ∧
  (z ∈ nmsT ts → ∀ (D : Addr) (H' : Hp), Same H H' → H D = none → H' D = some (.lst ((abvOf z ts).map V.str)) → Q (.ref D) H') ∧ (z ∉ nmsT ts → ∀ (d : Addr) (fs : List (Str × V)) (H' : Hp), Same H H' → H' d = some (.xd fs) → fs.lookup ("name" : Str) = some (V.str z) → E (.ref C) (some d) H')
theorem upF_len (zs : List Str) : ∀ (ts : List Thing) (F : List Str), (ts.foldl (upStep zs) F).length ≤ F.length + ts.length
  | [], F => by simp
  | t :: r, F => by
    rw [List.foldl_cons]
    have h1 := upF_len zs r (upStep zs F t)
    have h2 : (upStep zs F t).length ≤ F.length + 1 := by
      unfold upStep
      split
      · exact addF_len
      · omega
    simp only [List.length_cons]
    omega
end Mb
namespace Mb
open PySem L2
/-- names kept by a test -/
theorem lc_filt {K : PySem.W.Frag} {j : Nat} {tt : TT} {te : TE} {σ : St} {Q : VK} {l : Addr} {ns : List Str} {H : Hp} (keep : Str → Bool) (hl : SqL K H l (ns.map V.str)) (few : ns.length ≤ 1000) (hσ : ∀ v, wipe ((wipe σ [j]).set j (some v)) [j] = wipe σ [j])
    (stT : ∀ (n : Str) (H' : Hp), n ∈ ns → Same H H' → ∀ R : Bool → Hp → Prop, (∀ H4, Same H' H4 → R (keep n) H4) → tt ((wipe σ [j]).set j (some (.str n))) H' R)
    (stE : ∀ (n : Str) (H' : Hp), n ∈ ns → Same H H' → ∀ R : VK, (∀ H4, Same H' H4 → R (.str n) H4) → te ((wipe σ [j]).set j (some (.str n))) H' R)
    (fin : ∀ (D : Addr) (H' : Hp), Same H H' → H D = none → H' D = some (.lst ((ns.filter keep).map V.str)) → Q (.ref D) H') : lcL K (gName j) tt te [j] σ Q (.ref l) H := by
  refine ⟨l, rfl, ⟨_, hl⟩, fun D hD => ?_⟩
  refine lc_list (xs := ns.map V.str) (fun i H' => Same H H' ∧ H' D = some (.lst (((ns.take i).filter keep).map V.str))) ⟨same_new hD _, by rw [List.take_zero]; exact upd_same⟩ (fun i H' _ h => h.1.seq hl) ?_ ?_
  · rintro i x H' hx ⟨g, d⟩
    rw [List.getElem?_map] at hx
    obtain ⟨n, hn, rfl⟩ := Option.map_eq_some_iff.mp hx
    have hi : i < ns.length := (List.getElem?_eq_some_iff.mp hn).1
    have hm := List.mem_of_getElem? hn
    have e1 : ns.take (i + 1) = ns.take i ++ [n] := by rw [List.take_succ, hn, Option.toList_some]
    refine ⟨hσ _, ?_⟩
    refine stT n H' hm g _ fun H3 g3 => ?_
    cases hk : keep n with
    | false =>
      rw [if_neg (by simp)]
      refine ⟨g.trans g3, ?_⟩
      rw [e1, List.filter_append, List.filter_cons, hk]
      simpa using g3 _ _ d
    | true =>
      rw [if_pos rfl]
      refine stE n H3 hm (g.trans g3) _ fun H4 g4 => ?_
      refine ⟨_, g4 _ _ (g3 _ _ d), ?_, same_updS ((g.trans g3).trans g4) hD, ?_⟩
      · rw [List.length_map]
        have := List.length_filter_le keep (ns.take i)
        rw [List.length_take] at this
        exact Nat.lt_of_le_of_lt this (Nat.lt_of_lt_of_le (show min i ns.length < 1001 by omega) (by decide))
      · rw [e1, List.filter_append, List.filter_cons, hk]
        simp only [if_true, List.filter_nil]
        rw [List.map_append]
        exact upd_same
  · rintro H' ⟨g, d⟩
    rw [List.length_map, List.take_length] at d
    exact fin D H' g hD d
end Mb
namespace Mb
open PySem L2
/-! ### the law's dict of dicts -/
def UndR (H : Hp) (kv : Key × V) (m : Str × List Str) : Prop := ∃ d, kv = ((.inr m.1 : Key), V.ref d) ∧ H d = some (.dK (setD m.2))
def UndAt (H : Hp) (D : Addr) (M : Und) : Prop := ∃ kvs : List (Key × V), H D = some (.dK kvs) ∧ Paired (UndR H) kvs M
theorem UndR.same {H H' : Hp} (s : Same H H') : ∀ {kvs : List (Key × V)} {M : Und}, Paired (UndR H) kvs M → Paired (UndR H') kvs M
  | _, _, h => Paired.mapP h fun _ _ ⟨d, e, k⟩ => ⟨d, e, s _ _ k⟩
theorem UndAt.same {H H' : Hp} {D : Addr} {M : Und} (h : UndAt H D M) (s : Same H H') : UndAt H' D M := by
  obtain ⟨kvs, h1, h2⟩ := h
  exact ⟨kvs, s _ _ h1, UndR.same s h2⟩
theorem und_find {H : Hp} {g : Str} : ∀ {kvs : List (Key × V)} {M : Und}, Paired (UndR H) kvs M → g ∈ M.map (·.1) → ∃ d, valV kvs (.inr g) = some (.ref d) ∧ H d = some (.dK (setD (getU M g)))
  | _, _, .nil, h => by cases h
  | _, _, .cons (a := kv) (b := m) ⟨d, e, k⟩ r, h => by
    subst e
    by_cases c : m.1 = g
    · refine ⟨d, ?_, ?_⟩
      · unfold valV
        rw [List.find?_cons, decide_eq_true (by rw [c])]
        rfl
      · unfold getU
        rw [List.find?_cons, decide_eq_true c]
        exact k
    · obtain ⟨d', h1, h2⟩ := und_find r ((List.mem_cons.mp h).resolve_left fun e => c e.symm)
      refine ⟨d', ?_, ?_⟩
      · unfold valV at h1 ⊢
        rw [List.find?_cons, decide_eq_false (fun e => c (Sum.inr.inj e))]
        exact h1
      · unfold getU at h2 ⊢
        rw [List.find?_cons, decide_eq_false c]
        exact h2
theorem und_get {H : Hp} {D : Addr} {M : Und} {g : Str} (h : UndAt H D M) (hg : g ∈ M.map (·.1)) : ∃ d, DGet H D (.str g) (some (.ref d)) ∧ H d = some (.dK (setD (getU M g))) := by
  obtain ⟨kvs, h1, h2⟩ := h
  obtain ⟨d, h3, h4⟩ := und_find h2 hg
  refine ⟨d, ?_, h4⟩
  have := DGet.k (k := .inr g) h1
  rw [h3] at this
  exact this
theorem und_keys {H : Hp} : ∀ {kvs : List (Key × V)} {M : Und}, Paired (UndR H) kvs M → kvs.map (·.1) = M.map fun m => (.inr m.1 : Key)
  | _, _, .nil => rfl
  | _, _, .cons ⟨d, e, k⟩ r => by
    subst e
    rw [List.map_cons, List.map_cons, und_keys r]
theorem put_fresh {kvs : List (Key × V)} {k : Key} {v : V} (h : k ∉ kvs.map (·.1)) : putK kvs k v = kvs ++ [(k, v)] := by
  unfold putK
  rw [if_neg]
  intro c
  obtain ⟨kv, hk, hd⟩ := List.any_eq_true.mp c
  exact h (of_decide_eq_true hd ▸ List.mem_map.mpr ⟨kv, hk, rfl⟩)
theorem paired_snoc {α β : Type} {R : α → β → Prop} {a : α} {b : β} (h : R a b) : ∀ {xs : List α} {ys : List β}, Paired R xs ys → Paired R (xs ++ [a]) (ys ++ [b])
  | _, _, .nil => .cons h .nil
  | _, _, .cons k r => .cons k (paired_snoc h r)
/-- a set of names of the row -/
def OkF (ts : List Thing) (F : List Str) : Prop := F.Nodup ∧ ∀ x ∈ F, x ∈ nmsT ts
theorem nodup_le : ∀ {F zs : List Str}, F.Nodup → (∀ x ∈ F, x ∈ zs) → F.length ≤ zs.length
  | [], _, _, _ => Nat.zero_le _
  | a :: r, zs, nd, h => by
    obtain ⟨h1, h2⟩ := List.nodup_cons.mp nd
    have ha := h a List.mem_cons_self
    have := nodup_le (zs := zs.erase a) h2 fun x hx => (List.mem_erase_of_ne (fun e => h1 (by rw [← e]; exact hx))).mpr (h x (List.mem_cons_of_mem _ hx))
    rw [List.length_erase_of_mem ha] at this
    have := List.length_pos_of_mem ha
    rw [List.length_cons]
    omega
theorem OkF.len {ts : List Thing} {F : List Str} (h : OkF ts F) : F.length ≤ ts.length := by
  have := nodup_le h.1 h.2
  unfold nmsT at this
  rwa [List.length_map] at this
theorem OkF.add {ts : List Thing} {F : List Str} {g : Str} (h : OkF ts F) (hg : g ∈ nmsT ts) : OkF ts (addF F g) := by
  unfold addF
  split
  · exact h
  · rename_i c
    refine ⟨List.nodup_append.mpr ⟨h.1, List.nodup_cons.mpr ⟨List.not_mem_nil, List.nodup_nil⟩, fun a ha b hb e => ?_⟩, fun x hx => ?_⟩
    · rw [List.mem_singleton.mp hb] at e
      exact c (e ▸ ha)
    · rcases List.mem_append.mp hx with hx | hx
      · exact h.2 x hx
      · rw [List.mem_singleton.mp hx]
        exact hg
theorem OkF.adds {ts : List Thing} : ∀ (ns : List Str) {F : List Str}, OkF ts F → (∀ x ∈ ns, x ∈ nmsT ts) → OkF ts (ns.foldl addF F)
  | [], _, h, _ => h
  | g :: r, _, h, hn => by
    rw [List.foldl_cons]
    exact OkF.adds r (h.add (hn g List.mem_cons_self)) fun x hx => hn x (List.mem_cons_of_mem _ hx)
theorem Hg.tgt {ts : List Thing} (vr : Vr [] ts) {a x : Str} (h : Hg ts a x) : x ∈ nmsT ts := by
  induction h with
  | dir h1 h2 =>
    obtain ⟨i, hi⟩ := List.getElem?_of_mem h1
    obtain ⟨v, hv, e⟩ := List.mem_map.mp ((vr.ahead hi).2 _ h2)
    exact List.mem_map.mpr ⟨v, List.mem_of_mem_take hv, e⟩
  | far _ _ _ ih => exact ih
theorem set_val {F : List Str} {k : Key} {v : V} (h : valV (setD F) k = some v) : v = .bl true := by
  unfold valV setD at h
  obtain ⟨kv, h1, h2⟩ := Option.map_eq_some_iff.mp h
  obtain ⟨n, _, rfl⟩ := List.mem_map.mp (List.mem_of_find?_eq_some h1)
  exact h2.symm
theorem und_pick {H : Hp} {D : Addr} {M : Und} {g : Str} (h : UndAt H D M) (hg : g ∈ M.map (·.1)) : ∃ (kvs : List (Key × V)) (d : Addr), H D = some (.dK kvs) ∧ valV kvs (.inr g) = some (.ref d) ∧ H d = some (.dK (setD (getU M g))) ∧ d ≠ D := by
  obtain ⟨kvs, h1, h2⟩ := h
  obtain ⟨d, h3, h4⟩ := und_find h2 hg
  refine ⟨kvs, d, h1, h3, h4, fun e => ?_⟩
  rw [e, h1] at h4
  have e2 : kvs = setD (getU M g) := by simpa using h4
  rw [e2] at h3
  cases set_val h3
theorem und_upd {H : Hp} {D : Addr} {kvs : List (Key × V)} {o : HO} (h1 : H D = some (.dK kvs)) : ∀ {ks : List (Key × V)} {M : Und}, Paired (UndR H) ks M → (∀ kv ∈ ks, kv ∈ kvs) → Paired (UndR (upd H D o)) ks M
  | _, _, .nil, _ => .nil
  | _, _, .cons (b := m) ⟨d, e, k⟩ r, h => by
    refine .cons ⟨d, e, ?_⟩ (und_upd h1 r fun kv hk => h kv (List.mem_cons_of_mem _ hk))
    rw [upd_ne]
    · exact k
    · intro c
      rw [c, h1] at k
      have e2 : kvs = setD m.2 := by simpa using k
      have hm := h _ List.mem_cons_self
      rw [e2, e] at hm
      obtain ⟨n, _, hn⟩ := List.mem_map.mp hm
      exact V.noConfusion (Prod.mk.inj hn).2
theorem set_at {F : List Str} {i : Nat} {k : Key} {v : V} (h : (setD F)[i]? = some (k, v)) : ∃ n, F[i]? = some n ∧ k = .inr n := by
  unfold setD at h
  rw [List.getElem?_map] at h
  obtain ⟨n, hn, e⟩ := Option.map_eq_some_iff.mp h
  exact ⟨n, hn, (Prod.mk.inj e).1.symm⟩
theorem set_len {F : List Str} : (setD F).length = F.length := by unfold setD; rw [List.length_map]
def spUnder (K : PySem.W.Frag) : Sp := fun vs H Q _ => ∃ (l : Addr) (z : Str) (us : List V) (ts : List Thing), vs = [.ref l, .str z] ∧ SqL K H l us ∧ Rws K H us ts ∧ Vr [] ts ∧ ts.length ≤ 60 ∧
  ∀ (D : Addr) (H' : Hp), Same H H' → H D = none → UndAt H' D (undOf ts) → Q (.ref D) H'
end Mb
namespace Mb
open PySem L2
def spNo (K : PySem.W.Frag) : Sp := fun vs H Q _ => ∃ (i : Int) (l : Addr) (z : Str) (us : List V) (ts : List Thing), vs = [.int i, .ref l, .str z] ∧ SqL K H l us ∧ Rws K H us ts ∧ Vr [] ts ∧ ts.length ≤ 60 ∧ z.length ≤ 1000 ∧ z ∉ nmsT ts ∧ ∀ H', Same H H' → Q (.str z) H'
end Mb
namespace Mb
open PySem L2
theorem UndAt.but {H H' : Hp} {p D : Addr} {c : Int} {M : Und} (h : UndAt H D M) (k : But p H H') (hp : Pl H p c) : UndAt H' D M := by
  obtain ⟨kvs, h1, h2⟩ := h
  obtain ⟨x, y, z, e, _⟩ := hp
  refine ⟨kvs, k _ _ (fun z => by rw [z, e] at h1; cases h1) h1, Paired.mapP h2 fun _ _ ⟨d, e', k'⟩ => ⟨d, e', k _ _ (fun z => by rw [z, e] at k'; cases k') k'⟩⟩
structure Lw (K : PySem.W.Frag) (H : Hp) (p R N D Ha : Addr) (c : Int) (us : List V) (ts : List Thing) : Prop where
  eR : H R = some (.lst us)
  rw : Rws K H us ts
  eN : H N = some (.lst ((nmsT ts).map V.str))
  un : UndAt H D (undOf ts)
  eH : H Ha = some (.lst us)
  pl : Pl H p c
  nR : p ≠ R
  nN : p ≠ N
  nH : p ≠ Ha
theorem Lw.same {K : PySem.W.Frag} {H H' : Hp} {p R N D Ha : Addr} {c : Int} {us : List V} {ts : List Thing} (h : Lw K H p R N D Ha c us ts) (s : Same H H') : Lw K H' p R N D Ha c us ts :=
  ⟨s _ _ h.eR, h.rw.kp (Kp.same s), s _ _ h.eN, h.un.same s, s _ _ h.eH, h.pl.same s, h.nR, h.nN, h.nH⟩
theorem Lw.but {K : PySem.W.Frag} {H H' : Hp} {p R N D Ha : Addr} {c c' : Int} {us : List V} {ts : List Thing} (h : Lw K H p R N D Ha c us ts) (k : But p H H') (pl : Pl H' p c') : Lw K H' p R N D Ha c' us ts :=
  ⟨k _ _ (Ne.symm h.nR) h.eR, h.rw.kp (Kp.but k h.pl), k _ _ (Ne.symm h.nN) h.eN, h.un.but k h.pl, k _ _ (Ne.symm h.nH) h.eH, pl, h.nR, h.nN, h.nH⟩
theorem und_nms {ts : List Thing} (vr : Vr [] ts) : (undOf ts).map (·.1) = nmsT ts := by
  have := (und_take vr ts.length (Nat.le_refl _)).1
  rwa [List.take_length] at this
theorem ben_mem {z : Str} {ts : List Thing} : ∀ x ∈ benOf z ts, x ∈ nmsT ts := fun x hx => by
  unfold benOf at hx
  obtain ⟨t, ht, rfl⟩ := List.mem_map.mp hx
  exact List.mem_map.mpr ⟨t, (List.mem_filter.mp ht).1, rfl⟩
theorem abv_mem {z : Str} {ts : List Thing} (vr : Vr [] ts) (hz : z ∈ nmsT ts) : ∀ x ∈ abvOf z ts, x ∈ nmsT ts := fun x hx => by
  rw [← highOf_eq vr hz] at hx
  exact (List.mem_filter.mp hx).1
theorem filt_len {ts : List Thing} {p : Str → Bool} : ((nmsT ts).filter p).length ≤ ts.length := by
  have := List.length_filter_le p (nmsT ts)
  unfold nmsT at this ⊢
  rwa [List.length_map] at this
end Mb
namespace Mb
open PySem L2
def top (i : Nat) : Stmt := PySem.Challenge.pw_movebook_k27_beneath_and_above.main.body.getD i (.Pass ⟨0, 0, 0, 0⟩)
abbrev s_wanted : Stmt := top 5
theorem sc_wanted : FnScope ["making"] ["making"] (defScope s_wanted) := ⟨rfl, rfl, rfl, by decide +kernel, rfl, by decide +kernel, by decide +kernel⟩
abbrev s_grounds : Stmt := top 6
theorem sc_grounds : FnScope ["making"] ["making"] (defScope s_grounds) := ⟨rfl, rfl, rfl, by decide +kernel, rfl, by decide +kernel, by decide +kernel⟩
abbrev s_beneath : Stmt := top 8
theorem sc_beneath : FnScope ["row", "name", "found", "other", "making", "ground"] ["row", "name"] (defScope s_beneath) := ⟨rfl, rfl, rfl, by decide +kernel, rfl, by decide +kernel, by decide +kernel⟩
abbrev s_above : Stmt := top 9
theorem sc_above : FnScope ["row", "name", "other"] ["row", "name"] (defScope s_above) := ⟨rfl, rfl, rfl, by decide +kernel, rfl, by decide +kernel, by decide +kernel⟩
abbrev s_with_above : Stmt := top 10
theorem sc_with_above : FnScope ["row", "names", "found", "other", "making", "ground"] ["row", "names"] (defScope s_with_above) := ⟨rfl, rfl, rfl, by decide +kernel, rfl, by decide +kernel, by decide +kernel⟩
abbrev s_refuse_missing : Stmt := top 11
theorem sc_refuse_missing : FnScope ["row", "name", "other", "making"] ["row", "name"] (defScope s_refuse_missing) := ⟨rfl, rfl, rfl, by decide +kernel, rfl, by decide +kernel, by decide +kernel⟩
abbrev s_pool : Stmt := top 13
theorem sc_pool : FnScope ["_law_script", "_law_at", "_law_cell", "_law_digits"] ["_law_script", "_law_at"] (defScope s_pool) := ⟨rfl, rfl, rfl, by decide +kernel, rfl, by decide +kernel, by decide +kernel⟩
abbrev s_take : Stmt := top 14
theorem sc_take : FnScope ["_law_pool_here", "_law_wide", "_law_found", "_law_seed"] ["_law_pool_here", "_law_wide"] (defScope s_take) := ⟨rfl, rfl, rfl, by decide +kernel, rfl, by decide +kernel, by decide +kernel⟩
abbrev s_gcd : Stmt := top 15
theorem sc_gcd : FnScope ["_law_one", "_law_other"] ["_law_one", "_law_other"] (defScope s_gcd) := ⟨rfl, rfl, rfl, by decide +kernel, rfl, by decide +kernel, by decide +kernel⟩
abbrev s_low : Stmt := top 16
theorem sc_low : FnScope ["_law_top", "_law_bottom", "_law_most"] ["_law_top", "_law_bottom"] (defScope s_low) := ⟨rfl, rfl, rfl, by decide +kernel, rfl, by decide +kernel, by decide +kernel⟩
abbrev s_frac : Stmt := top 17
theorem sc_frac : FnScope ["_law_pool_here", "_law_way", "_law_edge", "_law_top", "_law_bottom"] ["_law_pool_here"] (defScope s_frac) := ⟨rfl, rfl, rfl, by decide +kernel, rfl, by decide +kernel, by decide +kernel⟩
abbrev s_place : Stmt := top 18
theorem sc_place : FnScope ["_law_pool_here", "_law_x"] ["_law_pool_here"] (defScope s_place) := ⟨rfl, rfl, rfl, by decide +kernel, rfl, by decide +kernel, by decide +kernel⟩
abbrev s_name : Stmt := top 19
theorem sc_name : FnScope ["_law_pool_here", "_law_had", "_law_words", "_law_name_here", "_law_k"] ["_law_pool_here", "_law_had"] (defScope s_name) := ⟨rfl, rfl, rfl, by decide +kernel, rfl, by decide +kernel, by decide +kernel⟩
abbrev s_l_grounds : Stmt := top 20
theorem sc_l_grounds : FnScope ["_law_making_here"] ["_law_making_here"] (defScope s_l_grounds) := ⟨rfl, rfl, rfl, by decide +kernel, rfl, by decide +kernel, by decide +kernel⟩
abbrev s_sort : Stmt := top 21
theorem sc_sort : FnScope ["_law_making_here"] ["_law_making_here"] (defScope s_sort) := ⟨rfl, rfl, rfl, by decide +kernel, rfl, by decide +kernel, by decide +kernel⟩
abbrev s_l_weight : Stmt := top 22
theorem sc_l_weight : FnScope ["_law_making_here", "_law_sorts", "_law_heavy", "_law_each", "_law_name_here"] ["_law_making_here", "_law_sorts", "_law_heavy"] (defScope s_l_weight) := ⟨rfl, rfl, rfl, by decide +kernel, rfl, by decide +kernel, by decide +kernel⟩
abbrev s_making : Stmt := top 23
theorem sc_making : FnScope ["_law_pool_here", "_law_by", "_law_points", "_law_lines", "_law_rings", "_law_way", "_law_p", "_law_q", "_law_line", "_law_ring", "_law_r", "_law_word"] ["_law_pool_here", "_law_by"] (defScope s_making) := ⟨rfl, rfl, rfl, by decide +kernel, rfl, by decide +kernel, by decide +kernel⟩
abbrev s_row : Stmt := top 24
theorem sc_row : FnScope ["_law_pool_here", "_law_many", "_law_row_here", "_law_by", "_law_sorts", "_law_heavy", "_law_head", "_law_k", "_law_name_here", "_law_making_here"] ["_law_pool_here", "_law_many"] (defScope s_row) := ⟨rfl, rfl, rfl, by decide +kernel, rfl, by decide +kernel, by decide +kernel⟩
abbrev s_under : Stmt := top 25
theorem sc_under : FnScope ["_law_row_here", "_law_name_here", "_law_under_here", "_law_one", "_law_making_here", "_law_found", "_law_ground", "_law_deep"] ["_law_row_here", "_law_name_here"] (defScope s_under) := ⟨rfl, rfl, rfl, by decide +kernel, rfl, by decide +kernel, by decide +kernel⟩
abbrev s_no : Stmt := top 26
theorem sc_no : FnScope ["_law_deed_at", "_law_row_here", "_law_name_here", "_law_found", "e"] ["_law_deed_at", "_law_row_here", "_law_name_here"] (defScope s_no) := ⟨rfl, rfl, rfl, by decide +kernel, rfl, by decide +kernel, by decide +kernel⟩
abbrev s_law : Stmt := top 27
theorem sc_law : FnScope ["_law_script", "_law_pool_here", "_law_many", "_law_row_here", "_law_names", "_law_one", "_law_making_here", "_law_under_here", "_law_handed", "_law_k", "_law_name_here", "_law_low_here", "_law_high", "_law_found", "_law_other", "_law_strange"] ["_law_script"] (defScope s_law) := ⟨rfl, rfl, rfl, by decide +kernel, rfl, by decide +kernel, by decide +kernel⟩
/-! ### the steps of a reading, taken by a word of one's own -/
local macro_rules | `(tactic| walk_at "sm") => `(tactic| first
  | assumption
  | ((with_reducible refine Mb.Sm.mul (m := ?mm) (n := ?nn) ?ga ?gb); (case ga => walk_at "sm"); (case gb => walk_at "sm"))
  | ((with_reducible refine Mb.Sm.addm (m := ?mm) (n := ?nn) ?ga ?gb); (case ga => walk_at "sm"); (case gb => walk_at "sm"))
  | ((with_reducible refine Mb.Sm.subm (m := ?mm) (n := ?nn) ?ga ?gb); (case ga => walk_at "sm"); (case gb => walk_at "sm"))
  | ((with_reducible refine Mb.Sm.neg (n := ?nn) ?ga); (case ga => walk_at "sm"))
  | exact Mb.Sm.lit (by decide)
  | exact Mb.Sm.lit2 (by decide +kernel))
local macro_rules | `(tactic| walk_at "c") => `(tactic| first
  | assumption
  | exact ⟨by decide, by decide, by decide⟩
  | (show (0 : Int) < _; omega)
  | exact Mb.Sm.cdiv (n := 64) (by decide) (by decide)
  | exact Mb.Sm.cmul (by walk_at "sm") (by walk_at "sm"))
local macro_rules | `(tactic| walk_at "st") => `(tactic| first
  | ((with_reducible refine Mb.r_var (v := ?vv) ?hv ?_); (case hv => rfl))
  | with_reducible refine Mb.r_c ?_
  | with_reducible refine Mb.r_op ?_
  | with_reducible refine Mb.r_un ?_
  | with_reducible refine Mb.r_i0 ?_
  | with_reducible refine Mb.r_u ?_
  | with_reducible refine Mb.r_eqI ?_
  | with_reducible refine Mb.r_neI ?_
  | with_reducible refine Mb.r_eqB ?_
  | with_reducible refine Mb.r_eqS ?_
  | with_reducible refine Mb.r_cb ?_
  | with_reducible refine Mb.r_bits ?_
  | with_reducible refine Mb.r_int ?_
  | with_reducible refine Mb.r_nil ?_
  | with_reducible refine Mb.r_cons ?_
  | with_reducible refine Mb.r_tup ?_
  | with_reducible refine Mb.r_lst ?_
  | with_reducible refine Mb.r_call ?_
  | with_reducible refine Mb.r_seqA ?_
  | with_reducible refine Mb.r_seqD ?_
  | with_reducible refine Mb.r_seqP ?_
  | with_reducible refine Mb.r_next ?_
  | with_reducible refine Mb.r_nx ?_
  | with_reducible refine Mb.r_asg ?_
  | ((with_reducible refine Mb.r_gname ?_); dsimp only [List.set])
  | with_reducible refine Mb.r_gsub ?_
  | with_reducible refine Mb.r_ret ?_
  | with_reducible refine Mb.r_drop ?_
  | with_reducible refine Mb.r_ifs ?_
  | with_reducible refine Mb.r_test ?_
  | with_reducible refine Mb.r_tB ?_
  | with_reducible refine Mb.r_bl ?_
  | (dsimp only; (with_reducible refine Mb.r_bl ?_))
  | with_reducible refine Mb.r_and ?_
  | with_reducible refine Mb.r_or ?_
  | with_reducible refine Mb.r_not ?_
  | with_reducible refine Mb.r_andV ?_
  | with_reducible refine Mb.r_orV ?_
  | with_reducible refine Mb.r_notV ?_
  | with_reducible refine Mb.r_par ?_
  | ((with_reducible refine Mb.r_two ?_); dsimp only [List.set])
  | ((with_reducible refine Mb.r_ixL (xs := ?xx) (v := ?vv) ?h1 ?h2 ?_); (case h1 => first | assumption | exact Mb.lstOf (by assumption)); (case h2 => rfl))
  | ((with_reducible refine Mb.r_ixT (xs := ?xx) (v := ?vv) ?h1 ?h2 ?_); (case h1 => first | assumption | exact Mb.tupOf (by assumption)); (case h2 => rfl))
  | ((with_reducible refine Mb.r_i ?c ?_); (case c => walk_at "c"))
  | with_reducible refine Mb.r_T ?_
  | with_reducible refine Mb.r_F ?_
  | with_reducible refine Mb.r_nT ?_
  | with_reducible refine Mb.r_nF ?_)
section
variable {P : Program} {w : World} {K : PySem.W.Frag} {mg : Str → Option Value} {base : Heap}
abbrev s_init_BookError : Stmt := inClass (top 1) 0
theorem sc_init_BookError : FnScope ["self", "message", "words"] ["self", "message", "words"] (defScope s_init_BookError) := ⟨rfl, rfl, rfl, by decide +kernel, rfl, by decide +kernel, by decide +kernel⟩
theorem ok_init_BookError (F : FnB K mg "BookError" "BookError.__init__" s_init_BookError) (z_ValueError : mg "ValueError" = none) (VI : PySem.W.findCls K (.type "ValueError") (.type "type") "__init__" = some (.val (.builtin "ValueError.__init__"))) : KnB P w K mg base 1 "BookError" ["self", "message", "words"] (spBook K) := by
  refine F.made sc_init_BookError (fun vs H Q E h => ?_) (fun f cdv A outer s H vs Q E hr h => ?_) rfl (fun _ _ _ _ _ _ _ us its h1 h2 => match us, h1, its, h2 with | [_, _, _], _, [_, _], _ => ⟨_, rfl, rfl⟩)
  · obtain ⟨a, C, wd, m, rfl, _⟩ := h
    rfl
  obtain ⟨a, C, wd, m, rfl, ha, T, hno, q⟩ := h
  refine ⟨_, (pss_cons (ps_expr (pe_veinit (by rfl) z_ValueError VI (pa_cons (pv 0) (pa_cons (pv 1) pa_nil))))
    (pss_one (ps_ost (pv 0) (pv 2)))), ?_⟩
  show (_ : TS) _ [some (.ref a), some (.str m), some (.ref wd)] _
  repeat walk_at "st"
  refine r_vei ?_
  repeat walk_at "st"
  refine ⟨a, C, _, rfl, (by show 1 ≤ 1000; decide), T, ha, ?_⟩
  refine r_ost ?_
  repeat walk_at "st"
  refine ⟨a, C, rfl, T, hno, .inl ⟨ha, fun dx nd ne => ?_⟩⟩
  exact q dx _ nd ne (but_new nd) upd_same (by rw [upd_ne ne]; exact upd_same)
abbrev s_init_NoThing : Stmt := inClass (top 2) 0
theorem sc_init_NoThing : FnScope ["self", "name"] ["self", "name"] (defScope s_init_NoThing) := ⟨rfl, rfl, rfl, by decide +kernel, rfl, by decide +kernel, by decide +kernel⟩
theorem ok_init_NoThing {C : Addr} (F : FnI K mg "NoThing" "NoThing.__init__" C s_init_NoThing) (G_init_BookError : KnB P w K mg base 1 "BookError" ["self", "message", "words"] (spBook K)) (hnoW : PySem.W.findIn K (.ref C) "words" = some none) (hno : PySem.W.findIn K (.ref C) "name" = some none) : MkC P w K mg base 2 "NoThing" C (spInitR C "name" okStr) := by
  refine F.made sc_init_NoThing (fun vs H Q E h => ?_) (fun f cdv A outer s H vs Q E hr h T => ?_) (fun _ _ _ _ _ _ us hl => match us, hl with | [_, _], _ => rfl)
  · obtain ⟨a, v, rfl, _⟩ := h
    rfl
  obtain ⟨a, v, rfl, ⟨z, rfl, hz⟩, ha, q⟩ := h
  refine ⟨_, (pss_cons (ps_expr (pe_own G_init_BookError (hr.mono (by decide)) (by rfl) (pa_cons (pv 0) (pa_cons (pe_joined (.cons pe_str (.cons (pe_fmt (pv 1)) .nil))) (pa_cons (pe_tup (pa_cons pe_str (pa_cons (pv 1) pa_nil))) pa_nil)))))
    (pss_one (ps_ost (pv 0) (pv 1)))), ?_⟩
  show (_ : TS) _ [some (.ref a), some (.str z)] _
  repeat walk_at "st"
  refine r_js1 ?_
  repeat walk_at "st"
  refine ⟨_, rfl, by decide +kernel, ?_⟩
  refine r_js1 ?_
  refine r_fmt ?_
  repeat walk_at "st"
  refine .inl ⟨z, rfl, Nat.le_trans hz (by decide), ?_⟩
  refine ⟨z, rfl, ?_, ?_⟩
  · rw [cat_len, cat_len]
    exact Nat.le_trans (Nat.add_le_add (Nat.add_le_add (Nat.le_refl _) (show _ ≤ 100 by decide +kernel)) hz) (by decide +kernel)
  refine r_js0 ?_
  dsimp only
  repeat walk_at "st"
  refine ⟨sz rfl, fun wd nwd => ?_⟩
  have s1 := same_new nwd (.tup [V.str "NoThing", .str z])
  repeat walk_at "st"
  refine ⟨a, C, wd, _, rfl, s1 _ _ ha, T, hnoW, fun dx H2 nd ne b2 e1 e2 => ?_⟩
  refine r_ost ?_
  repeat walk_at "st"
  refine ⟨a, C, rfl, T, hno, .inr ⟨dx, _, e1, e2, by simp, ?_⟩⟩
  exact q wd dx _ (s1.free nd) ne (but_updR' (fun c o nc hc => b2 c o nc (s1 _ _ hc)) (s1.free nd)) (by rw [upd_ne (Ne.symm ne)]; exact e1) upd_same
theorem ok_wanted {A_WORDS : Addr} (g_WORDS : mg "WORDS" = some (.ref A_WORDS)) (W_WORDS : Wt K w A_WORDS) (F : Fn K mg "wanted" s_wanted) : Kn P w K mg base 1 "wanted" ["making"] (spWanted K) := by
  refine F.kn sc_wanted (fun vs H Q E h => ?_) (fun f cdv A outer s H vs Q E hr h => ?_) (fun _ _ _ _ _ _ us hl => match us, hl with | [_], _ => rfl)
  · obtain ⟨a, x, s, g, r, rfl, _⟩ := h
    rfl
  obtain ⟨a, x, so, g, r, rfl, hm, ht, q⟩ := h
  obtain ⟨t, u, kd, k1, k2⟩ := W_WORDS x so g ht
  refine ⟨_, (pss_one (ps_ret (pe_ix ix_tup (pe_ix ix_kdict (pe_glob (v := .ref A_WORDS) (by rfl) g_WORDS rfl) (pe_ix ix_tup (pv 0) pe_int (fun _ _ => rfl)) (fun _ _ => rfl)) pe_int (fun _ _ => rfl)))), ?_⟩
  show (_ : TS) _ [some (.ref a)] _
  repeat walk_at "st"
  refine r_ixT0 hm ?_
  refine ⟨A_WORDS, x, .ref t, rfl, rfl, kd, ?_⟩
  have k1' := k1 H
  repeat walk_at "st"
  exact q u (k2 H)
theorem ok_grounds (F : Fn K mg "grounds" s_grounds) (G_wanted : Kn P w K mg base 1 "wanted" ["making"] (spWanted K)) (z_len : mg "len" = none) (z_list : mg "list" = none) : Kn P w K mg base 2 "grounds" ["making"] (spGrounds K) := by
  refine F.kn sc_grounds (fun vs H Q E h => ?_) (fun f cdv A outer s H vs Q E hr h => ?_) (fun _ _ _ _ _ _ us hl => match us, hl with | [_], _ => rfl)
  · obtain ⟨a, x, s, g, ns, r, rfl, _⟩ := h
    rfl
  obtain ⟨a, x, so, g, ns, r, rfl, hm, ht, hn, q⟩ := h
  refine ⟨_, (pss_one (ps_ret (pe_callTy call_list_of (by rfl) z_list (by decide +kernel) (pa_cons (pe_slice sl_tup (pv 0) (po_some pe_int) (po_some (pe_op op_add pe_int (pe_callB call_len_seq (by rfl) z_len (by decide +kernel) (pa_cons (pe_kn G_wanted (hr.mono (by decide)) (by rfl) (pa_cons (pv 0) pa_nil)) pa_nil))))) pa_nil)))), ?_⟩
  show (_ : TS) _ [some (.ref a)] _
  repeat walk_at "st"
  refine r_slR ?_
  repeat walk_at "st"
  refine r_partR ?_
  repeat walk_at "st"
  refine r_partR ?_
  repeat walk_at "st"
  refine ⟨a, x, so, g, _, rfl, hm, ht, fun u hu => ?_⟩
  repeat walk_at "st"
  refine ⟨u, _, rfl, .inr hu, ?_⟩
  repeat walk_at "st"
  refine ⟨a, _, rfl, hm, cut_part, fun p hp => ?_⟩
  rw [cut_names (by rw [List.length_map, List.length_map, hn])]
  repeat walk_at "st"
  have s1 := same_new hp (.tup (ns.map V.str))
  refine ⟨p, _, rfl, .inr (tupOf upd_same), fun l hl => ?_⟩
  have s2 := same_new hl (.lst (ns.map V.str))
  exact q l _ (s1.trans s2) (s1.free hl) upd_same
theorem ok_pool (F : Fn K mg "_law_pool" s_pool) (z_len : mg "len" = none) : Kn P w K mg base 1 "_law_pool" ["_law_script", "_law_at"] (spPool K) := by
  refine F.kn sc_pool (fun vs H Q E h => ?_) (fun f cdv A outer s H vs Q E hr h => ?_) (fun _ _ _ _ _ _ us hl => match us, hl with | [_, _], _ => rfl)
  · obtain ⟨a, ns, i, rfl, _⟩ := h
    rfl
  obtain ⟨a, ns, i, rfl, hS, hl, h0, h1, q⟩ := h
  refine ⟨_, (pss_cons (ps_set (i := 2) sc_pool.nd rfl (.inl rfl) pe_int)
    (pss_cons (ps_if (pt_cmpR op_gt (pe_callB call_len_seq (by rfl) z_len (by decide +kernel) (pa_cons (pv 0) pa_nil)) pe_int (nomark _))
    (pss_one (ps_set (i := 2) sc_pool.nd rfl (.inl rfl) (pe_ix ix_list (pv 0) (pe_op op_mod (pv 1) (pe_callB call_len_seq (by rfl) z_len (by decide +kernel) (pa_cons (pv 0) pa_nil))) (fun _ _ => rfl))))
    pss_nil)
    (pss_cons (ps_set (i := 3) sc_pool.nd rfl (.inl rfl) pe_int)
    (pss_cons (ps_if (PW.pt (pw_and (pt_cmpR op_ge (pv 2) (pe_op op_pow pe_int pe_int) (nomark _)) (pw_and1 (pt_cmpR op_lt (pv 1) (pe_callB call_len_seq (by rfl) z_len (by decide +kernel) (pa_cons (pv 0) pa_nil)) (nomark _)))))
    (pss_one (ps_set (i := 3) sc_pool.nd rfl (.inl rfl) (pv 2)))
    pss_nil)
    (pss_one (ps_ret (pe_lst (pa_cons (pv 3) (pa_cons (pe_op op_mulW pe_int (pv 1)) (pa_cons (pv 2) pa_nil)))))))))), ?_⟩
  show (_ : TS) _ [some (.ref a), some (.int i), none, none] _
  have hz : (ns.map V.int).length = ns.length := List.length_map _
  have si : Sm 64 i := by unfold Sm; omega
  have e18 : ((10 : Int) ^ (18 : Int).toNat) = 1000000000000000000 := by decide
  repeat walk_at "st"
  refine r_cut (fun σ H' => ∃ z : Int, σ = [some (.ref a), some (.int i), some (.int z), none] ∧ H' = H) ?_ (fun N J => ?_)
  · rintro σ H' ⟨z, rfl, rfl⟩
    repeat walk_at "st"
    refine r_cut (fun σ H2 => ∃ x : Int, σ = [some (.ref a), some (.int i), some (.int z), some (.int x)] ∧ H2 = H') ?_ (fun N J => ?_)
    · rintro σ H2 ⟨x, rfl, rfl⟩
      repeat walk_at "st"
      refine ⟨sz rfl, fun p hp => ?_⟩
      exact q p _ (same_new hp _) hp ⟨x, 1000 * i, z, upd_same, by omega, by omega⟩
    · repeat walk_at "st"
      refine r_ite (fun c => ?_) (fun c => ?_)
      · repeat walk_at "st"
        refine ⟨a, _, rfl, .inl hS, ?_⟩
        repeat walk_at "st"
        refine r_ite (fun c => ?_) (fun c => ?_)
        · repeat walk_at "st"
          exact J _ _ ⟨_, rfl, rfl⟩
        · repeat walk_at "st"
          exact J _ _ ⟨_, rfl, rfl⟩
      · repeat walk_at "st"
        exact J _ _ ⟨_, rfl, rfl⟩
  · repeat walk_at "st"
    refine ⟨a, _, rfl, .inl hS, ?_⟩
    repeat walk_at "st"
    refine r_ite (fun c => ?_) (fun c => ?_)
    · repeat walk_at "st"
      refine ⟨a, _, rfl, .inl hS, ?_⟩
      rw [hz] at c
      refine r_i (show (0 : Int) < _ by rw [hz]; omega) ?_
      have hk : (i % ((ns.map V.int).length : Int)).toNat < ns.length := by
        rw [hz]
        have := Int.emod_lt_of_pos i (show (0 : Int) < ns.length by omega)
        omega
      have e : i % ((ns.map V.int).length : Int) = (((i % ((ns.map V.int).length : Int)).toNat : Nat) : Int) := by
        rw [hz]
        have := Int.emod_nonneg i (show (ns.length : Int) ≠ 0 by omega)
        omega
      refine r_ixL hS (at_of e (by rw [List.getElem?_map, List.getElem?_eq_getElem hk]; rfl)) ?_
      repeat walk_at "st"
      exact J _ _ ⟨_, rfl, rfl⟩
    · repeat walk_at "st"
      exact J _ _ ⟨_, rfl, rfl⟩
theorem ok_take (F : Fn K mg "_law_take" s_take) : Kn P w K mg base 1 "_law_take" ["_law_pool_here", "_law_wide"] spTake := by
  refine F.kn sc_take (fun vs H Q E h => ?_) (fun f cdv A outer s H vs Q E hr h => ?_) (fun _ _ _ _ _ _ us hl => match us, hl with | [_, _], _ => rfl)
  · obtain ⟨p, k, b, rfl, _⟩ := h
    rfl
  obtain ⟨p, k, b, rfl, ⟨x, y, z, hp, y0, y1⟩, hb, hk, hk2, q⟩ := h
  refine ⟨_, (pss_cons (ps_if (pt_cmpR op_gt (pe_ix ix_list (pv 0) pe_int (fun _ _ => rfl)) pe_int (nomark _))
    (pss_cons (ps_set (i := 2) sc_take.nd rfl (.inl rfl) (pe_op op_mod (pe_ix ix_list (pv 0) pe_int (fun _ _ => rfl)) (pv 1)))
    (pss_cons (ps_asg (pe_op op_fdivW (pe_ix ix_list (pv 0) pe_int (fun _ _ => rfl)) (pv 1)) (pg_sub (pv 0) pe_int set_list))
    (pss_one (ps_ret (pv 2)))))
    pss_nil)
    (pss_cons (ps_asg (pe_op op_add (pe_ix ix_list (pv 0) pe_int (fun _ _ => rfl)) pe_int) (pg_sub (pv 0) pe_int set_list))
    (pss_cons (ps_set (i := 3) sc_take.nd rfl (.inl rfl) (pe_op op_mod (pe_op op_pow (pe_op op_add (pe_op op_mod (pe_ix ix_list (pv 0) pe_int (fun _ _ => rfl)) pe_int) (pe_op op_mulW pe_int (pe_ix ix_list (pv 0) pe_int (fun _ _ => rfl)))) pe_int) pe_int))
    (pss_cons (ps_set (i := 3) sc_take.nd rfl (.inl rfl) (pe_op op_add (pe_op op_mulW (pv 3) pe_int) (pe_op op_mulW (pe_op op_mulW (pe_ix ix_list (pv 0) pe_int (fun _ _ => rfl)) (pe_ix ix_list (pv 0) pe_int (fun _ _ => rfl))) pe_int)))
    (pss_one (ps_ret (pe_op op_mod (pe_op op_fdivW (pe_op op_mod (pe_op op_add (pv 3) (pe_op op_fdivW (pe_ix ix_list (pv 0) pe_int (fun _ _ => rfl)) pe_int)) pe_int) pe_int) (pv 1)))))))), ?_⟩
  show (_ : TS) _ [some (.ref p), some (.int k), none, none] _
  have sk : Sm 64 k := by unfold Sm; omega
  have sy : Sm 64 (y + 1) := by unfold Sm; omega
  have m0 : ∀ i : Int, 0 ≤ i % k := fun i => Int.emod_nonneg i (by omega)
  have m1 : ∀ i : Int, i % k < k := fun i => Int.emod_lt_of_pos i (by omega)
  refine r_seq ?_
  repeat walk_at "st"
  refine r_ite (fun c => ?_) (fun c => ?_)
  · repeat walk_at "st"
    refine r_i (Sm.cdiv (by omega) sk) ?_
    repeat walk_at "st"
    refine r_setL hp rfl ?_
    repeat walk_at "st"
    exact q _ _ (But.upd _ _ _) ⟨_, y, z, upd_same, y0, by omega⟩ (m0 _) (m1 _)
  · repeat walk_at "st"
    refine r_setL hp rfl ?_
    dsimp only [List.set]
    have hp2 : (upd H p (.lst [.int x, .int (y + 1), .int z])) p = some (.lst [.int x, .int (y + 1), .int z]) := upd_same
    have e1 := Int.emod_nonneg z (show (2147483647 : Int) ≠ 0 by decide)
    have e2 := Int.emod_lt_of_pos z (show (0 : Int) < 2147483647 by decide)
    generalize hz : z % 2147483647 = z' at e1 e2
    repeat walk_at "st"
    rw [hz]
    refine r_i ⟨by decide, by decide, by omega⟩ ?_
    repeat walk_at "st"
    generalize hs : (z' + 40503 * (y + 1)) ^ Int.toNat 5 % 2147483647 = sd
    have e3 : 0 ≤ sd := by rw [← hs]; exact Int.emod_nonneg _ (by decide)
    have e4 : sd < 2147483647 := by rw [← hs]; exact Int.emod_lt_of_pos _ (by decide)
    have ss : Sm 64 sd := by unfold Sm; omega
    repeat walk_at "st"
    exact q _ _ (But.upd _ _ _) ⟨x, y + 1, z, upd_same, by omega, by omega⟩ (m0 _) (m1 _)
theorem ok_gcd (F : Fn K mg "_law_gcd" s_gcd) (z_abs : mg "abs" = none) : Kn P w K mg base 1 "_law_gcd" ["_law_one", "_law_other"] spGcd := by
  refine F.kn sc_gcd (fun vs H Q E h => ?_) (fun f cdv A outer s H vs Q E hr h => ?_) (fun _ _ _ _ _ _ us hl => match us, hl with | [_, _], _ => rfl)
  · obtain ⟨a, b, rfl, _⟩ := h
    rfl
  obtain ⟨a, b, rfl, q⟩ := h
  refine ⟨_, (pss_cons (ps_set (i := 0) sc_gcd.nd rfl (.inl rfl) (pe_callB call_abs (by rfl) z_abs (by decide +kernel) (pa_cons (pv 0) pa_nil)))
    (pss_cons (ps_set (i := 1) sc_gcd.nd rfl (.inl rfl) (pe_callB call_abs (by rfl) z_abs (by decide +kernel) (pa_cons (pv 1) pa_nil)))
    (pss_cons (ps_while PassesOwn.never (pt_cmpR op_gt (pv 1) pe_int (nomark _))
    (pss_one (ps_par (by rfl) sc_gcd.nd (i := 0) (j := 1) rfl rfl (by decide) rfl rfl (pa_cons (pv 1) (pa_cons (pe_op op_mod (pv 0) (pv 1)) pa_nil)) (by rfl))))
    (pss_one (ps_ret (pv 0)))))), ?_⟩
  show (_ : TS) _ [some (.int a), some (.int b)] _
  repeat walk_at "st"
  refine ⟨a, rfl, ?_⟩
  repeat walk_at "st"
  refine ⟨b, rfl, ?_⟩
  repeat walk_at "st"
  refine r_seq ?_
  refine r_while (fun σ H' => H' = H ∧ ∃ x y : Int, σ = [some (.int x), some (.int y)] ∧ 0 ≤ x ∧ 0 ≤ y ∧ Int.gcd x y = Int.gcd a b) (fun σ _ => match σ with | [_, some (.int y)] => y.toNat | _ => 0) ?_ ?_
  · refine ⟨rfl, _, _, rfl, ?_, ?_, ?_⟩
    · split <;> omega
    · split <;> omega
    · split <;> split <;> simp only [Int.neg_gcd, Int.gcd_neg]
  · rintro σ H' ⟨rfl, x, y, rfl, hx, hy, hg⟩
    repeat walk_at "st"
    refine r_ite (fun c => ?_) (fun c => ?_)
    · refine r_turn ?_
      repeat walk_at "st"
      have e1 := Int.emod_nonneg x (show y ≠ 0 by omega)
      have e2 := Int.emod_lt_of_pos x (show 0 < y by omega)
      refine ⟨⟨rfl, y, x % y, rfl, hy, e1, by rw [gcd_step hx c, hg]⟩, ?_⟩
      show (x % y).toNat < y.toNat
      omega
    · have e : y = 0 := by omega
      subst e
      repeat walk_at "st"
      have g : (Int.gcd x 0 : Int) = x := by rw [Int.gcd_zero]; omega
      rw [hg] at g
      show Q (.int x) _
      rw [← g]
      exact q
theorem ok_low (F : Fn K mg "_law_low" s_low) (G_gcd : Kn P w K mg base 1 "_law_gcd" ["_law_one", "_law_other"] spGcd) : Kn P w K mg base 2 "_law_low" ["_law_top", "_law_bottom"] spLow := by
  refine F.kn sc_low (fun vs H Q E h => ?_) (fun f cdv A outer s H vs Q E hr h => ?_) (fun _ _ _ _ _ _ us hl => match us, hl with | [_, _], _ => rfl)
  · obtain ⟨t, b, rfl, _⟩ := h
    rfl
  obtain ⟨t, b, rfl, hb, sb, q⟩ := h
  refine ⟨_, (pss_cons (ps_if (pt_cmpR op_lt (pv 1) pe_int (nomark _))
    (pss_one (ps_par (by rfl) sc_low.nd (i := 0) (j := 1) rfl rfl (by decide) rfl rfl (pa_cons (pe_un un_neg (pv 0)) (pa_cons (pe_un un_neg (pv 1)) pa_nil)) (by rfl)))
    pss_nil)
    (pss_cons (ps_set (i := 2) sc_low.nd rfl (.inl rfl) (pe_kn G_gcd (hr.mono (by decide)) (by rfl) (pa_cons (pv 0) (pa_cons (pv 1) pa_nil))))
    (pss_one (ps_ret (pe_tup (pa_cons (pe_op op_fdivW (pv 0) (pv 2)) (pa_cons (pe_op op_fdivW (pv 1) (pv 2)) pa_nil))))))), ?_⟩
  show (_ : TS) _ [some (.int t), some (.int b), none] _
  have g0 := gcd_pos (t := t) hb
  have gs : Sm 8000 (Int.gcd t b : Int) := sb.le (by
    have : (Int.gcd t b : Int) ∣ b := Int.gcd_dvd_right t b
    have := Int.le_of_dvd (show 0 < (b.natAbs : Int) by omega) (Int.dvd_natAbs.mpr this)
    omega)
  refine r_cut (fun σ H' => σ = [some (.int (if b < 0 then -t else t)), some (.int (if b < 0 then -b else b)), none] ∧ H' = H) ?_ (fun N J => ?_)
  · rintro σ H' ⟨rfl, rfl⟩
    repeat walk_at "st"
    refine ⟨_, _, rfl, ?_⟩
    have e : Int.gcd (if b < 0 then -t else t) (if b < 0 then -b else b) = Int.gcd t b := by
      split
      · rw [Int.neg_gcd, Int.gcd_neg]
      · rfl
    rw [e]
    repeat walk_at "st"
    refine r_i (Sm.cdiv g0 gs) ?_
    repeat walk_at "st"
    refine r_i (Sm.cdiv g0 gs) ?_
    repeat walk_at "st"
    refine ⟨sz rfl, fun p hp => ?_⟩
    exact q p _ (same_new hp _) hp upd_same
  · repeat walk_at "st"
    refine r_ite (fun c => ?_) (fun c => ?_)
    · repeat walk_at "st"
      exact J _ _ ⟨by rw [if_pos c, if_pos c], rfl⟩
    · repeat walk_at "st"
      exact J _ _ ⟨by rw [if_neg c, if_neg c], rfl⟩
theorem ok_frac (F : Fn K mg "_law_frac" s_frac) (G_take : Kn P w K mg base 1 "_law_take" ["_law_pool_here", "_law_wide"] spTake) (G_low : Kn P w K mg base 2 "_law_low" ["_law_top", "_law_bottom"] spLow) : Kn P w K mg base 3 "_law_frac" ["_law_pool_here"] spFracB := by
  refine F.kn sc_frac (fun vs H Q E h => ?_) (fun f cdv A outer s H vs Q E hr h => ?_) (fun _ _ _ _ _ _ us hl => match us, hl with | [_], _ => rfl)
  · obtain ⟨p, b, rfl, _⟩ := h
    rfl
  obtain ⟨p, b, rfl, hp, hb, q⟩ := h
  refine ⟨_, (pss_cons (ps_set (i := 1) sc_frac.nd rfl (.inl rfl) (pe_kn G_take (hr.mono (by decide)) (by rfl) (pa_cons (pv 0) (pa_cons pe_int pa_nil))))
    (pss_cons (ps_if (pt_cmpR op_lt (pv 1) pe_int (nomark _))
    (pss_one (ps_ret (pe_tup (pa_cons (pe_op op_sub (pe_kn G_take (hr.mono (by decide)) (by rfl) (pa_cons (pv 0) (pa_cons pe_int pa_nil))) pe_int) (pa_cons pe_int pa_nil)))))
    pss_nil)
    (pss_cons (ps_if (pt_cmpR op_lt (pv 1) pe_int (nomark _))
    (pss_one (ps_ret (pe_kn G_low (hr.mono (by decide)) (by rfl) (pa_cons (pe_op op_sub (pe_kn G_take (hr.mono (by decide)) (by rfl) (pa_cons (pv 0) (pa_cons pe_int pa_nil))) pe_int) (pa_cons (pe_op op_add pe_int (pe_kn G_take (hr.mono (by decide)) (by rfl) (pa_cons (pv 0) (pa_cons pe_int pa_nil)))) pa_nil)))))
    pss_nil)
    (pss_cons (ps_if (pt_cmpR op_eq (pv 1) pe_int (nomark _))
    (pss_one (ps_ret (pe_tup (pa_cons (pe_op op_sub (pe_kn G_take (hr.mono (by decide)) (by rfl) (pa_cons (pv 0) (pa_cons pe_int pa_nil))) pe_int) (pa_cons pe_int pa_nil)))))
    pss_nil)
    (pss_cons (ps_set (i := 2) sc_frac.nd rfl (.inl rfl) (pe_kn G_take (hr.mono (by decide)) (by rfl) (pa_cons (pv 0) (pa_cons pe_int pa_nil))))
    (pss_cons (ps_if (pt_cmpR op_lt (pv 2) pe_int (nomark _))
    (pss_one (ps_ret (pe_ix ix_list (pe_lst (pa_cons (pe_tup (pa_cons pe_int (pa_cons pe_int pa_nil))) (pa_cons (pe_tup (pa_cons (pe_un un_neg pe_int) (pa_cons pe_int pa_nil))) (pa_cons (pe_tup (pa_cons pe_int (pa_cons pe_int pa_nil))) (pa_cons (pe_tup (pa_cons (pe_un un_neg pe_int) (pa_cons pe_int pa_nil))) pa_nil))))) (pv 2) (fun _ _ => rfl))))
    pss_nil)
    (pss_cons (ps_set (i := 3) sc_frac.nd rfl (.inl rfl) (pe_op op_add (pe_op op_mulW (pe_kn G_take (hr.mono (by decide)) (by rfl) (pa_cons (pv 0) (pa_cons pe_int pa_nil))) pe_int) (pe_kn G_take (hr.mono (by decide)) (by rfl) (pa_cons (pv 0) (pa_cons pe_int pa_nil)))))
    (pss_cons (ps_set (i := 4) sc_frac.nd rfl (.inl rfl) (pe_op op_add (pe_op op_mulW (pe_kn G_take (hr.mono (by decide)) (by rfl) (pa_cons (pv 0) (pa_cons pe_int pa_nil))) pe_int) (pe_kn G_take (hr.mono (by decide)) (by rfl) (pa_cons (pv 0) (pa_cons pe_int pa_nil)))))
    (pss_one (ps_ret (pe_kn G_low (hr.mono (by decide)) (by rfl) (pa_cons (pe_op op_sub (pe_op op_mod (pv 3) pe_int) pe_int) (pa_cons (pe_op op_add pe_int (pe_op op_mod (pv 4) pe_int)) pa_nil))))))))))))), ?_⟩
  show (_ : TS) _ [some (.ref p), none, none, none, none] _
  repeat walk_at "st"
  refine ⟨p, _, b, rfl, hp, by omega, by decide, by decide, fun w1 H1 b1 hp1 l1 u1 => ?_⟩
  repeat walk_at "st"
  refine r_seq ?_
  repeat walk_at "st"
  refine r_ite (fun c => ?_) (fun c => ?_)
  · repeat walk_at "st"
    refine ⟨p, _, _, rfl, hp1, by omega, by decide, by decide, fun r2 H2 b2 hp2 l2 u2 => ?_⟩
    repeat walk_at "st"
    refine ⟨sz rfl, fun o ho => ?_⟩
    have sn := same_new ho (.tup [.int (r2 - 4), .int 1])
    exact q o _ _ _ ((b1.trans b2).trans (But.same sn)) ((hp2.same sn).mono (by omega)) upd_same (fb_int (by omega))
  repeat walk_at "st"
  refine r_seq ?_
  repeat walk_at "st"
  refine r_ite (fun c => ?_) (fun c => ?_)
  · repeat walk_at "st"
    refine ⟨p, _, _, rfl, hp1, by omega, by decide, by decide, fun r2 H2 b2 hp2 l2 u2 => ?_⟩
    repeat walk_at "st"
    refine ⟨p, _, _, rfl, hp2, by omega, by decide, by decide, fun r3 H3 b3 hp3 l3 u3 => ?_⟩
    repeat walk_at "st"
    refine ⟨_, _, rfl, by omega, (show Sm 64 (1 + r3) by unfold Sm; omega).mono (by decide), fun o H4 g4 n4 e4 => ?_⟩
    exact q o _ _ _ (((b1.trans b2).trans b3).trans (But.same g4)) ((hp3.same g4).mono (by omega)) e4 (fb_low (by omega) (by omega) (by omega))
  repeat walk_at "st"
  refine r_seq ?_
  repeat walk_at "st"
  refine r_ite (fun c => ?_) (fun c => ?_)
  · repeat walk_at "st"
    refine ⟨p, _, _, rfl, hp1, by omega, by decide, by decide, fun r2 H2 b2 hp2 l2 u2 => ?_⟩
    repeat walk_at "st"
    refine ⟨sz rfl, fun o ho => ?_⟩
    have sn := same_new ho (.tup [.int (r2 - 1000), .int 1])
    exact q o _ _ _ ((b1.trans b2).trans (But.same sn)) ((hp2.same sn).mono (by omega)) upd_same (fb_int (by omega))
  repeat walk_at "st"
  refine ⟨p, _, _, rfl, hp1, by omega, by decide, by decide, fun r2 H2 b2 hp2 l2 u2 => ?_⟩
  have bb := b1.trans b2
  clear b1 b2 hp1 hp
  repeat walk_at "st"
  refine r_seq ?_
  repeat walk_at "st"
  refine r_ite (fun c => ?_) (fun c => ?_)
  · repeat walk_at "st"
    refine ⟨sz rfl, fun o1 n1 => ?_⟩
    have s1 := same_new n1 (.tup [.int 999999999, .int 1])
    have k1 : (upd H2 o1 (.tup [.int 999999999, .int 1])) o1 = some (.tup [.int 999999999, .int 1]) := upd_same
    generalize upd H2 o1 (.tup [.int 999999999, .int 1]) = J1 at *
    repeat walk_at "st"
    refine ⟨sz rfl, fun o2 n2 => ?_⟩
    have s2 := same_new n2 (.tup [.int (-999999999), .int 1])
    have k2 : (upd J1 o2 (.tup [.int (-999999999), .int 1])) o2 = some (.tup [.int (-999999999), .int 1]) := upd_same
    generalize upd J1 o2 (.tup [.int (-999999999), .int 1]) = J2 at *
    repeat walk_at "st"
    refine ⟨sz rfl, fun o3 n3 => ?_⟩
    have s3 := same_new n3 (.tup [.int 1, .int 999999999])
    have k3 : (upd J2 o3 (.tup [.int 1, .int 999999999])) o3 = some (.tup [.int 1, .int 999999999]) := upd_same
    generalize upd J2 o3 (.tup [.int 1, .int 999999999]) = J3 at *
    repeat walk_at "st"
    refine ⟨sz rfl, fun o4 n4 => ?_⟩
    have s4 := same_new n4 (.tup [.int (-999999998), .int 999999999])
    have k4 : (upd J3 o4 (.tup [.int (-999999998), .int 999999999])) o4 = some (.tup [.int (-999999998), .int 999999999]) := upd_same
    generalize upd J3 o4 (.tup [.int (-999999998), .int 999999999]) = J4 at *
    repeat walk_at "st"
    refine ⟨sz rfl, fun o5 n5 => ?_⟩
    have s5 := same_new n5 (.lst [.ref o1, .ref o2, .ref o3, .ref o4])
    have k5 : (upd J4 o5 (.lst [.ref o1, .ref o2, .ref o3, .ref o4])) o5 = some (.lst [.ref o1, .ref o2, .ref o3, .ref o4]) := upd_same
    generalize upd J4 o5 (.lst [.ref o1, .ref o2, .ref o3, .ref o4]) = J5 at *
    have gg : Same H2 J5 := (((s1.trans s2).trans s3).trans s4).trans s5
    have b5 := bb.trans (But.same gg)
    have hp5 : Pl J5 p (b + 10) := (hp2.same gg).mono (by omega)
    have hr : r2 = 0 ∨ r2 = 1 ∨ r2 = 2 ∨ r2 = 3 := by omega
    rcases hr with rfl | rfl | rfl | rfl
    · repeat walk_at "st"
      exact q _ _ _ _ b5 hp5 (s5 _ _ (s4 _ _ (s3 _ _ (s2 _ _ k1)))) ⟨by decide, by decide +kernel, by decide, by decide⟩
    · repeat walk_at "st"
      exact q _ _ _ _ b5 hp5 (s5 _ _ (s4 _ _ (s3 _ _ k2))) ⟨by decide, by decide +kernel, by decide, by decide⟩
    · repeat walk_at "st"
      exact q _ _ _ _ b5 hp5 (s5 _ _ (s4 _ _ k3)) ⟨by decide, by decide +kernel, by decide, by decide⟩
    · repeat walk_at "st"
      exact q _ _ _ _ b5 hp5 (s5 _ _ k4) ⟨by decide, by decide +kernel, by decide, by decide⟩
  repeat walk_at "st"
  refine ⟨p, _, _, rfl, hp2, by omega, by decide, by decide, fun r3 H3 b3 hp3 l3 u3 => ?_⟩
  have q3 : Sm 20 r3 := by unfold Sm; omega
  repeat walk_at "st"
  refine ⟨p, _, _, rfl, hp3, by omega, by decide, by decide, fun r4 H4 b4 hp4 l4 u4 => ?_⟩
  repeat walk_at "st"
  refine ⟨p, _, _, rfl, hp4, by omega, by decide, by decide, fun r5 H5 b5 hp5 l5 u5 => ?_⟩
  have q5 : Sm 20 r5 := by unfold Sm; omega
  repeat walk_at "st"
  refine ⟨p, _, _, rfl, hp5, by omega, by decide, by decide, fun r6 H6 b6 hp6 l6 u6 => ?_⟩
  repeat walk_at "st"
  have m1 := Int.emod_nonneg (r3 * 44721 + r4) (show (1999999999 : Int) ≠ 0 by decide)
  have m2 := Int.emod_lt_of_pos (r3 * 44721 + r4) (show (0 : Int) < 1999999999 by decide)
  have m3 := Int.emod_nonneg (r5 * 31623 + r6) (show (999999999 : Int) ≠ 0 by decide)
  have m4 := Int.emod_lt_of_pos (r5 * 31623 + r6) (show (0 : Int) < 999999999 by decide)
  refine ⟨_, _, rfl, by omega, (show Sm 64 (1 + (r5 * 31623 + r6) % 999999999) by unfold Sm; omega).mono (by decide), fun o H7 g7 n7 e7 => ?_⟩
  refine q o _ _ _ (((((bb.trans b3).trans b4).trans b5).trans b6).trans (But.same g7)) ((hp6.same g7).mono (by omega)) e7 (fb_low (by omega) (by omega) (by omega))
theorem ok_place (F : Fn K mg "_law_place" s_place) (G_frac : Kn P w K mg base 3 "_law_frac" ["_law_pool_here"] spFracB) : Kn P w K mg base 4 "_law_place" ["_law_pool_here"] (spPlaceB K) := by
  refine F.kn sc_place (fun vs H Q E h => ?_) (fun f cdv A outer s H vs Q E hr h => ?_) (fun _ _ _ _ _ _ us hl => match us, hl with | [_], _ => rfl)
  · obtain ⟨p, b, rfl, _⟩ := h
    rfl
  obtain ⟨p, b, rfl, hp, hb, q⟩ := h
  refine ⟨_, (pss_cons (ps_set (i := 1) sc_place.nd rfl (.inl rfl) (pe_kn G_frac (hr.mono (by decide)) (by rfl) (pa_cons (pv 0) pa_nil)))
    (pss_one (ps_ret (pe_tup (pa_cons (pv 1) (pa_cons (pe_kn G_frac (hr.mono (by decide)) (by rfl) (pa_cons (pv 0) pa_nil)) pa_nil)))))), ?_⟩
  show (_ : TS) _ [some (.ref p), none] _
  repeat walk_at "st"
  refine ⟨p, _, rfl, hp, by omega, fun o t u H1 b1 hp1 e1 f1 => ?_⟩
  repeat walk_at "st"
  refine ⟨p, _, rfl, hp1, by omega, fun o2 r s H2 b2 hp2 e2 f2 => ?_⟩
  repeat walk_at "st"
  refine ⟨sz rfl, fun a ha => ?_⟩
  have sn := same_new ha (.tup [.ref o, .ref o2])
  exact q a o o2 t u r s _ ((b1.trans b2).trans (But.same sn)) ((hp2.same sn).mono (by omega)) upd_same (sn.tp (hp1.tup b2 (tupOf e1))) (sn.tp (tupOf e2)) f1 f2
theorem ok_name (F : Fn K mg "_law_name" s_name) (G_take : Kn P w K mg base 1 "_law_take" ["_law_pool_here", "_law_wide"] spTake) (z_len : mg "len" = none) (z_range : mg "range" = none) (z_str : mg "str" = none) : Kn P w K mg base 2 "_law_name" ["_law_pool_here", "_law_had"] (spNameR K) := by
  refine F.kn sc_name (fun vs H Q E h => ?_) (fun f cdv A outer s H vs Q E hr h => ?_) (fun _ _ _ _ _ _ us hl => match us, hl with | [_, _], _ => rfl)
  · obtain ⟨p, h, b, zs, rfl, _⟩ := h
    rfl
  obtain ⟨p, h, b, zs, rfl, hp, hb, hS, nph, hzs, q⟩ := h
  refine ⟨_, (pss_cons (ps_set (i := 2) sc_name.nd rfl (.inl rfl) (pe_lst (pa_cons pe_str (pa_cons pe_str (pa_cons pe_str (pa_cons pe_str (pa_cons pe_str (pa_cons pe_str (pa_cons pe_str (pa_cons pe_str pa_nil))))))))))
    (pss_cons (ps_set (i := 2) sc_name.nd rfl (.inl rfl) (pe_op op_cat (pv 2) (pe_lst (pa_cons pe_str (pa_cons pe_str (pa_cons pe_str (pa_cons pe_str (pa_cons pe_str pa_nil))))))))
    (pss_cons (ps_if (pt_cmpR op_eq (pe_kn G_take (hr.mono (by decide)) (by rfl) (pa_cons (pv 0) (pa_cons pe_int pa_nil))) pe_int (nomark _))
    (pss_one (ps_set (i := 3) sc_name.nd rfl (.inl rfl) (pe_ix ix_list (pv 2) (pe_kn G_take (hr.mono (by decide)) (by rfl) (pa_cons (pv 0) (pa_cons pe_int pa_nil))) (fun _ _ => rfl))))
    (pss_cons (ps_set (i := 3) sc_name.nd rfl (.inl rfl) (pe_ix ix_str pe_str (pe_kn G_take (hr.mono (by decide)) (by rfl) (pa_cons (pv 0) (pa_cons pe_int pa_nil))) (fun _ _ => rfl)))
    (pss_one (ps_for PassesOwn.never rfl (pi_range1 (by rfl) z_range (pa_cons (pe_ix ix_list (pe_lst (pa_cons pe_int (pa_cons pe_int (pa_cons pe_int (pa_cons pe_int (pa_cons pe_int (pa_cons pe_int (pa_cons pe_int (pa_cons pe_int pa_nil))))))))) (pe_kn G_take (hr.mono (by decide)) (by rfl) (pa_cons (pv 0) (pa_cons pe_int pa_nil))) (fun _ _ => rfl)) pa_nil)) (pg_name (i := 4) sc_name.nd rfl (.inl rfl))
    (pss_one (ps_set (i := 3) sc_name.nd rfl (.inl rfl) (pe_op op_add_str (pv 3) (pe_ix ix_str pe_str (pe_kn G_take (hr.mono (by decide)) (by rfl) (pa_cons (pv 0) (pa_cons pe_int pa_nil))) (fun _ _ => rfl)))))))))
    (pss_cons (ps_if (pt_cmpR op_notIn_seq (pv 3) (pv 1) (by rfl))
    (pss_one (ps_ret (pv 3)))
    pss_nil)
    (pss_cons (ps_for PassesOwn.never rfl (pi_range1 (by rfl) z_range (pa_cons (pe_op op_add (pe_callB call_len_seq (by rfl) z_len (by decide +kernel) (pa_cons (pv 1) pa_nil)) pe_int) pa_nil)) (pg_name (i := 4) sc_name.nd rfl (.inl rfl))
    (pss_one (ps_if (pt_cmpR op_notIn_seq (pe_op op_add_str (pe_slice sl_str (pv 3) po_none (po_some pe_int)) (pe_callTy call_str_int (by rfl) z_str (by decide +kernel) (pa_cons (pv 4) pa_nil))) (pv 1) (by rfl))
    (pss_one (ps_ret (pe_op op_add_str (pe_slice sl_str (pv 3) po_none (po_some pe_int)) (pe_callTy call_str_int (by rfl) z_str (by decide +kernel) (pa_cons (pv 4) pa_nil)))))
    pss_nil)))
    (pss_one (ps_ret (pv 3)))))))), ?_⟩
  show (_ : TS) _ [some (.ref p), some (.ref h), none, none, none] _
  repeat walk_at "st"
  refine ⟨sz rfl, fun l1 n1 => ?_⟩
  obtain ⟨J1, e1, s1, k1⟩ := nw n1 (.lst [V.str "free", .str "gone", .str "kept", .str "line", .str "cut", .str "put", .str "all", .str "at"])
  rw [← e1]
  repeat walk_at "st"
  refine ⟨sz rfl, fun l2 n2 => ?_⟩
  obtain ⟨J2, e2, s2, k2⟩ := nw n2 (.lst [V.str "same", .str "take", .str "lock", .str "group", .str "watch"])
  rw [← e2]
  repeat walk_at "st"
  refine ⟨l1, l2, _, _, rfl, rfl, s2 _ _ k1, k2, sz rfl, fun l3 n3 => ?_⟩
  obtain ⟨J3, e3, s3, k3⟩ := nw n3 (.lst ([V.str "free", .str "gone", .str "kept", .str "line", .str "cut", .str "put", .str "all", .str "at"] ++ [V.str "same", .str "take", .str "lock", .str "group", .str "watch"]))
  rw [← e3]
  have sJ : Same H J3 := s1.trans (s2.trans s3)
  have hS3 := sJ.seq hS
  have hp3 := hp.same sJ
  clear e1 e2 e3
  repeat walk_at "st"
  have stay : ∀ {H1 H2 : Hp}, But p H1 H2 → SqL K H1 h (zs.map V.str) → SqL K H2 h (zs.map V.str) := fun b1 hs => by
    rcases hs with (hs | ⟨o, hs⟩) | hs
    · exact .inl (.inl (b1 _ _ nph hs))
    · exact .inl (.inr ⟨o, b1 _ _ nph hs⟩)
    · exact .inr hs
  have one : ∀ c : Nat, (⟨#[c]⟩ : Str).length = 1 := fun _ => rfl
  refine r_cut (fun σ H' => ∃ (z : Str) (y : Option V), σ = [some (.ref p), some (.ref h), some (.ref l3), some (.str z), y] ∧ But p H H' ∧ Pl H' p (b + 20) ∧ SqL K H' h (zs.map V.str) ∧ (z.length ≤ 12 ∧ Gd z) ∧ PyData.strOk z = true) ?_ (fun N J => ?_)
  · rintro σ H4 ⟨z, y, rfl, b4, hp4, hS4, ⟨hz, gz⟩, oz⟩
    have hz2 : z.length ≤ sizeLine := Nat.le_trans hz (by decide)
    refine r_seq ?_
    repeat walk_at "st"
    refine ⟨h, _, rfl, .inl hS4, rfl, by rw [List.all_map]; exact List.all_eq_true.mpr (fun _ _ => rfl), ?_⟩
    repeat walk_at "st"
    have out : ∀ (x : Str), x.length ≤ 12 → Gd x → PyData.strOk x = true → x ∉ zs → Q (.str x) H4 := fun x hx gx ox nx => q x H4 b4 (hp4.mono (by omega)) ⟨⟨hx, gx⟩, ox⟩ nx
    rw [inV_str]
    cases iz : decide (z ∈ zs) with
    | false =>
      refine r_dT rfl ?_
      repeat walk_at "st"
      exact out z (by omega) gz oz (of_decide_eq_false iz)
    | true =>
      refine r_dF rfl ?_
      repeat walk_at "st"
      refine r_seq ?_
      refine ⟨_, rfl, h, _, rfl, .inl hS4, _, _, rfl, rfl, _, rfl, ?_, ?_, ?_⟩
      · rw [List.length_map]; omega
      · rw [List.length_map]; omega
      have en : ((((zs.map V.str).length : Nat) : Int) + 1).toNat = zs.length + 1 := by rw [List.length_map]; omega
      rw [en]
      refine for_range (n := zs.length + 1) (fun i σ H1 => H1 = H4 ∧ (∀ j : Nat, j < i → cutS z none (some 9) ++ Str.ofString (toString (0 + (j : Int))) ∈ zs) ∧ ∃ y, σ = [some (.ref p), some (.ref h), some (.ref l3), some (.str z), y]) ⟨rfl, fun j hj => absurd hj (Nat.not_lt_zero j), _, rfl⟩ ?_ ?_
      · rintro i σ H1 hi ⟨rfl, had, y, rfl⟩
        have hc : (cutS z none (some 9)).length ≤ 9 := cut9_len
        obtain ⟨ht, ho, hl⟩ := num_short i (by omega)
        have hcat : (cutS z none (some 9)).length + (Str.ofString (toString (0 + (i : Int)))).length ≤ sizeLine := Nat.le_trans (show _ ≤ 1000 by omega) (by decide)
        repeat walk_at "st"
        refine ⟨.str z, rfl, 9, rfl, z, rfl, hz2, ?_⟩
        repeat walk_at "st"
        refine ⟨_, rfl, hl, ?_⟩
        refine ⟨_, _, rfl, rfl, hcat, ?_⟩
        repeat walk_at "st"
        refine ⟨h, _, rfl, .inl hS4, rfl, by rw [List.all_map]; exact List.all_eq_true.mpr (fun _ _ => rfl), ?_⟩
        repeat walk_at "st"
        rw [inV_str]
        cases iz' : decide (cutS z none (some 9) ++ Str.ofString (toString (0 + (i : Int))) ∈ zs) with
        | false =>
          refine r_dT rfl ?_
          repeat walk_at "st"
          refine ⟨.str z, rfl, 9, rfl, z, rfl, hz2, ?_⟩
          repeat walk_at "st"
          refine ⟨_, rfl, hl, ?_⟩
          refine ⟨_, _, rfl, rfl, hcat, ?_⟩
          exact out _ (by rw [cat_len]; omega) (gz.cut9.cat (num_figs i (by omega))) (strOk_cat (strOk_cut oz) ho) (of_decide_eq_false iz')
        | true =>
          refine r_dF rfl ?_
          repeat walk_at "st"
          refine ⟨rfl, fun j hj => ?_, _, rfl⟩
          rcases Nat.lt_succ_iff_lt_or_eq.mp hj with h | rfl
          · exact had j h
          · exact of_decide_eq_true iz'
      · rintro σ H1 ⟨rfl, had, y, rfl⟩
        have bad := pigeon (zs.length + 1) zs (fun i j hi hj e => num_apart i (by omega) j (by omega) (cat_inj e)) had
        omega
  · repeat walk_at "st"
    refine ⟨p, _, b, rfl, hp3, by omega, by decide, by decide, fun r4 H4 b4 hp4 r40 r41 => ?_⟩
    have b4' : But p H H4 := (But.same sJ).trans b4
    have nl3 : l3 ≠ p := fun z => by
      obtain ⟨_, _, _, h1, _⟩ := (hp.same s1).same s2
      rw [z, h1] at n3
      cases n3
    repeat walk_at "st"
    refine r_ite (fun c => ?_) (fun c => ?_)
    · repeat walk_at "st"
      refine ⟨p, _, _, rfl, hp4, by omega, by decide, by decide, fun r5 H5 b5 hp5 r50 r51 => ?_⟩
      obtain ⟨m, am, hm⟩ : ∃ m : Str, atI ([V.str "free", .str "gone", .str "kept", .str "line", .str "cut", .str "put", .str "all", .str "at"] ++ [V.str "same", .str "take", .str "lock", .str "group", .str "watch"]) r5 = some (.str m) ∧ (m.length ≤ 12 ∧ Gd m) ∧ PyData.strOk m = true := by
        have : r5 = 0 ∨ r5 = 1 ∨ r5 = 2 ∨ r5 = 3 ∨ r5 = 4 ∨ r5 = 5 ∨ r5 = 6 ∨ r5 = 7 ∨ r5 = 8 ∨ r5 = 9 ∨ r5 = 10 ∨ r5 = 11 ∨ r5 = 12 := by omega
        rcases this with rfl | rfl | rfl | rfl | rfl | rfl | rfl | rfl | rfl | rfl | rfl | rfl | rfl
        all_goals exact ⟨_, rfl, ⟨by decide +kernel, show gdL _ = true by decide +kernel⟩, by decide +kernel⟩
      refine r_ixL (lstOf (b5 _ _ nl3 (b4 _ _ nl3 k3))) am ?_
      repeat walk_at "st"
      exact J _ _ ⟨m, _, rfl, b4'.trans b5, hp5.mono (by omega), stay b5 (stay b4 hS3), hm⟩
    · repeat walk_at "st"
      refine ⟨p, _, _, rfl, hp4, by omega, by decide, by decide, fun r5 H5 b5 hp5 r50 r51 => ?_⟩
      obtain ⟨c5, hc5⟩ := at_strK (z := "abcdefghijklmnopqrstuvwxyz") (n := 26) (by decide +kernel) r50 r51
      refine ⟨_, r5, c5, rfl, rfl, by decide +kernel, hc5, ?_⟩
      repeat walk_at "st"
      refine ⟨sz rfl, fun l6 n6 => ?_⟩
      have s6 := same_new n6 (.lst [V.int 0, .int 0, .int 1, .int 1, .int 2, .int 3, .int 6, .int 11])
      repeat walk_at "st"
      refine ⟨p, _, _, rfl, hp5.same s6, by omega, by decide, by decide, fun r6 H6 b6 hp6 r60 r61 => ?_⟩
      have nl6 : l6 ≠ p := fun z => by
        obtain ⟨_, _, _, h1, _⟩ := hp5
        rw [z, h1] at n6
        cases n6
      obtain ⟨m, am, m0, m1⟩ : ∃ m : Int, atI [V.int 0, .int 0, .int 1, .int 1, .int 2, .int 3, .int 6, .int 11] r6 = some (.int m) ∧ 0 ≤ m ∧ m ≤ 11 := by
        have : r6 = 0 ∨ r6 = 1 ∨ r6 = 2 ∨ r6 = 3 ∨ r6 = 4 ∨ r6 = 5 ∨ r6 = 6 ∨ r6 = 7 := by omega
        rcases this with rfl | rfl | rfl | rfl | rfl | rfl | rfl | rfl
        all_goals exact ⟨_, rfl, by decide, by decide⟩
      refine r_ixL (lstOf (b6 _ _ nl6 upd_same)) am ?_
      repeat walk_at "st"
      have b6' : But p H H6 := b4'.trans (b5.trans ((But.same s6).trans b6))
      have hS6 := stay b6 (s6.seq (stay b5 (stay b4 hS3)))
      refine ⟨_, rfl, by omega, by omega, for_range (n := m.toNat) (fun i σ H1 => But p H H1 ∧ Pl H1 p (b + 3 + i) ∧ SqL K H1 h (zs.map V.str) ∧ ∃ (z : Str) (y : Option V), σ = [some (.ref p), some (.ref h), some (.ref l3), some (.str z), y] ∧ (z.length ≤ 1 + i ∧ Gd z) ∧ PyData.strOk z = true) ⟨b6', hp6.mono (by omega), hS6, _, _, rfl, ⟨by rw [one]; omega, gd1 hc5⟩, strOk_one (by decide +kernel) hc5⟩ ?_ ?_⟩
      · rintro i σ H7 hi ⟨b7, hp7, hS7, z, y, rfl, ⟨hz, gz⟩, oz⟩
        repeat walk_at "st"
        refine ⟨p, _, _, rfl, hp7, by omega, by decide, by decide, fun r8 H8 b8 hp8 r80 r81 => ?_⟩
        obtain ⟨c8, hc8⟩ := at_strK (z := "abcdefghijklmnopqrstuvwxyz0123456789") (n := 36) (by decide +kernel) r80 r81
        refine ⟨_, r8, c8, rfl, rfl, by decide +kernel, hc8, ?_⟩
        refine ⟨_, _, rfl, rfl, Nat.le_trans (show _ ≤ 1000 by rw [one]; omega) (by decide), ?_⟩
        repeat walk_at "st"
        exact ⟨b7.trans b8, hp8.mono (by omega), stay b8 hS7, _, _, rfl, ⟨by rw [cat_len, one]; omega, gz.cat (by show (isLf c8 && true) = true; rw [all_one (f := isLf) (by decide +kernel) hc8]; rfl)⟩, strOk_cat oz (strOk_one (by decide +kernel) hc8)⟩
      · rintro σ H7 ⟨b7, hp7, hS7, z, y, rfl, ⟨hz, gz⟩, oz⟩
        repeat walk_at "st"
        exact J _ _ ⟨z, y, rfl, b7, hp7.mono (by omega), hS7, ⟨by omega, gz⟩, oz⟩
theorem ok_l_grounds (F : Fn K mg "_law_grounds" s_l_grounds) (z_list : mg "list" = none) : Kn P w K mg base 1 "_law_grounds" ["_law_making_here"] (spGroundsL K) := by
  refine F.kn sc_l_grounds (fun vs H Q E h => ?_) (fun f cdv A outer s H vs Q E hr h => ?_) (fun _ _ _ _ _ _ us hl => match us, hl with | [_], _ => rfl)
  · obtain ⟨m, x, ns, L, rfl, _⟩ := h
    rfl
  obtain ⟨m, x, ns, L, rfl, ⟨r, tm, tl⟩, ⟨⟨so, g, tx, hn⟩, hz⟩, q⟩ := h
  refine ⟨_, (pss_cons (ps_if (pt_cmpR op_eq (pe_ix ix_tup (pv 0) pe_int (fun _ _ => rfl)) pe_str (nomark _))
    (pss_one (ps_ret (pe_lst pa_nil)))
    pss_nil)
    (pss_cons (ps_if (PW.pt (pw_or (pt_cmpR op_eq (pe_ix ix_tup (pv 0) pe_int (fun _ _ => rfl)) pe_str (nomark _)) (pw_or1 (pt_cmpR op_eq (pe_ix ix_tup (pv 0) pe_int (fun _ _ => rfl)) pe_str (nomark _)))))
    (pss_one (ps_ret (pe_lst (pa_cons (pe_ix ix_tup (pv 0) pe_int (fun _ _ => rfl)) (pa_cons (pe_ix ix_tup (pv 0) pe_int (fun _ _ => rfl)) pa_nil)))))
    pss_nil)
    (pss_one (ps_ret (pe_callTy call_list_of (by rfl) z_list (by decide +kernel) (pa_cons (pe_slice sl_tup (pv 0) (po_some pe_int) po_none) pa_nil)))))), ?_⟩
  show (_ : TS) _ [some (.ref m)] _
  repeat walk_at "st"
  refine r_seq ?_
  repeat walk_at "st"
  refine r_ixT0 tm ?_
  repeat walk_at "st"
  refine r_ite (fun c => ?_) (fun c => ?_)
  · repeat walk_at "st"
    refine ⟨sz rfl, fun l nl => ?_⟩
    have : ns = [] := List.eq_nil_of_length_eq_zero (by rw [hn]; exact (many_of tx).1 c)
    subst this
    exact q l _ (same_new nl _) nl upd_same
  repeat walk_at "st"
  have two : x = "share" ∨ x = "cut" → (tLst (tCons (tOp (rIxT K) (tVar 0) (tC (.int 1))) (tCons (tOp (rIxT K) (tVar 0) (tC (.int 2))) tNil))) [some (.ref m)] H Q := by
    intro c2
    obtain ⟨a, b, rfl⟩ := pair_of (by rw [hn]; exact two_of tx (c2.elim .inl fun h => .inr (.inl h)))
    repeat walk_at "st"
    refine r_ixT tm at_1 ?_
    repeat walk_at "st"
    refine r_ixT tm at_2 ?_
    repeat walk_at "st"
    refine ⟨sz rfl, fun l nl => ?_⟩
    exact q l _ (same_new nl _) nl upd_same
  refine r_seq ?_
  repeat walk_at "st"
  refine r_ixT0 tm ?_
  repeat walk_at "st"
  refine r_ite (fun c2 => ?_) (fun c2 => ?_)
  · exact two (.inl c2)
  repeat walk_at "st"
  refine r_ixT0 tm ?_
  repeat walk_at "st"
  refine r_ite (fun c3 => ?_) (fun c3 => ?_)
  · exact two (.inr c3)
  have := tl.nil c c2 c3
  subst this
  rw [List.append_nil] at tm
  repeat walk_at "st"
  refine r_slR ?_
  repeat walk_at "st"
  refine r_partR ?_
  repeat walk_at "st"
  refine ⟨m, _, rfl, tm, cut_part, fun p hp => ?_⟩
  rw [cut_tail]
  repeat walk_at "st"
  have s1 := same_new hp (.tup (ns.map V.str))
  refine ⟨p, _, rfl, .inr (tupOf upd_same), fun l hl => ?_⟩
  have s2 := same_new hl (.lst (ns.map V.str))
  exact q l _ (s1.trans s2) (s1.free hl) upd_same
theorem ok_sort (F : Fn K mg "_law_sort" s_sort) : Kn P w K mg base 1 "_law_sort" ["_law_making_here"] (spSortL K) := by
  refine F.kn sc_sort (fun vs H Q E h => ?_) (fun f cdv A outer s H vs Q E hr h => ?_) (fun _ _ _ _ _ _ us hl => match us, hl with | [_], _ => rfl)
  · obtain ⟨m, x, ns, L, rfl, _⟩ := h
    rfl
  obtain ⟨m, x, ns, L, rfl, ⟨r, tm, tl⟩, ⟨⟨so, g, tx, hn⟩, hz⟩, q⟩ := h
  rw [sOf_eq tx] at q
  obtain ⟨s1, s2, s3, s4⟩ := sorts_of tx
  refine ⟨_, (pss_cons (ps_if (pt_cmpR op_in_seq (pe_ix ix_tup (pv 0) pe_int (fun _ _ => rfl)) (pe_lst (pa_cons pe_str (pa_cons pe_str (pa_cons pe_str pa_nil)))) (by rfl))
    (pss_one (ps_ret pe_str))
    pss_nil)
    (pss_cons (ps_if (pt_cmpR op_in_seq (pe_ix ix_tup (pv 0) pe_int (fun _ _ => rfl)) (pe_lst (pa_cons pe_str (pa_cons pe_str (pa_cons pe_str (pa_cons pe_str (pa_cons pe_str pa_nil)))))) (by rfl))
    (pss_one (ps_ret pe_str))
    pss_nil)
    (pss_cons (ps_if (pt_cmpR op_eq (pe_ix ix_tup (pv 0) pe_int (fun _ _ => rfl)) pe_str (nomark _))
    (pss_one (ps_ret pe_str))
    pss_nil)
    (pss_one (ps_ret pe_str))))), ?_⟩
  show (_ : TS) _ [some (.ref m)] _
  repeat walk_at "st"
  refine r_seq ?_
  repeat walk_at "st"
  refine r_ixT0 tm ?_
  repeat walk_at "st"
  refine ⟨sz rfl, fun l1 n1 => ?_⟩
  obtain ⟨H1, e1, g1, k1⟩ := nw n1 (.lst ((["line", "along", "upright"] : List Str).map V.str))
  refine r_inSL (zs := ["line", "along", "upright"]) (lstOf upd_same) ?_
  rw [show upd H l1 (.lst [V.str "line", .str "along", .str "upright"]) = H1 from e1.symm]
  repeat walk_at "st"
  refine r_ite (fun c => ?_) (fun c => ?_)
  · repeat walk_at "st"
    rw [s1 c] at q
    exact q _ g1
  repeat walk_at "st"
  refine r_seq ?_
  repeat walk_at "st"
  refine r_ixT0 (g1.tp tm) ?_
  repeat walk_at "st"
  refine ⟨sz rfl, fun l2 n2 => ?_⟩
  obtain ⟨H2, e2, g2, k2⟩ := nw n2 (.lst ((["inline", "round", "alike", "beside", "square"] : List Str).map V.str))
  refine r_inSL (zs := ["inline", "round", "alike", "beside", "square"]) (lstOf upd_same) ?_
  rw [show upd H1 l2 (.lst [V.str "inline", .str "round", .str "alike", .str "beside", .str "square"]) = H2 from e2.symm]
  have g12 := g1.trans g2
  repeat walk_at "st"
  refine r_ite (fun c2 => ?_) (fun c2 => ?_)
  · repeat walk_at "st"
    rw [s2 c2] at q
    exact q _ g12
  repeat walk_at "st"
  refine r_seq ?_
  repeat walk_at "st"
  refine r_ixT0 (g12.tp tm) ?_
  repeat walk_at "st"
  refine r_ite (fun c3 => ?_) (fun c3 => ?_)
  · repeat walk_at "st"
    rw [s3 c3] at q
    exact q _ g12
  repeat walk_at "st"
  rw [s4 c c2 c3] at q
  exact q _ g12
theorem ok_l_weight (F : Fn K mg "_law_weight" s_l_weight) (G_l_grounds : Kn P w K mg base 1 "_law_grounds" ["_law_making_here"] (spGroundsL K)) (z_sum : mg "sum" = none) : Kn P w K mg base 2 "_law_weight" ["_law_making_here", "_law_sorts", "_law_heavy"] (spWeight K) := by
  refine F.kn sc_l_weight (fun vs H Q E h => ?_) (fun f cdv A outer s H vs Q E hr h => ?_) (fun _ _ _ _ _ _ us hl => match us, hl with | [_, _, _], _ => rfl)
  · obtain ⟨m, S, W, x, ns, L, rfl, _⟩ := h
    rfl
  obtain ⟨m, S, W, x, ns, L, rfl, hm, ok, dc, q⟩ := h
  have hm' := hm
  have ok' := ok
  obtain ⟨r, tm, tl⟩ := hm'
  obtain ⟨⟨so, g, tx, hn⟩, hz⟩ := ok'
  refine ⟨_, (pss_cons (ps_setLc (i := 3) (own := [("_law_name_here", 4)]) (g := gName 4) (by rfl) sc_l_weight.nd rfl rfl (sw_true rfl rfl rfl (by decide +kernel)) (pi_list (pe_kn G_l_grounds (hr.mono (by decide)) (by rfl) (pa_cons (pv 0) pa_nil))) (blkOk_by (own := [("_law_name_here", 4)]) (N := ["_law_making_here", "_law_sorts", "_law_heavy", "_law_each", "_law_name_here"]) (sc := (defScope s_l_weight)) (by decide +kernel)) (fun _ _ _ _ _ => pg_name (i := 4) sc_l_weight.nd rfl (.inl rfl)) (fun _ _ _ _ _ => pts_nil) (fun _ _ _ _ _ => (pe_dget (u1 hr.units) (pv 2) (pv 4) (fun _ _ => rfl))))
    (pss_cons (ps_if (pt_cmpR op_eq (pe_ix ix_tup (pv 0) pe_int (fun _ _ => rfl)) pe_str (nomark _))
    (pss_one (ps_ret pe_int))
    pss_nil)
    (pss_cons (ps_if (PW.pt (pw_or (pt_cmpR op_eq (pe_ix ix_tup (pv 0) pe_int (fun _ _ => rfl)) pe_str (nomark _)) (pw_or1 (pt_cmpR op_eq (pe_ix ix_tup (pv 0) pe_int (fun _ _ => rfl)) pe_str (nomark _)))))
    (pss_one (ps_ret (pe_op op_add (pe_ix ix_list (pv 3) pe_int (fun _ _ => rfl)) (pe_op op_mulW pe_int (pe_ix ix_list (pv 3) pe_int (fun _ _ => rfl))))))
    pss_nil)
    (pss_cons (ps_if (PW.pt (pw_and (pt_cmpR op_eq (pe_ix ix_tup (pv 0) pe_int (fun _ _ => rfl)) pe_str (nomark _)) (pw_and1 (pt_cmpR op_eq (pe_dget (u1 hr.units) (pv 1) (pe_ix ix_tup (pv 0) pe_int (fun _ _ => rfl)) (fun _ _ => rfl)) pe_str (nomark _)))))
    (pss_one (ps_ret (pe_op op_mulW pe_int (pe_op op_add (pe_ix ix_list (pv 3) pe_int (fun _ _ => rfl)) (pe_ix ix_list (pv 3) pe_int (fun _ _ => rfl))))))
    pss_nil)
    (pss_cons (ps_if (pt_cmpR op_eq (pe_ix ix_tup (pv 0) pe_int (fun _ _ => rfl)) pe_str (nomark _))
    (pss_one (ps_ret (pe_op op_add (pe_op op_mulW pe_int (pe_ix ix_list (pv 3) pe_int (fun _ _ => rfl))) (pe_ix ix_list (pv 3) pe_int (fun _ _ => rfl)))))
    pss_nil)
    (pss_cons (ps_if (PW.pt (pw_or (pt_cmpR op_eq (pe_ix ix_tup (pv 0) pe_int (fun _ _ => rfl)) pe_str (nomark _)) (pw_or1 (pt_cmpR op_eq (pe_ix ix_tup (pv 0) pe_int (fun _ _ => rfl)) pe_str (nomark _)))))
    (pss_one (ps_ret (pe_op op_mulW pe_int (pe_callB (cr_sum (by rfl)) (by rfl) z_sum (by decide +kernel) (pa_cons (pv 3) pa_nil)))))
    pss_nil)
    (pss_one (ps_ret (pe_callB (cr_sum (by rfl)) (by rfl) z_sum (by decide +kernel) (pa_cons (pv 3) pa_nil)))))))))), ?_⟩
  show (_ : TS) _ [some (.ref m), some (.ref S), some (.ref W), none, none] _
  have len : ns.length < 64 := by rw [hn]; exact few tx
  repeat walk_at "st"
  refine r_lcM ?_
  repeat walk_at "st"
  refine ⟨m, x, ns, L, rfl, hm, ok, fun l H1 s1 n1 e1 => ?_⟩
  refine lc_map (fun v => match v with | .str z => .int (wtE L z) | _ => .non) (lstOf e1) (by rw [List.length_map]; omega) (fun _ => rfl) (fun i v H' hv g' R k => ?_) fun D H2 s2 n2 e2 => ?_
  · rw [List.getElem?_map] at hv
    obtain ⟨z, hz1, rfl⟩ := Option.map_eq_some_iff.mp hv
    refine r_dg ?_
    repeat walk_at "st"
    refine ⟨W, _, rfl, get_load (g' _ _ (s1 _ _ dc.w)) (hz z (List.mem_of_getElem? hz1)).1, ?_⟩
    exact k _ (Same.refl _)
  rw [List.map_map] at e2
  replace e2 : H2 D = some (.lst ((ns.map (wtE L)).map V.int)) := by rw [List.map_map]; exact e2
  have g2 := s1.trans s2
  replace dc := dc.same g2
  replace tm := g2.tp tm
  have hl := dc.light
  have wb := fun z => hl.wt z
  have two : x = "foot" ∨ x = "mirror" ∨ x = "cut" → ∃ a b, ns = [a, b] := fun h => pair_of (by rw [hn]; exact two_of tx (by rcases h with h | h | h <;> simp [h]))
  clear s2 s1 n2 e1 hm
  repeat walk_at "st"
  refine r_seq ?_
  repeat walk_at "st"
  refine r_ixT0 tm ?_
  repeat walk_at "st"
  refine r_ite (fun c => ?_) (fun c => ?_)
  · repeat walk_at "st"
    rw [show wOf x ns L = 1 by unfold wOf; rw [if_pos c]] at q
    exact q _ g2
  repeat walk_at "st"
  have fm : x = "foot" ∨ x = "mirror" → tOp (rI0 fun i j => V.int (i + j)) (tOp (rIxL K) (tVar 3) (tC (.int 0))) (tOp (rI CMulW fun i j => V.int (i * j)) (tC (.int 2)) (tOp (rIxL K) (tVar 3) (tC (.int 1)))) [some (.ref m), some (.ref S), some (.ref W), some (.ref D), none] H2 Q := by
    intro c1
    obtain ⟨a, b, rfl⟩ := two (c1.elim .inl fun h => .inr (.inl h))
    have ha := wb a
    have hb := wb b
    repeat walk_at "st"
    refine ⟨_, _, rfl, rfl, cm_small (by omega) (by omega), ?_⟩
    repeat walk_at "st"
    rw [show wOf x [a, b] L = wtE L a + 2 * wtE L b by unfold wOf; rw [if_neg c, if_pos c1]; rfl] at q
    exact q _ g2
  refine r_seq ?_
  repeat walk_at "st"
  refine r_ixT0 tm ?_
  repeat walk_at "st"
  refine r_ite (fun c1 => fm (.inl c1)) (fun c1 => ?_)
  repeat walk_at "st"
  refine r_ixT0 tm ?_
  repeat walk_at "st"
  refine r_ite (fun c0 => fm (.inr c0)) (fun c0 => ?_)
  have c1' : ¬ (x = "foot" ∨ x = "mirror") := fun h => h.elim c1 c0
  clear fm
  repeat walk_at "st"
  with_reducible refine r_cut (fun σ H' => σ = [some (.ref m), some (.ref S), some (.ref W), some (.ref D), none] ∧ H' = H2 ∧ (x = "cut" → ¬ srtE L (ns.getD 0 "") = "circle")) ?U1 ?V1
  case V1 =>
    intro N J
    repeat walk_at "st"
    refine r_ixT0 tm ?_
    repeat walk_at "st"
    refine r_ite (fun c2 => ?_) (fun c2 => ?_)
    · obtain ⟨a, b, rfl⟩ := two (.inr (.inr c2))
      have ha := wb a
      have hb := wb b
      repeat walk_at "st"
      refine r_dg ?_
      repeat walk_at "st"
      refine r_ixT tm at_1 ?_
      repeat walk_at "st"
      refine ⟨S, _, rfl, get_sort dc.s (hz a (by simp)).1, ?_⟩
      repeat walk_at "st"
      refine r_ite (fun c3 => ?_) (fun c3 => ?_)
      · repeat walk_at "st"
        refine ⟨_, _, rfl, rfl, cm_small (by omega) (by omega), ?_⟩
        repeat walk_at "st"
        rw [show wOf x [a, b] L = 5 * (wtE L a + wtE L b) by unfold wOf; rw [if_neg c, if_neg c1', if_pos c2]; exact if_pos c3] at q
        exact q _ g2
      · repeat walk_at "st"
        exact J _ _ ⟨rfl, rfl, fun _ => c3⟩
    · repeat walk_at "st"
      exact J _ _ ⟨rfl, rfl, fun h => absurd h c2⟩
  rintro σ Hx ⟨rfl, rfl, c2⟩
  refine r_seq ?_
  repeat walk_at "st"
  refine r_ixT0 tm ?_
  repeat walk_at "st"
  refine r_ite (fun c3 => ?_) (fun c3 => ?_)
  · obtain ⟨a, b, rfl⟩ := two (.inr (.inr c3))
    have ha := wb a
    have hb := wb b
    repeat walk_at "st"
    refine ⟨_, _, rfl, rfl, cm_small (by omega) (by omega), ?_⟩
    repeat walk_at "st"
    rw [show wOf x [a, b] L = 2 * wtE L a + wtE L b by unfold wOf; rw [if_neg c, if_neg c1', if_pos c3]; exact if_neg (c2 c3)] at q
    exact q _ g2
  repeat walk_at "st"
  obtain ⟨u0, u1'⟩ := sum_small hl ns
  have ra : x = "round" ∨ x = "alike" → tOp (rI CMulW fun i j => V.int (i * j)) (tC (.int 2)) (tCB (rSum K) (tCons (tVar 3) tNil)) [some (.ref m), some (.ref S), some (.ref W), some (.ref D), none] Hx Q := by
    intro c4
    repeat walk_at "st"
    refine ⟨D, _, rfl, lstOf e2, ?_⟩
    repeat walk_at "st"
    refine ⟨_, _, rfl, rfl, cm_small (by omega) (by omega), ?_⟩
    repeat walk_at "st"
    rw [show wOf x ns L = 2 * (ns.map (wtE L)).sum by unfold wOf; rw [if_neg c, if_neg c1', if_neg c3, if_pos c4]] at q
    exact q _ g2
  refine r_seq ?_
  repeat walk_at "st"
  refine r_ixT0 tm ?_
  repeat walk_at "st"
  refine r_ite (fun c4 => ra (.inl c4)) (fun c4 => ?_)
  repeat walk_at "st"
  refine r_ixT0 tm ?_
  repeat walk_at "st"
  refine r_ite (fun c5 => ra (.inr c5)) (fun c5 => ?_)
  repeat walk_at "st"
  refine ⟨D, _, rfl, lstOf e2, ?_⟩
  rw [show wOf x ns L = (ns.map (wtE L)).sum by unfold wOf; rw [if_neg c, if_neg c1', if_neg c3, if_neg (fun h => h.elim c4 c5)]] at q
  exact q _ g2
theorem ok_making (F : Fn K mg "_law_making" s_making) (G_take : Kn P w K mg base 1 "_law_take" ["_law_pool_here", "_law_wide"] spTake) (G_low : Kn P w K mg base 2 "_law_low" ["_law_top", "_law_bottom"] spLow) (G_place : Kn P w K mg base 4 "_law_place" ["_law_pool_here"] (spPlaceB K)) (z_len : mg "len" = none) : Kn P w K mg base 5 "_law_making" ["_law_pool_here", "_law_by"] (spMaking K) := by
  refine F.kn sc_making (fun vs H Q E h => ?_) (fun f cdv A outer s H vs Q E hr h => ?_) (fun _ _ _ _ _ _ us hl => match us, hl with | [_, _], _ => rfl)
  · obtain ⟨p, B, P, Ln, C, Z, pts, lns, crs, cls, b, rfl, _⟩ := h
    rfl
  obtain ⟨p, B, P, Ln, C, Z, pts, lns, crs, cls, b, rfl, hp0, hb, by0, q⟩ := h
  have bb0 := But.refl p H
  obtain ⟨fP, fL, fC, _⟩ := by0.f
  have fin : ∀ (x s : Str) (g ns : List Str) (r : List V) (Hc : Hp) (k : Int), (x, s, g) ∈ wordsTab → Paired (Fit pts lns crs) g ns → Tl K Hc x r → But p H Hc → Pl Hc p k → k ≤ b + 100 → ∀ m, Hc m = none → Q (.ref m) (upd Hc m (.tup (.str x :: (ns.map V.str ++ r)))) := by
    intro x s g ns r Hc k tx pr tl bc pl le m nm
    have s1 := same_new nm (.tup (.str x :: (ns.map V.str ++ r)))
    exact q m x s g ns _ (bc.trans (But.same s1)) ((pl.same s1).mono le) ⟨r, tupOf upd_same, tl.kp (Kp.same s1)⟩ tx pr
  refine ⟨_, (pss_cons (ps_set (i := 2) sc_making.nd rfl (.inl rfl) (pe_dget (u1 hr.units) (pv 1) pe_str (fun _ _ => rfl)))
    (pss_cons (ps_set (i := 3) sc_making.nd rfl (.inl rfl) (pe_dget (u1 hr.units) (pv 1) pe_str (fun _ _ => rfl)))
    (pss_cons (ps_set (i := 4) sc_making.nd rfl (.inl rfl) (pe_dget (u1 hr.units) (pv 1) pe_str (fun _ _ => rfl)))
    (pss_cons (ps_set (i := 5) sc_making.nd rfl (.inl rfl) (pe_kn G_take (hr.mono (by decide)) (by rfl) (pa_cons (pv 0) (pa_cons pe_int pa_nil))))
    (pss_cons (ps_if (PW.pt (pw_or (pt_cmpR op_lt (pv 5) pe_int (nomark _)) (pw_or1 (pt_cmpR op_eq (pe_callB call_len_seq (by rfl) z_len (by decide +kernel) (pa_cons (pv 2) pa_nil)) pe_int (nomark _)))))
    (pss_one (ps_ret (pe_op op_catT (pe_tup (pa_cons pe_str pa_nil)) (pe_kn G_place (hr.mono (by decide)) (by rfl) (pa_cons (pv 0) pa_nil)))))
    pss_nil)
    (pss_cons (ps_set (i := 6) sc_making.nd rfl (.inl rfl) (pe_ix ix_list (pv 2) (pe_kn G_take (hr.mono (by decide)) (by rfl) (pa_cons (pv 0) (pa_cons (pe_callB call_len_seq (by rfl) z_len (by decide +kernel) (pa_cons (pv 2) pa_nil)) pa_nil))) (fun _ _ => rfl)))
    (pss_cons (ps_set (i := 7) sc_making.nd rfl (.inl rfl) (pe_ix ix_list (pv 2) (pe_kn G_take (hr.mono (by decide)) (by rfl) (pa_cons (pv 0) (pa_cons (pe_callB call_len_seq (by rfl) z_len (by decide +kernel) (pa_cons (pv 2) pa_nil)) pa_nil))) (fun _ _ => rfl)))
    (pss_cons (ps_if (pt_cmpR op_eq (pv 5) pe_int (nomark _))
    (pss_one (ps_ret (pe_tup (pa_cons pe_str (pa_cons (pv 6) (pa_cons (pv 7) (pa_cons (pe_kn G_low (hr.mono (by decide)) (by rfl) (pa_cons (pe_op op_sub (pe_kn G_take (hr.mono (by decide)) (by rfl) (pa_cons (pv 0) (pa_cons pe_int pa_nil))) pe_int) (pa_cons (pe_op op_add pe_int (pe_kn G_take (hr.mono (by decide)) (by rfl) (pa_cons (pv 0) (pa_cons pe_int pa_nil)))) pa_nil))) pa_nil)))))))
    pss_nil)
    (pss_cons (ps_if (pt_cmpR op_lt (pv 5) pe_int (nomark _))
    (pss_one (ps_ret (pe_tup (pa_cons (pe_ix ix_list (pe_lst (pa_cons pe_str (pa_cons pe_str (pa_cons pe_str (pa_cons pe_str pa_nil))))) (pe_op op_sub (pv 5) pe_int) (fun _ _ => rfl)) (pa_cons (pv 6) (pa_cons (pv 7) pa_nil))))))
    pss_nil)
    (pss_cons (ps_if (PW.pt (pw_or (pt_cmpR op_lt (pv 5) pe_int (nomark _)) (pw_or1 (PW.pt (pw_and (pt_cmpR op_lt (pv 5) pe_int (nomark _)) (pw_and1 (pt_cmpR op_eq (pe_callB call_len_seq (by rfl) z_len (by decide +kernel) (pa_cons (pv 3) pa_nil)) pe_int (nomark _))))))))
    (pss_one (ps_ret (pe_tup (pa_cons pe_str (pa_cons (pv 6) (pa_cons (pv 7) pa_nil))))))
    pss_nil)
    (pss_cons (ps_if (PW.pt (pw_or (pt_cmpR op_eq (pv 5) pe_int (nomark _)) (pw_or1 (pt_cmpR op_eq (pv 5) pe_int (nomark _)))))
    (pss_one (ps_ret (pe_tup (pa_cons pe_str (pa_cons (pe_ix ix_list (pv 3) (pe_kn G_take (hr.mono (by decide)) (by rfl) (pa_cons (pv 0) (pa_cons (pe_callB call_len_seq (by rfl) z_len (by decide +kernel) (pa_cons (pv 3) pa_nil)) pa_nil))) (fun _ _ => rfl)) (pa_cons (pe_ix ix_list (pv 3) (pe_kn G_take (hr.mono (by decide)) (by rfl) (pa_cons (pv 0) (pa_cons (pe_callB call_len_seq (by rfl) z_len (by decide +kernel) (pa_cons (pv 3) pa_nil)) pa_nil))) (fun _ _ => rfl)) pa_nil))))))
    pss_nil)
    (pss_cons (ps_if (pt_cmpR op_lt (pv 5) pe_int (nomark _))
    (pss_one (ps_ret (pe_tup (pa_cons (pe_ix ix_list (pe_lst (pa_cons pe_str (pa_cons pe_str (pa_cons pe_str (pa_cons pe_str pa_nil))))) (pe_op op_sub (pv 5) pe_int) (fun _ _ => rfl)) (pa_cons (pv 6) (pa_cons (pe_ix ix_list (pv 3) (pe_kn G_take (hr.mono (by decide)) (by rfl) (pa_cons (pv 0) (pa_cons (pe_callB call_len_seq (by rfl) z_len (by decide +kernel) (pa_cons (pv 3) pa_nil)) pa_nil))) (fun _ _ => rfl)) pa_nil))))))
    pss_nil)
    (pss_cons (ps_if (PW.pt (pw_or (pt_cmpR op_lt (pv 5) pe_int (nomark _)) (pw_or1 (PW.pt (pw_and (pt_cmpR op_lt (pv 5) pe_int (nomark _)) (pw_and1 (pt_cmpR op_eq (pe_callB call_len_seq (by rfl) z_len (by decide +kernel) (pa_cons (pv 4) pa_nil)) pe_int (nomark _))))))))
    (pss_one (ps_ret (pe_tup (pa_cons pe_str (pa_cons (pv 6) (pa_cons (pv 7) pa_nil))))))
    pss_nil)
    (pss_cons (ps_if (PW.pt (pw_and (pt_cmpR op_eq (pv 5) pe_int (nomark _)) (pw_and1 (pt_cmpR op_gt (pe_callB call_len_seq (by rfl) z_len (by decide +kernel) (pa_cons (pv 3) pa_nil)) pe_int (nomark _)))))
    (pss_cons (ps_set (i := 8) sc_making.nd rfl (.inl rfl) (pe_ix ix_list (pv 3) (pe_kn G_take (hr.mono (by decide)) (by rfl) (pa_cons (pv 0) (pa_cons (pe_callB call_len_seq (by rfl) z_len (by decide +kernel) (pa_cons (pv 3) pa_nil)) pa_nil))) (fun _ _ => rfl)))
    (pss_one (ps_ret (pe_tup (pa_cons pe_str (pa_cons (pv 8) (pa_cons (pe_ix ix_list (pv 4) (pe_kn G_take (hr.mono (by decide)) (by rfl) (pa_cons (pv 0) (pa_cons (pe_callB call_len_seq (by rfl) z_len (by decide +kernel) (pa_cons (pv 4) pa_nil)) pa_nil))) (fun _ _ => rfl)) (pa_cons (pe_op op_add pe_int (pe_kn G_take (hr.mono (by decide)) (by rfl) (pa_cons (pv 0) (pa_cons pe_int pa_nil)))) pa_nil))))))))
    pss_nil)
    (pss_cons (ps_if (pt_cmpR op_lt (pv 5) pe_int (nomark _))
    (pss_cons (ps_set (i := 9) sc_making.nd rfl (.inl rfl) (pe_ix ix_list (pv 4) (pe_kn G_take (hr.mono (by decide)) (by rfl) (pa_cons (pv 0) (pa_cons (pe_callB call_len_seq (by rfl) z_len (by decide +kernel) (pa_cons (pv 4) pa_nil)) pa_nil))) (fun _ _ => rfl)))
    (pss_one (ps_ret (pe_tup (pa_cons pe_str (pa_cons (pv 9) (pa_cons (pe_ix ix_list (pv 4) (pe_kn G_take (hr.mono (by decide)) (by rfl) (pa_cons (pv 0) (pa_cons (pe_callB call_len_seq (by rfl) z_len (by decide +kernel) (pa_cons (pv 4) pa_nil)) pa_nil))) (fun _ _ => rfl)) (pa_cons (pe_op op_add pe_int (pe_kn G_take (hr.mono (by decide)) (by rfl) (pa_cons (pv 0) (pa_cons pe_int pa_nil)))) pa_nil))))))))
    pss_nil)
    (pss_cons (ps_set (i := 10) sc_making.nd rfl (.inl rfl) (pe_ix ix_list (pv 2) (pe_kn G_take (hr.mono (by decide)) (by rfl) (pa_cons (pv 0) (pa_cons (pe_callB call_len_seq (by rfl) z_len (by decide +kernel) (pa_cons (pv 2) pa_nil)) pa_nil))) (fun _ _ => rfl)))
    (pss_cons (ps_set (i := 11) sc_making.nd rfl (.inl rfl) (pe_kn G_take (hr.mono (by decide)) (by rfl) (pa_cons (pv 0) (pa_cons pe_int pa_nil))))
    (pss_cons (ps_if (PW.pt (pw_and (pt_cmpR op_gt (pv 11) pe_int (nomark _)) (pw_and1 (pt_cmpR op_gt (pe_callB call_len_seq (by rfl) z_len (by decide +kernel) (pa_cons (pv 3) pa_nil)) pe_int (nomark _)))))
    (pss_cons (ps_set (i := 8) sc_making.nd rfl (.inl rfl) (pe_ix ix_list (pv 3) (pe_kn G_take (hr.mono (by decide)) (by rfl) (pa_cons (pv 0) (pa_cons (pe_callB call_len_seq (by rfl) z_len (by decide +kernel) (pa_cons (pv 3) pa_nil)) pa_nil))) (fun _ _ => rfl)))
    (pss_one (ps_ret (pe_tup (pa_cons (pe_ix ix_list (pe_lst (pa_cons pe_str (pa_cons pe_str pa_nil))) (pe_op op_sub (pv 11) pe_int) (fun _ _ => rfl)) (pa_cons (pv 8) (pa_cons (pe_ix ix_list (pv 3) (pe_kn G_take (hr.mono (by decide)) (by rfl) (pa_cons (pv 0) (pa_cons (pe_callB call_len_seq (by rfl) z_len (by decide +kernel) (pa_cons (pv 3) pa_nil)) pa_nil))) (fun _ _ => rfl)) pa_nil)))))))
    pss_nil)
    (pss_cons (ps_if (PW.pt (pw_or (pt_cmpR op_eq (pv 11) pe_int (nomark _)) (pw_or1 (pt_cmpR op_gt (pv 11) pe_int (nomark _)))))
    (pss_one (ps_ret (pe_tup (pa_cons pe_str (pa_cons (pv 6) (pa_cons (pv 7) (pa_cons (pv 10) pa_nil)))))))
    pss_nil)
    (pss_one (ps_ret (pe_tup (pa_cons (pe_ix ix_list (pe_lst (pa_cons pe_str (pa_cons pe_str pa_nil))) (pe_op op_sub (pv 11) pe_int) (fun _ _ => rfl)) (pa_cons (pv 6) (pa_cons (pv 7) (pa_cons (pv 10) (pa_cons (pe_ix ix_list (pv 2) (pe_kn G_take (hr.mono (by decide)) (by rfl) (pa_cons (pv 0) (pa_cons (pe_callB call_len_seq (by rfl) z_len (by decide +kernel) (pa_cons (pv 2) pa_nil)) pa_nil))) (fun _ _ => rfl)) pa_nil))))))))))))))))))))))))))), ?_⟩
  show (_ : TS) _ [some (.ref p), some (.ref B), none, none, none, none, none, none, none, none, none, none] _
  repeat walk_at "st"
  refine r_dg ?_
  repeat walk_at "st"
  refine ⟨B, .ref P, rfl, DGet.k (k := .inr "point") by0.b, ?_⟩
  repeat walk_at "st"
  refine r_dg ?_
  repeat walk_at "st"
  refine ⟨B, .ref Ln, rfl, DGet.k (k := .inr "line") by0.b, ?_⟩
  repeat walk_at "st"
  refine r_dg ?_
  repeat walk_at "st"
  refine ⟨B, .ref C, rfl, DGet.k (k := .inr "circle") by0.b, ?_⟩
  repeat walk_at "st"
  refine ⟨p, _, _, rfl, hp0, by omega, by decide, by decide, fun r1 H1 c1 hp1 l1 u1 => ?_⟩
  have by1 := by0.but c1
  have bb1 := bb0.trans c1
  repeat walk_at "st"
  clear by0 bb0 hp0 c1
  refine r_seq ?_
  repeat walk_at "st"
  refine r_ite (fun c1 => ?_) (fun c1 => ?_)
  · skip
    repeat walk_at "st"
    refine ⟨sz rfl, fun t2 nt2 => ?_⟩
    have s2 := same_new nt2 (.tup [V.str "free"])
    have t12 : SqT K (upd H1 t2 (.tup [V.str "free"])) t2 [.str "free"] := tupOf upd_same
    have hp2 := hp1.same s2
    have bb2 := bb1.trans (But.same s2)
    generalize upd H1 t2 (.tup [V.str "free"]) = H2 at *
    repeat walk_at "st"
    refine ⟨p, _, rfl, hp2, by omega, fun o f1 f2 a1 a2 a3 a4 Hf cf hpf ef k1 k2 _ _ => ?_⟩
    repeat walk_at "st"
    refine r_cat (hp2.tup cf t12) (tupOf ef) (by simp) (sz4 (by simp)) fun m Hg sg kg => ?_
    exact q m "free" "point" [] [] Hg ((bb2.trans cf).trans (But.same sg)) ((hpf.same sg).mono (by omega)) ⟨_, kg, .inl ⟨rfl, f1, f2, a1, a2, a3, a4, rfl, sg.tp k1, sg.tp k2⟩⟩ (by decide +kernel) .nil
  repeat walk_at "st"
  refine ⟨P, _, rfl, .inl (lstOf by1.eP), ?_⟩
  repeat walk_at "st"
  refine r_ite (fun c2 => ?_) (fun c2 => ?_)
  · skip
    repeat walk_at "st"
    refine ⟨sz rfl, fun t3 nt3 => ?_⟩
    have s3 := same_new nt3 (.tup [V.str "free"])
    have t13 : SqT K (upd H1 t3 (.tup [V.str "free"])) t3 [.str "free"] := tupOf upd_same
    have hp3 := hp1.same s3
    have bb3 := bb1.trans (But.same s3)
    generalize upd H1 t3 (.tup [V.str "free"]) = H3 at *
    repeat walk_at "st"
    refine ⟨p, _, rfl, hp3, by omega, fun o f1 f2 a1 a2 a3 a4 Hf cf hpf ef k1 k2 _ _ => ?_⟩
    repeat walk_at "st"
    refine r_cat (hp3.tup cf t13) (tupOf ef) (by simp) (sz4 (by simp)) fun m Hg sg kg => ?_
    exact q m "free" "point" [] [] Hg ((bb3.trans cf).trans (But.same sg)) ((hpf.same sg).mono (by omega)) ⟨_, kg, .inl ⟨rfl, f1, f2, a1, a2, a3, a4, rfl, sg.tp k1, sg.tp k2⟩⟩ (by decide +kernel) .nil
  rw [List.length_map] at c2
  have hP : 1 ≤ pts.length := by omega
  repeat walk_at "st"
  refine ⟨P, _, rfl, .inl (lstOf by1.eP), ?_⟩
  repeat walk_at "st"
  refine ⟨p, _, _, rfl, hp1, by omega, by rw [List.length_map]; omega, by rw [List.length_map]; omega, fun r4 H4 c4 hp4 l4 u4 => ?_⟩
  have by4 := by1.but c4
  have bb4 := bb1.trans c4
  rw [List.length_map] at u4
  obtain ⟨zp, a4, m_zp⟩ := pick_str l4 u4
  repeat walk_at "st"
  refine r_ixL (lstOf by4.eP) a4 ?_
  repeat walk_at "st"
  refine ⟨P, _, rfl, .inl (lstOf by4.eP), ?_⟩
  repeat walk_at "st"
  refine ⟨p, _, _, rfl, hp4, by omega, by rw [List.length_map]; omega, by rw [List.length_map]; omega, fun r5 H5 c5 hp5 l5 u5 => ?_⟩
  have by5 := by4.but c5
  have bb5 := bb4.trans c5
  rw [List.length_map] at u5
  obtain ⟨zq, a5, m_zq⟩ := pick_str l5 u5
  repeat walk_at "st"
  refine r_ixL (lstOf by5.eP) a5 ?_
  repeat walk_at "st"
  refine r_seq ?_
  repeat walk_at "st"
  refine r_ite (fun c3 => ?_) (fun c3 => ?_)
  · skip
    repeat walk_at "st"
    refine ⟨p, _, _, rfl, hp5, by omega, by decide, by decide, fun r6 H6 c6 hp6 l6 u6 => ?_⟩
    have by6 := by5.but c6
    have bb6 := bb5.trans c6
    repeat walk_at "st"
    refine ⟨p, _, _, rfl, hp6, by omega, by decide, by decide, fun r7 H7 c7 hp7 l7 u7 => ?_⟩
    have by7 := by6.but c7
    have bb7 := bb6.trans c7
    repeat walk_at "st"
    refine ⟨_, _, rfl, by omega, by unfold Sm; exact Nat.lt_of_lt_of_le (show (1 + r7).natAbs < 2 ^ 30 by omega) (Nat.pow_le_pow_right (by decide) (by decide)), fun o Ho so no eo => ?_⟩
    have bbo := bb7.trans (But.same so)
    have hpo := hp7.same so
    repeat walk_at "st"
    refine ⟨sz rfl, fun m nm => fin "share" "point" ["point", "point"] [zp, zq] [.ref o] _ _ (by decide +kernel) (.cons (fitP m_zp) (.cons (fitP m_zq) .nil)) (.inr (.inl ⟨rfl, o, _, _, rfl, tupOf eo⟩)) bbo hpo (by omega) m nm⟩
  repeat walk_at "st"
  refine r_seq ?_
  repeat walk_at "st"
  refine r_ite (fun c4 => ?_) (fun c4 => ?_)
  · skip
    repeat walk_at "st"
    refine ⟨sz rfl, fun w8 nw8 => ?_⟩
    obtain ⟨H8, q8, s8, e8⟩ := nw nw8 (.lst [V.str "middle", V.str "share", V.str "next", V.str "turn"])
    rw [← q8]
    have c8 : But p H5 H8 := But.same s8
    have hp8 := hp5.same s8
    have by8 := by5.but c8
    have bb8 := bb5.trans c8
    repeat walk_at "st"
    obtain ⟨x, ax, tx, x1, x2, x3⟩ := word4 (i := r1 - 5) (by omega)
    refine r_ixL (lstOf e8) ax ?_
    repeat walk_at "st"
    refine ⟨sz rfl, fun m nm => fin x "point" ["point", "point"] [zp, zq] [] _ _ (tx) (.cons (fitP m_zp) (.cons (fitP m_zq) .nil)) (tl0 x1 x2 x3) bb8 hp8 (by omega) m nm⟩
  repeat walk_at "st"
  with_reducible refine r_cut (fun σ H' => σ = [some (.ref p), some (.ref B), some (.ref P), some (.ref Ln), some (.ref C), some (.int r1), some (.str zp), some (.str zq), none, none, none, none] ∧ H' = H5 ∧ 12 ≤ r1 ∧ (r1 < 18 → 1 ≤ lns.length)) ?U1 ?V1
  case V1 =>
    intro N J
    repeat walk_at "st"
    refine r_ite (fun c5 => ?_) (fun c5 => ?_)
    · skip
      repeat walk_at "st"
      refine ⟨sz rfl, fun m nm => fin "line" "line" ["point", "point"] [zp, zq] [] _ _ (by decide +kernel) (.cons (fitP m_zp) (.cons (fitP m_zq) .nil)) (tl0 (by decide +kernel) (by decide +kernel) (by decide +kernel)) bb5 hp5 (by omega) m nm⟩
    repeat walk_at "st"
    refine r_ite (fun c6 => ?_) (fun c6 => ?_)
    · skip
      repeat walk_at "st"
      refine ⟨Ln, _, rfl, .inl (lstOf by5.eL), ?_⟩
      repeat walk_at "st"
      refine r_ite (fun c7 => ?_) (fun c7 => ?_)
      · skip
        repeat walk_at "st"
        refine ⟨sz rfl, fun m nm => fin "line" "line" ["point", "point"] [zp, zq] [] _ _ (by decide +kernel) (.cons (fitP m_zp) (.cons (fitP m_zq) .nil)) (tl0 (by decide +kernel) (by decide +kernel) (by decide +kernel)) bb5 hp5 (by omega) m nm⟩
      rw [List.length_map] at c7
      repeat walk_at "st"
      exact J _ _ ⟨rfl, rfl, by omega, by omega⟩
    repeat walk_at "st"
    exact J _ _ ⟨rfl, rfl, by omega, by omega⟩
  rintro σ Hx ⟨rfl, rfl, d1, d2⟩
  refine r_seq ?_
  repeat walk_at "st"
  refine r_ite (fun c8 => ?_) (fun c8 => ?_)
  · skip
    repeat walk_at "st"
    have hL : 1 ≤ lns.length := d2 (by omega)
    refine ⟨Ln, _, rfl, .inl (lstOf by5.eL), ?_⟩
    repeat walk_at "st"
    refine ⟨p, _, _, rfl, hp5, by omega, by rw [List.length_map]; omega, by rw [List.length_map]; omega, fun r9 H9 c9 hp9 l9 u9 => ?_⟩
    have by9 := by5.but c9
    have bb9 := bb5.trans c9
    rw [List.length_map] at u9
    obtain ⟨za, a9, m_za⟩ := pick_str l9 u9
    repeat walk_at "st"
    refine r_ixL (lstOf by9.eL) a9 ?_
    repeat walk_at "st"
    refine ⟨Ln, _, rfl, .inl (lstOf by9.eL), ?_⟩
    repeat walk_at "st"
    refine ⟨p, _, _, rfl, hp9, by omega, by rw [List.length_map]; omega, by rw [List.length_map]; omega, fun r10 H10 c10 hp10 l10 u10 => ?_⟩
    have by10 := by9.but c10
    have bb10 := bb9.trans c10
    rw [List.length_map] at u10
    obtain ⟨zb, a10, m_zb⟩ := pick_str l10 u10
    repeat walk_at "st"
    refine r_ixL (lstOf by10.eL) a10 ?_
    repeat walk_at "st"
    refine ⟨sz rfl, fun m nm => fin "meet" "point" ["line", "line"] [za, zb] [] _ _ (by decide +kernel) (.cons (fitL m_za) (.cons (fitL m_zb) .nil)) (tl0 (by decide +kernel) (by decide +kernel) (by decide +kernel)) bb10 hp10 (by omega) m nm⟩
  repeat walk_at "st"
  refine r_ite (fun c9 => ?_) (fun c9 => ?_)
  · skip
    repeat walk_at "st"
    have hL : 1 ≤ lns.length := d2 (by omega)
    refine ⟨Ln, _, rfl, .inl (lstOf by5.eL), ?_⟩
    repeat walk_at "st"
    refine ⟨p, _, _, rfl, hp5, by omega, by rw [List.length_map]; omega, by rw [List.length_map]; omega, fun r11 H11 c11 hp11 l11 u11 => ?_⟩
    have by11 := by5.but c11
    have bb11 := bb5.trans c11
    rw [List.length_map] at u11
    obtain ⟨za, a11, m_za⟩ := pick_str l11 u11
    repeat walk_at "st"
    refine r_ixL (lstOf by11.eL) a11 ?_
    repeat walk_at "st"
    refine ⟨Ln, _, rfl, .inl (lstOf by11.eL), ?_⟩
    repeat walk_at "st"
    refine ⟨p, _, _, rfl, hp11, by omega, by rw [List.length_map]; omega, by rw [List.length_map]; omega, fun r12 H12 c12 hp12 l12 u12 => ?_⟩
    have by12 := by11.but c12
    have bb12 := bb11.trans c12
    rw [List.length_map] at u12
    obtain ⟨zb, a12, m_zb⟩ := pick_str l12 u12
    repeat walk_at "st"
    refine r_ixL (lstOf by12.eL) a12 ?_
    repeat walk_at "st"
    refine ⟨sz rfl, fun m nm => fin "meet" "point" ["line", "line"] [za, zb] [] _ _ (by decide +kernel) (.cons (fitL m_za) (.cons (fitL m_zb) .nil)) (tl0 (by decide +kernel) (by decide +kernel) (by decide +kernel)) bb12 hp12 (by omega) m nm⟩
  repeat walk_at "st"
  refine r_seq ?_
  repeat walk_at "st"
  refine r_ite (fun c10 => ?_) (fun c10 => ?_)
  · skip
    repeat walk_at "st"
    have hL : 1 ≤ lns.length := d2 (by omega)
    refine ⟨sz rfl, fun w13 nw13 => ?_⟩
    obtain ⟨H13, q13, s13, e13⟩ := nw nw13 (.lst [V.str "along", V.str "upright", V.str "foot", V.str "mirror"])
    rw [← q13]
    have c13 : But p Hx H13 := But.same s13
    have hp13 := hp5.same s13
    have by13 := by5.but c13
    have bb13 := bb5.trans c13
    repeat walk_at "st"
    obtain ⟨x, sx, ax, tx, x1, x2, x3⟩ := word4b (i := r1 - 12) (by omega)
    refine r_ixL (lstOf e13) ax ?_
    repeat walk_at "st"
    refine ⟨Ln, _, rfl, .inl (lstOf by13.eL), ?_⟩
    repeat walk_at "st"
    refine ⟨p, _, _, rfl, hp13, by omega, by rw [List.length_map]; omega, by rw [List.length_map]; omega, fun r14 H14 c14 hp14 l14 u14 => ?_⟩
    have by14 := by13.but c14
    have bb14 := bb13.trans c14
    rw [List.length_map] at u14
    obtain ⟨za, a14, m_za⟩ := pick_str l14 u14
    repeat walk_at "st"
    refine r_ixL (lstOf by14.eL) a14 ?_
    repeat walk_at "st"
    refine ⟨sz rfl, fun m nm => fin x sx ["point", "line"] [zp, za] [] _ _ (tx) (.cons (fitP m_zp) (.cons (fitL m_za) .nil)) (tl0 x1 x2 x3) bb14 hp14 (by omega) m nm⟩
  repeat walk_at "st"
  with_reducible refine r_cut (fun σ H' => σ = [some (.ref p), some (.ref B), some (.ref P), some (.ref Ln), some (.ref C), some (.int r1), some (.str zp), some (.str zq), none, none, none, none] ∧ H' = Hx ∧ 20 ≤ r1 ∧ (r1 < 22 → 1 ≤ crs.length)) ?U2 ?V2
  case V2 =>
    intro N J
    repeat walk_at "st"
    refine r_ite (fun c5 => ?_) (fun c5 => ?_)
    · skip
      repeat walk_at "st"
      refine ⟨sz rfl, fun m nm => fin "circle" "circle" ["point", "point"] [zp, zq] [] _ _ (by decide +kernel) (.cons (fitP m_zp) (.cons (fitP m_zq) .nil)) (tl0 (by decide +kernel) (by decide +kernel) (by decide +kernel)) bb5 hp5 (by omega) m nm⟩
    repeat walk_at "st"
    refine r_ite (fun c6 => ?_) (fun c6 => ?_)
    · skip
      repeat walk_at "st"
      refine ⟨C, _, rfl, .inl (lstOf by5.eC), ?_⟩
      repeat walk_at "st"
      refine r_ite (fun c7 => ?_) (fun c7 => ?_)
      · skip
        repeat walk_at "st"
        refine ⟨sz rfl, fun m nm => fin "circle" "circle" ["point", "point"] [zp, zq] [] _ _ (by decide +kernel) (.cons (fitP m_zp) (.cons (fitP m_zq) .nil)) (tl0 (by decide +kernel) (by decide +kernel) (by decide +kernel)) bb5 hp5 (by omega) m nm⟩
      rw [List.length_map] at c7
      repeat walk_at "st"
      exact J _ _ ⟨rfl, rfl, by omega, by omega⟩
    repeat walk_at "st"
    exact J _ _ ⟨rfl, rfl, by omega, by omega⟩
  rintro σ Hy ⟨rfl, rfl, d3, d4⟩
  with_reducible refine r_cut (fun σ H' => σ = [some (.ref p), some (.ref B), some (.ref P), some (.ref Ln), some (.ref C), some (.int r1), some (.str zp), some (.str zq), none, none, none, none] ∧ H' = Hy ∧ True) ?U3 ?V3
  case V3 =>
    intro N J
    repeat walk_at "st"
    refine r_ite (fun c5 => ?_) (fun c5 => ?_)
    · skip
      repeat walk_at "st"
      refine ⟨Ln, _, rfl, .inl (lstOf by5.eL), ?_⟩
      repeat walk_at "st"
      refine r_ite (fun c6 => ?_) (fun c6 => ?_)
      · skip
        rw [List.length_map] at c6
        have hL : 1 ≤ lns.length := by omega
        have hC : 1 ≤ crs.length := d4 (by omega)
        repeat walk_at "st"
        refine ⟨Ln, _, rfl, .inl (lstOf by5.eL), ?_⟩
        repeat walk_at "st"
        refine ⟨p, _, _, rfl, hp5, by omega, by rw [List.length_map]; omega, by rw [List.length_map]; omega, fun r15 H15 c15 hp15 l15 u15 => ?_⟩
        have by15 := by5.but c15
        have bb15 := bb5.trans c15
        rw [List.length_map] at u15
        obtain ⟨za, a15, m_za⟩ := pick_str l15 u15
        repeat walk_at "st"
        refine r_ixL (lstOf by15.eL) a15 ?_
        repeat walk_at "st"
        refine ⟨C, _, rfl, .inl (lstOf by15.eC), ?_⟩
        repeat walk_at "st"
        refine ⟨p, _, _, rfl, hp15, by omega, by rw [List.length_map]; omega, by rw [List.length_map]; omega, fun r16 H16 c16 hp16 l16 u16 => ?_⟩
        have by16 := by15.but c16
        have bb16 := bb15.trans c16
        rw [List.length_map] at u16
        obtain ⟨zc, a16, m_zc⟩ := pick_str l16 u16
        repeat walk_at "st"
        refine r_ixL (lstOf by16.eC) a16 ?_
        repeat walk_at "st"
        refine ⟨p, _, _, rfl, hp16, by omega, by decide, by decide, fun r17 H17 c17 hp17 l17 u17 => ?_⟩
        have by17 := by16.but c17
        have bb17 := bb16.trans c17
        repeat walk_at "st"
        refine ⟨sz rfl, fun m nm => fin "cut" "point" ["curve", "circle"] [za, zc] [.int (1 + r17)] _ _ (by decide +kernel) (.cons (fitU (.inl m_za)) (.cons (fitC m_zc) .nil)) (.inr (.inr (.inl ⟨rfl, _, rfl⟩))) bb17 hp17 (by omega) m nm⟩
      repeat walk_at "st"
      exact J _ _ ⟨rfl, rfl, trivial⟩
    repeat walk_at "st"
    exact J _ _ ⟨rfl, rfl, trivial⟩
  rintro σ Hz ⟨rfl, rfl, _⟩
  refine r_seq ?_
  repeat walk_at "st"
  refine r_ite (fun c11 => ?_) (fun c11 => ?_)
  · skip
    have hC : 1 ≤ crs.length := d4 (by omega)
    repeat walk_at "st"
    refine ⟨C, _, rfl, .inl (lstOf by5.eC), ?_⟩
    repeat walk_at "st"
    refine ⟨p, _, _, rfl, hp5, by omega, by rw [List.length_map]; omega, by rw [List.length_map]; omega, fun r18 H18 c18 hp18 l18 u18 => ?_⟩
    have by18 := by5.but c18
    have bb18 := bb5.trans c18
    rw [List.length_map] at u18
    obtain ⟨za, a18, m_za⟩ := pick_str l18 u18
    repeat walk_at "st"
    refine r_ixL (lstOf by18.eC) a18 ?_
    repeat walk_at "st"
    refine ⟨C, _, rfl, .inl (lstOf by18.eC), ?_⟩
    repeat walk_at "st"
    refine ⟨p, _, _, rfl, hp18, by omega, by rw [List.length_map]; omega, by rw [List.length_map]; omega, fun r19 H19 c19 hp19 l19 u19 => ?_⟩
    have by19 := by18.but c19
    have bb19 := bb18.trans c19
    rw [List.length_map] at u19
    obtain ⟨zc, a19, m_zc⟩ := pick_str l19 u19
    repeat walk_at "st"
    refine r_ixL (lstOf by19.eC) a19 ?_
    repeat walk_at "st"
    refine ⟨p, _, _, rfl, hp19, by omega, by decide, by decide, fun r20 H20 c20 hp20 l20 u20 => ?_⟩
    have by20 := by19.but c20
    have bb20 := bb19.trans c20
    repeat walk_at "st"
    refine ⟨sz rfl, fun m nm => fin "cut" "point" ["curve", "circle"] [za, zc] [.int (1 + r20)] _ _ (by decide +kernel) (.cons (fitU (.inr m_za)) (.cons (fitC m_zc) .nil)) (.inr (.inr (.inl ⟨rfl, _, rfl⟩))) bb20 hp20 (by omega) m nm⟩
  repeat walk_at "st"
  refine ⟨P, _, rfl, .inl (lstOf by5.eP), ?_⟩
  repeat walk_at "st"
  refine ⟨p, _, _, rfl, hp5, by omega, by rw [List.length_map]; omega, by rw [List.length_map]; omega, fun r21 H21 c21 hp21 l21 u21 => ?_⟩
  have by21 := by5.but c21
  have bb21 := bb5.trans c21
  rw [List.length_map] at u21
  obtain ⟨zr, a21, m_zr⟩ := pick_str l21 u21
  repeat walk_at "st"
  refine r_ixL (lstOf by21.eP) a21 ?_
  repeat walk_at "st"
  refine ⟨p, _, _, rfl, hp21, by omega, by decide, by decide, fun r22 H22 c22 hp22 l22 u22 => ?_⟩
  have by22 := by21.but c22
  have bb22 := bb21.trans c22
  repeat walk_at "st"
  with_reducible refine r_cut (fun σ H' => σ = [some (.ref p), some (.ref B), some (.ref P), some (.ref Ln), some (.ref C), some (.int r1), some (.str zp), some (.str zq), none, none, some (.str zr), some (.int r22)] ∧ H' = H22) ?U4 ?V4
  case V4 =>
    intro N J
    repeat walk_at "st"
    refine r_ite (fun c5 => ?_) (fun c5 => ?_)
    · skip
      repeat walk_at "st"
      refine ⟨Ln, _, rfl, .inl (lstOf by22.eL), ?_⟩
      repeat walk_at "st"
      refine r_ite (fun c6 => ?_) (fun c6 => ?_)
      · skip
        rw [List.length_map] at c6
        have hL : 1 ≤ lns.length := by omega
        repeat walk_at "st"
        refine ⟨Ln, _, rfl, .inl (lstOf by22.eL), ?_⟩
        repeat walk_at "st"
        refine ⟨p, _, _, rfl, hp22, by omega, by rw [List.length_map]; omega, by rw [List.length_map]; omega, fun r23 H23 c23 hp23 l23 u23 => ?_⟩
        have by23 := by22.but c23
        have bb23 := bb22.trans c23
        rw [List.length_map] at u23
        obtain ⟨za, a23, m_za⟩ := pick_str l23 u23
        repeat walk_at "st"
        refine r_ixL (lstOf by23.eL) a23 ?_
        repeat walk_at "st"
        refine ⟨sz rfl, fun w24 nw24 => ?_⟩
        obtain ⟨H24, q24, s24, e24⟩ := nw nw24 (.lst [V.str "beside", V.str "square"])
        rw [← q24]
        have c24 : But p H23 H24 := But.same s24
        have hp24 := hp23.same s24
        have by24 := by23.but c24
        have bb24 := bb23.trans c24
        repeat walk_at "st"
        obtain ⟨x, ax, tx, x1, x2, x3⟩ := word2 (i := r22 - 3) (by omega)
        refine r_ixL (lstOf e24) ax ?_
        repeat walk_at "st"
        refine ⟨Ln, _, rfl, .inl (lstOf by24.eL), ?_⟩
        repeat walk_at "st"
        refine ⟨p, _, _, rfl, hp24, by omega, by rw [List.length_map]; omega, by rw [List.length_map]; omega, fun r25 H25 c25 hp25 l25 u25 => ?_⟩
        have by25 := by24.but c25
        have bb25 := bb24.trans c25
        rw [List.length_map] at u25
        obtain ⟨zb, a25, m_zb⟩ := pick_str l25 u25
        repeat walk_at "st"
        refine r_ixL (lstOf by25.eL) a25 ?_
        repeat walk_at "st"
        refine ⟨sz rfl, fun m nm => fin x "claim" ["line", "line"] [za, zb] [] _ _ (tx) (.cons (fitL m_za) (.cons (fitL m_zb) .nil)) (tl0 x1 x2 x3) bb25 hp25 (by omega) m nm⟩
      repeat walk_at "st"
      exact J _ _ ⟨rfl, rfl⟩
    repeat walk_at "st"
    exact J _ _ ⟨rfl, rfl⟩
  rintro σ Hw ⟨rfl, rfl⟩
  refine r_seq ?_
  repeat walk_at "st"
  refine r_ite (fun c12 => ?_) (fun c12 => ?_)
  · skip
    repeat walk_at "st"
    refine ⟨sz rfl, fun m nm => fin "inline" "claim" ["point", "point", "point"] [zp, zq, zr] [] _ _ (by decide +kernel) (.cons (fitP m_zp) (.cons (fitP m_zq) (.cons (fitP m_zr) .nil))) (tl0 (by decide +kernel) (by decide +kernel) (by decide +kernel)) bb22 hp22 (by omega) m nm⟩
  repeat walk_at "st"
  refine r_ite (fun c13 => ?_) (fun c13 => ?_)
  · skip
    repeat walk_at "st"
    refine ⟨sz rfl, fun m nm => fin "inline" "claim" ["point", "point", "point"] [zp, zq, zr] [] _ _ (by decide +kernel) (.cons (fitP m_zp) (.cons (fitP m_zq) (.cons (fitP m_zr) .nil))) (tl0 (by decide +kernel) (by decide +kernel) (by decide +kernel)) bb22 hp22 (by omega) m nm⟩
  repeat walk_at "st"
  refine ⟨sz rfl, fun w26 nw26 => ?_⟩
  obtain ⟨H26, q26, s26, e26⟩ := nw nw26 (.lst [V.str "round", V.str "alike"])
  rw [← q26]
  have c26 : But p Hw H26 := But.same s26
  have hp26 := hp22.same s26
  have by26 := by22.but c26
  have bb26 := bb22.trans c26
  repeat walk_at "st"
  obtain ⟨x, ax, tx, x1, x2, x3⟩ := word2b (i := r22 - 1) (by omega)
  refine r_ixL (lstOf e26) ax ?_
  repeat walk_at "st"
  refine ⟨P, _, rfl, .inl (lstOf by26.eP), ?_⟩
  repeat walk_at "st"
  refine ⟨p, _, _, rfl, hp26, by omega, by rw [List.length_map]; omega, by rw [List.length_map]; omega, fun r27 H27 c27 hp27 l27 u27 => ?_⟩
  have by27 := by26.but c27
  have bb27 := bb26.trans c27
  rw [List.length_map] at u27
  obtain ⟨zs, a27, m_zs⟩ := pick_str l27 u27
  repeat walk_at "st"
  refine r_ixL (lstOf by27.eP) a27 ?_
  repeat walk_at "st"
  refine ⟨sz rfl, fun m nm => fin x "claim" ["point", "point", "point", "point"] [zp, zq, zr, zs] [] _ _ (tx) (.cons (fitP m_zp) (.cons (fitP m_zq) (.cons (fitP m_zr) (.cons (fitP m_zs) .nil)))) (tl0 x1 x2 x3) bb27 hp27 (by omega) m nm⟩
theorem ok_row (F : Fn K mg "_law_row" s_row) (G_take : Kn P w K mg base 1 "_law_take" ["_law_pool_here", "_law_wide"] spTake) (G_name : Kn P w K mg base 2 "_law_name" ["_law_pool_here", "_law_had"] (spNameR K)) (G_place : Kn P w K mg base 4 "_law_place" ["_law_pool_here"] (spPlaceB K)) (G_making : Kn P w K mg base 5 "_law_making" ["_law_pool_here", "_law_by"] (spMaking K)) (G_l_weight : Kn P w K mg base 2 "_law_weight" ["_law_making_here", "_law_sorts", "_law_heavy"] (spWeight K)) (G_sort : Kn P w K mg base 1 "_law_sort" ["_law_making_here"] (spSortL K)) (z_list : mg "list" = none) (z_range : mg "range" = none) : Kn P w K mg base 6 "_law_row" ["_law_pool_here", "_law_many"] (spRow K) := by
  refine F.kn sc_row (fun vs H Q E h => ?_) (fun f cdv A outer s H vs Q E hr h => ?_) (fun _ _ _ _ _ _ us hl => match us, hl with | [_, _], _ => rfl)
  · obtain ⟨p, n, b, rfl, _⟩ := h
    rfl
  obtain ⟨p, n, b, rfl, hn, hp, hb, q⟩ := h
  refine ⟨_, (pss_cons (ps_set (i := 2) sc_row.nd rfl (.inl rfl) (pe_lst pa_nil))
    (pss_cons (ps_set (i := 3) sc_row.nd rfl (.inl rfl) (pe_disp (pps_cons pe_str (pe_lst pa_nil) (pps_cons pe_str (pe_lst pa_nil) (pps_cons pe_str (pe_lst pa_nil) (pps_cons pe_str (pe_lst pa_nil) pps_nil)))) rfl rfl (by simp) (by decide)))
    (pss_cons (ps_set (i := 4) sc_row.nd rfl (.inl rfl) pe_dnewK)
    (pss_cons (ps_set (i := 5) sc_row.nd rfl (.inl rfl) pe_dnewK)
    (pss_cons (ps_set (i := 6) sc_row.nd rfl (.inl rfl) (pe_op op_add pe_int (pe_kn G_take (hr.mono (by decide)) (by rfl) (pa_cons (pv 0) (pa_cons pe_int pa_nil)))))
    (pss_cons (ps_for PassesOwn.never rfl (pi_range1 (by rfl) z_range (pa_cons (pv 1) pa_nil)) (pg_name (i := 7) sc_row.nd rfl (.inl rfl))
    (pss_cons (ps_set (i := 8) sc_row.nd rfl (.inl rfl) (pe_kn G_name (hr.mono (by decide)) (by rfl) (pa_cons (pv 0) (pa_cons (pe_callTy (call_list_dK (by rfl)) (by rfl) z_list (by decide +kernel) (pa_cons (pv 4) pa_nil)) pa_nil))))
    (pss_cons (ps_if (pt_cmpR op_lt (pv 7) (pv 6) (nomark _))
    (pss_one (ps_set (i := 9) sc_row.nd rfl (.inl rfl) (pe_op op_catT (pe_tup (pa_cons pe_str pa_nil)) (pe_kn G_place (hr.mono (by decide)) (by rfl) (pa_cons (pv 0) pa_nil)))))
    (pss_one (ps_set (i := 9) sc_row.nd rfl (.inl rfl) (pe_kn G_making (hr.mono (by decide)) (by rfl) (pa_cons (pv 0) (pa_cons (pv 3) pa_nil))))))
    (pss_cons (ps_if (pt_cmpR op_gt (pe_kn G_l_weight (hr.mono (by decide)) (by rfl) (pa_cons (pv 9) (pa_cons (pv 4) (pa_cons (pv 5) pa_nil)))) pe_int (nomark _))
    (pss_one (ps_set (i := 9) sc_row.nd rfl (.inl rfl) (pe_tup (pa_cons pe_str (pa_cons (pe_tup (pa_cons (pe_op op_sub (pe_kn G_take (hr.mono (by decide)) (by rfl) (pa_cons (pv 0) (pa_cons pe_int pa_nil))) pe_int) (pa_cons pe_int pa_nil))) (pa_cons (pe_tup (pa_cons (pe_op op_sub (pe_kn G_take (hr.mono (by decide)) (by rfl) (pa_cons (pv 0) (pa_cons pe_int pa_nil))) pe_int) (pa_cons pe_int pa_nil))) pa_nil))))))
    pss_nil)
    (pss_cons (ps_dput (u1 hr.units) (pv 5) (pv 8) (pe_kn G_l_weight (hr.mono (by decide)) (by rfl) (pa_cons (pv 9) (pa_cons (pv 4) (pa_cons (pv 5) pa_nil)))) (by rfl))
    (pss_cons (ps_dput (u1 hr.units) (pv 4) (pv 8) (pe_kn G_sort (hr.mono (by decide)) (by rfl) (pa_cons (pv 9) pa_nil)) (by rfl))
    (pss_cons (ps_expr (pe_bm PySem.F.plainAttrs_list PySem.F.slot_list_append PySem.F.type_list_append mt_append (pe_dget (u1 hr.units) (pv 3) (pe_dget (u1 hr.units) (pv 4) (pv 8) (fun _ _ => rfl)) (fun _ _ => rfl)) (pa_cons (pv 8) pa_nil)))
    (pss_one (ps_expr (pe_bm PySem.F.plainAttrs_list PySem.F.slot_list_append PySem.F.type_list_append mt_append (pv 2) (pa_cons (pe_tup (pa_cons (pv 8) (pa_cons (pv 9) pa_nil))) pa_nil)))))))))))
    (pss_one (ps_ret (pv 2))))))))), ?_⟩
  show (_ : TS) _ [some (.ref p), some (.int (n : Int)), none, none, none, none, none, none, none, none] _
  repeat walk_at "st"
  refine ⟨sz rfl, fun R nR => ?_⟩
  have sR := same_new nR (.lst [])
  have eR0 : upd H R (.lst []) R = some (.lst []) := upd_same
  generalize upd H R (.lst []) = H1 at *
  repeat walk_at "st"
  refine fun B nB => ?_
  have sB := same_new nB (.dK [])
  have eB0 : upd H1 B (.dK []) B = some (.dK []) := upd_same
  generalize upd H1 B (.dK []) = H2 at *
  refine r_prs ?_
  repeat walk_at "st"
  refine ⟨sz rfl, fun P nP => ?_⟩
  have sP := same_new nP (.lst [])
  have eP0 : upd H2 P (.lst []) P = some (.lst []) := upd_same
  generalize upd H2 P (.lst []) = H3 at *
  refine r_prs ?_
  repeat walk_at "st"
  refine ⟨sz rfl, fun Ln nLn => ?_⟩
  have sLn := same_new nLn (.lst [])
  have eLn0 : upd H3 Ln (.lst []) Ln = some (.lst []) := upd_same
  generalize upd H3 Ln (.lst []) = H4 at *
  refine r_prs ?_
  repeat walk_at "st"
  refine ⟨sz rfl, fun C nC => ?_⟩
  have sC := same_new nC (.lst [])
  have eC0 : upd H4 C (.lst []) C = some (.lst []) := upd_same
  generalize upd H4 C (.lst []) = H5 at *
  refine r_prs ?_
  repeat walk_at "st"
  refine ⟨sz rfl, fun Z nZ => ?_⟩
  have sZ := same_new nZ (.lst [])
  have eZ0 : upd H5 Z (.lst []) Z = some (.lst []) := upd_same
  generalize upd H5 Z (.lst []) = H6 at *
  refine r_prs0 ?_
  have sAll : Same H1 H6 := sB.trans (sP.trans (sLn.trans (sC.trans sZ)))
  have eR := sAll _ _ eR0
  have eB := (sP.trans (sLn.trans (sC.trans sZ))) _ _ eB0
  have eP := (sLn.trans (sC.trans sZ)) _ _ eP0
  have eL := (sC.trans sZ) _ _ eLn0
  have eC := sZ _ _ eC0
  have nBR : B ≠ R := fun z => by rw [z, eR0] at nB; cases nB
  have nRP : R ≠ P := fun z => by rw [← z, sB _ _ eR0] at nP; cases nP
  have nRL : R ≠ Ln := fun z => by rw [← z, sP _ _ (sB _ _ eR0)] at nLn; cases nLn
  have nRC : R ≠ C := fun z => by rw [← z, sLn _ _ (sP _ _ (sB _ _ eR0))] at nC; cases nC
  have nRZ : R ≠ Z := fun z => by rw [← z, sC _ _ (sLn _ _ (sP _ _ (sB _ _ eR0)))] at nZ; cases nZ
  have nPL : P ≠ Ln := fun z => by rw [← z, eP0] at nLn; cases nLn
  have nPC : P ≠ C := fun z => by rw [← z, sLn _ _ eP0] at nC; cases nC
  have nPZ : P ≠ Z := fun z => by rw [← z, sC _ _ (sLn _ _ eP0)] at nZ; cases nZ
  have nLC : Ln ≠ C := fun z => by rw [← z, eLn0] at nC; cases nC
  have nLZ : Ln ≠ Z := fun z => by rw [← z, sC _ _ eLn0] at nZ; cases nZ
  have nCZ : C ≠ Z := fun z => by rw [← z, eC0] at nZ; cases nZ
  have hp1 := hp.same sR
  have npR : R ≠ p := fun z => hp.ne2 nR z.symm
  have npB : B ≠ p := fun z => hp1.ne2 nB z.symm
  have npP : P ≠ p := fun z => (hp1.same sB).ne2 nP z.symm
  have npL : Ln ≠ p := fun z => ((hp1.same sB).same sP).ne2 nLn z.symm
  have npC : C ≠ p := fun z => (((hp1.same sB).same sP).same sLn).ne2 nC z.symm
  have npZ : Z ≠ p := fun z => ((((hp1.same sB).same sP).same sLn).same sC).ne2 nZ z.symm
  have hp6 := hp1.same sAll
  have nB0 : H B = none := sR.free nB
  have hP0 : H P = none := sR.free (sB.free nP)
  have hL0 : H Ln = none := sR.free (sB.free (sP.free nLn))
  have hC0 : H C = none := sR.free (sB.free (sP.free (sLn.free nC)))
  have hZ0 : H Z = none := sR.free (sB.free (sP.free (sLn.free (sC.free nZ))))
  have g6 : Same H H6 := sR.trans sAll
  have s1 := g6
  clear sR sB sP sLn sC sAll hp1 eR0 eB0 eP0 eLn0 eC0 nB nP nLn nC nZ
  refine ⟨eB, [(.inr "point", .ref P), (.inr "line", .ref Ln), (.inr "circle", .ref C), (.inr "claim", .ref Z)], rfl, by simp, ?_⟩
  rw [show mergeK [] [((.inr "point" : Key), V.ref P), (.inr "line", .ref Ln), (.inr "circle", .ref C), (.inr "claim", .ref Z)] = [(.inr "point", .ref P), (.inr "line", .ref Ln), (.inr "circle", .ref C), (.inr "claim", .ref Z)] from rfl]
  obtain ⟨H7, e7, k7⟩ : ∃ H7, H7 = upd H6 B (.dK [(.inr "point", .ref P), (.inr "line", .ref Ln), (.inr "circle", .ref C), (.inr "claim", .ref Z)]) ∧ H7 B = some (.dK [(.inr "point", .ref P), (.inr "line", .ref Ln), (.inr "circle", .ref C), (.inr "claim", .ref Z)]) := ⟨_, rfl, upd_same⟩
  have g7 : Same H H7 := by rw [e7]; exact same_updS g6 nB0
  have eR7 : H7 R = some (.lst []) := by rw [e7, upd_ne (fun z => nBR z.symm)]; exact eR
  have eP7 : H7 P = some (.lst []) := by rw [e7, upd_ne (ne_kind eP eB)]; exact eP
  have eL7 : H7 Ln = some (.lst []) := by rw [e7, upd_ne (ne_kind eL eB)]; exact eL
  have eC7 : H7 C = some (.lst []) := by rw [e7, upd_ne (ne_kind eC eB)]; exact eC
  have eZ7 : H7 Z = some (.lst []) := by rw [e7, upd_ne (ne_kind eZ0 eB)]; exact eZ0
  have hp7 : Pl H7 p b := hp.same g7
  rw [← e7]
  clear e7 eR eP eL eC eZ0 eB hp6 g6 s1 sZ
  repeat walk_at "st"
  refine fun S nS => ?_
  have sS := same_new nS (.dK [])
  have eS8 : upd H7 S (.dK []) S = some (.dK []) := upd_same
  generalize upd H7 S (.dK []) = H8 at *
  repeat walk_at "st"
  refine fun Wt nW => ?_
  have sW := same_new nW (.dK [])
  have eW9 : upd H8 Wt (.dK []) Wt = some (.dK []) := upd_same
  generalize upd H8 Wt (.dK []) = H9 at *
  have nSW : S ≠ Wt := fun z => by rw [← z, eS8] at nW; cases nW
  have nBS : B ≠ S := fun z => by rw [← z, k7] at nS; cases nS
  have nBW : B ≠ Wt := fun z => by rw [← z, sS _ _ k7] at nW; cases nW
  have s79 := sS.trans sW
  have g9 := g7.trans s79
  have all0 : All K H H9 p R B S Wt P Ln C Z b [] [] [] [] [] [] := ⟨But.same g9, hp7.same s79, s79 _ _ eR7, .nil, ⟨s79 _ _ k7, s79 _ _ eP7, s79 _ _ eL7, s79 _ _ eC7, s79 _ _ eZ7, npP, npL, npC, npZ, ⟨by simp, by simp, by simp, by simp⟩, npB⟩, ⟨sW _ _ eS8, eW9, light0, by simp [envOf], nSW⟩, trivial, fun z h => by simp at h, ⟨by simp, by simp, by simp, by simp⟩⟩
  have nSp : H S = none := g7.free nS
  have nWp : H Wt = none := g7.free (sS.free nW)
  clear sS sW s79 eS8 eW9 nW nS k7 eR7 eP7 eL7 eC7 eZ7 hp7 g7 g9 hp
  repeat walk_at "st"
  refine ⟨p, _, _, rfl, all0.pl, by omega, by decide, by decide, fun hd H10 c10 hp10 hd0 hd1 => ?_⟩
  have all1 := all0.but c10 hp10 npR
  clear all0 c10 hp10
  repeat walk_at "st"
  with_reducible refine r_cut (fun σ H' => ∃ (y7 y8 y9 : Option V) (us : List V) (ts : List Thing) (pts lns crs cls : List Str), σ = [some (.ref p), some (.int (n : Int)), some (.ref R), some (.ref B), some (.ref S), some (.ref Wt), some (.int (1 + hd)), y7, y8, y9] ∧ All K H H' p R B S Wt P Ln C Z (b + 1 + 1000 * n) us ts pts lns crs cls ∧ ts.length = n) ?U1 ?V1
  case V1 =>
    intro N J
    refine ⟨.int (n : Int), rfl, (n : Int), rfl, by omega, by omega, ?_⟩
    refine for_range (n := ((n : Int)).toNat) (fun i σ H' => ∃ (y7 y8 y9 : Option V) (us : List V) (ts : List Thing) (pts lns crs cls : List Str), σ = [some (.ref p), some (.int (n : Int)), some (.ref R), some (.ref B), some (.ref S), some (.ref Wt), some (.int (1 + hd)), y7, y8, y9] ∧ All K H H' p R B S Wt P Ln C Z (b + 1 + 1000 * i) us ts pts lns crs cls ∧ ts.length = i) ?_ ?_ ?_
    · exact ⟨_, _, _, [], [], [], [], [], [], rfl, all1.but (But.refl _ _) (all1.pl.mono (by omega)) npR, rfl⟩
    · rintro i σ H11 hi ⟨y7, y8, y9, us, ts, pts, lns, crs, cls, rfl, al, hts⟩
      clear all1 J
      have hi60 : i < 60 := by omega
      repeat walk_at "st"
      refine ⟨S, _, rfl, al.dc.s, fun q1 nq => ?_⟩
      obtain ⟨H12, e12, s12, k12⟩ := nw nq (.lst ((sortsD (envOf [] ts)).map fun kv => kV kv.1))
      rw [← e12]
      rw [sort_keys] at k12
      have al12 := al.same s12 npR
      have nq1 : q1 ≠ p := fun z => al.pl.ne2 nq z.symm
      clear al e12
      repeat walk_at "st"
      refine ⟨p, q1, _, nmsE (envOf [] ts), rfl, al12.pl, by omega, lstOf k12, nq1, by rw [nms_len, envOf_len, hts]; simp; omega, fun z H13 c13 hp13 sok nz => ?_⟩
      have al13 := al12.but c13 hp13 npR
      clear al12 c13 hp13 s12 k12
      repeat walk_at "st"
      with_reducible refine r_cut (fun σ H' => ∃ (m : Addr) (x : Str) (ns : List Str), σ = [some (.ref p), some (.int (n : Int)), some (.ref R), some (.ref B), some (.ref S), some (.ref Wt), some (.int (1 + hd)), some (.int (0 + (i : Int))), some (.str z), some (.ref m)] ∧ All K H H' p R B S Wt P Ln C Z (b + 1 + 1000 * i + 200) us ts pts lns crs cls ∧ Mk K H' m x ns ∧ Okm x ns (envOf [] ts)) ?U2 ?V2
      case V2 =>
        intro N J
        repeat walk_at "st"
        refine r_ite (fun c => ?_) (fun c => ?_)
        · repeat walk_at "st"
          refine ⟨sz rfl, fun t1 nt => ?_⟩
          have s14 := same_new nt (.tup [V.str "free"])
          have t14 : SqT K (upd H13 t1 (.tup [V.str "free"])) t1 [.str "free"] := tupOf upd_same
          generalize upd H13 t1 (.tup [V.str "free"]) = H14 at *
          have al14 := al13.same s14 npR
          repeat walk_at "st"
          refine ⟨p, _, rfl, al14.pl, by omega, fun o f1 f2 a1 a2 a3 a4 Hf cf hpf ef k1 k2 _ _ => ?_⟩
          have al15 := al14.but cf hpf npR
          repeat walk_at "st"
          refine r_cat (al14.pl.tup cf t14) (tupOf ef) (by simp) (sz4 (by simp)) fun m Hg sg kg => ?_
          repeat walk_at "st"
          exact J _ _ ⟨m, "free", [], rfl, al15.but (But.same sg) ((al15.pl.same sg).mono (by omega)) npR, ⟨_, kg, .inl ⟨rfl, f1, f2, a1, a2, a3, a4, rfl, sg.tp k1, sg.tp k2⟩⟩, okm_free⟩
        · repeat walk_at "st"
          refine ⟨p, B, P, Ln, C, Z, pts, lns, crs, cls, _, rfl, al13.pl, by omega, al13.bi, fun m x sx g ns H14 c14 hp14 mk tx pr => ?_⟩
          repeat walk_at "st"
          exact J _ _ ⟨m, x, ns, rfl, al13.but c14 (hp14.mono (by omega)) npR, mk, okm_of tx pr al13.mem⟩
      rintro σ H14 ⟨m0, x0, ns0, rfl, al14, mk0, ok0⟩
      clear al13
      with_reducible refine r_cut (fun σ H' => ∃ (m : Addr) (x : Str) (ns : List Str), σ = [some (.ref p), some (.int (n : Int)), some (.ref R), some (.ref B), some (.ref S), some (.ref Wt), some (.int (1 + hd)), some (.int (0 + (i : Int))), some (.str z), some (.ref m)] ∧ All K H H' p R B S Wt P Ln C Z (b + 1 + 1000 * i + 300) us ts pts lns crs cls ∧ Mk K H' m x ns ∧ Okm x ns (envOf [] ts) ∧ wOf x ns (envOf [] ts) ≤ 40) ?U3 ?V3
      case V3 =>
        intro N J
        repeat walk_at "st"
        refine ⟨m0, S, Wt, x0, ns0, envOf [] ts, rfl, mk0, ok0, al14.dc, fun H15 s15 => ?_⟩
        have al15 := al14.same s15 npR
        replace mk0 := mk0.kp (Kp.same s15)
        repeat walk_at "st"
        refine r_ite (fun c => ?_) (fun c => ?_)
        · repeat walk_at "st"
          refine ⟨p, _, _, rfl, al15.pl, by omega, by decide, by decide, fun r1 H16 c16 hp16 l1 u1 => ?_⟩
          have al16 := al15.but c16 hp16 npR
          repeat walk_at "st"
          refine ⟨sz rfl, fun f1 nf1 => ?_⟩
          have s17 := same_new nf1 (.tup [V.int (r1 - 4), .int 1])
          have t17 : SqT K (upd H16 f1 (.tup [V.int (r1 - 4), .int 1])) f1 [.int (r1 - 4), .int 1] := tupOf upd_same
          generalize upd H16 f1 (.tup [V.int (r1 - 4), .int 1]) = H17 at *
          have al17 := al16.same s17 npR
          repeat walk_at "st"
          refine ⟨p, _, _, rfl, al17.pl, by omega, by decide, by decide, fun r2 H18 c18 hp18 l2 u2 => ?_⟩
          have al18 := al17.but c18 hp18 npR
          replace t17 := al17.pl.tup c18 t17
          repeat walk_at "st"
          refine ⟨sz rfl, fun f2 nf2 => ?_⟩
          have s19 := same_new nf2 (.tup [V.int (r2 - 4), .int 1])
          have t19 : SqT K (upd H18 f2 (.tup [V.int (r2 - 4), .int 1])) f2 [.int (r2 - 4), .int 1] := tupOf upd_same
          generalize upd H18 f2 (.tup [V.int (r2 - 4), .int 1]) = H19 at *
          have al19 := al18.same s19 npR
          replace t17 := s19.tp t17
          repeat walk_at "st"
          refine ⟨sz rfl, fun m nm => ?_⟩
          have s20 := same_new nm (.tup [V.str "free", .ref f1, .ref f2])
          repeat walk_at "st"
          exact J _ _ ⟨m, "free", [], rfl, al19.but (But.same s20) ((al19.pl.same s20).mono (by omega)) npR, ⟨[.ref f1, .ref f2], tupOf upd_same, .inl ⟨rfl, f1, f2, _, _, _, _, rfl, s20.tp t17, s20.tp t19⟩⟩, okm_free, by rw [wOf_free]; decide⟩
        · repeat walk_at "st"
          exact J _ _ ⟨m0, x0, ns0, rfl, al15.but (But.refl _ _) (al15.pl.mono (by omega)) npR, mk0, ok0, by omega⟩
      rintro σ H15 ⟨m, x, ns, rfl, al15, mk, ok, hw⟩
      clear al14 mk0 ok0
      have lg := al15.dc.light
      have hw0 := wOf_nonneg lg x ns
      have vr2 := vr_snoc (t := (z, x, ns)) al15.vr nz sok ok hw0 hw
      refine r_dputS ?_
      repeat walk_at "st"
      refine ⟨m, S, Wt, x, ns, envOf [] ts, rfl, mk, ok, al15.dc, fun H16 s16 => ?_⟩
      have al16 := al15.same s16 npR
      replace mk := mk.kp (Kp.same s16)
      clear al15
      repeat walk_at "st"
      have few16 := al16.dc.few
      refine ⟨Wt, _, rfl, DPut.k (k := .inr z) al16.dc.w (by unfold loadsD; rw [List.length_map]; exact Nat.lt_of_le_of_lt few16 (by decide)), ?_⟩
      rw [show putK (loadsD (envOf [] ts)) (.inr z) (V.int (wOf x ns (envOf [] ts))) = loadsD (envStep (envOf [] ts) (z, x, ns)) from put_new nz rfl rfl]
      obtain ⟨H17, e17, k17⟩ : ∃ H17, H17 = upd H16 Wt (.dK (loadsD (envStep (envOf [] ts) (z, x, ns)))) ∧ H17 Wt = some (.dK (loadsD (envStep (envOf [] ts) (z, x, ns)))) := ⟨_, rfl, upd_same⟩
      have kp17 : Kp K H16 H17 := by rw [e17]; exact kp_dict al16.dc.w
      have off17 : ∀ {b : Addr} {o : HO}, b ≠ Wt → H16 b = some o → H17 b = some o := fun hb h => by rw [e17, upd_ne hb]; exact h
      rw [← e17]
      clear e17
      replace mk := mk.kp kp17
      refine r_dputS ?_
      repeat walk_at "st"
      refine ⟨m, x, ns, envOf [] ts, rfl, mk, ok, fun H18 s18 => ?_⟩
      repeat walk_at "st"
      refine ⟨S, _, rfl, DPut.k (k := .inr z) (s18 _ _ (off17 nSW al16.dc.s)) (by unfold sortsD; rw [List.length_map]; exact Nat.lt_of_le_of_lt few16 (by decide)), ?_⟩
      rw [show putK (sortsD (envOf [] ts)) (.inr z) (V.str (sOf x)) = sortsD (envStep (envOf [] ts) (z, x, ns)) from put_new nz rfl rfl]
      obtain ⟨H19, e19, k19⟩ : ∃ H19, H19 = upd H18 S (.dK (sortsD (envStep (envOf [] ts) (z, x, ns)))) ∧ H19 S = some (.dK (sortsD (envStep (envOf [] ts) (z, x, ns)))) := ⟨_, rfl, upd_same⟩
      have kp19 : Kp K H18 H19 := by rw [e19]; exact kp_dict (s18 _ _ (off17 nSW al16.dc.s))
      have off19 : ∀ {b : Addr} {o : HO}, b ≠ Wt → b ≠ S → H16 b = some o → H19 b = some o := fun hb hc h => by rw [e19, upd_ne hc]; exact s18 _ _ (off17 hb h)
      have eW19 : H19 Wt = some (.dK (loadsD (envStep (envOf [] ts) (z, x, ns)))) := by rw [e19, upd_ne (fun z => nSW z.symm)]; exact s18 _ _ k17
      rw [← e19]
      clear e19
      have kp := (kp17.trans (Kp.same s18)).trans kp19
      replace mk := (mk.kp (Kp.same s18)).kp kp19
      have nPW := ne_kind al16.bi.eP al16.dc.w
      have nPS := ne_kind al16.bi.eP al16.dc.s
      have nLW := ne_kind al16.bi.eL al16.dc.w
      have nLS := ne_kind al16.bi.eL al16.dc.s
      have nCW := ne_kind al16.bi.eC al16.dc.w
      have nCS := ne_kind al16.bi.eC al16.dc.s
      have nZW := ne_kind al16.bi.eZ al16.dc.w
      have nZS := ne_kind al16.bi.eZ al16.dc.s
      have nRW := ne_kind al16.eR al16.dc.w
      have nRS := ne_kind al16.eR al16.dc.s
      have hp16 := al16.pl
      have npW : p ≠ Wt := fun e => by obtain ⟨_, _, _, h1, _⟩ := hp16; have h2 := al16.dc.w; rw [← e, h1] at h2; cases h2
      have npS : p ≠ S := fun e => by obtain ⟨_, _, _, h1, _⟩ := hp16; have h2 := al16.dc.s; rw [← e, h1] at h2; cases h2
      have hp19 : Pl H19 p (b + 1 + 1000 * i + 300) := by obtain ⟨a1, a2, a3, h1, h2⟩ := hp16; exact ⟨a1, a2, a3, off19 npW npS h1, h2⟩
      have bt19 : But p H H19 := fun a o ha h => off19 (fun e => by rw [e, nWp] at h; cases h) (fun e => by rw [e, nSp] at h; cases h) (al16.bt a o ha h)
      have bi19 : By H19 p B P Ln C Z pts lns crs cls := ⟨off19 nBW nBS al16.bi.b, off19 nPW nPS al16.bi.eP, off19 nLW nLS al16.bi.eL, off19 nCW nCS al16.bi.eC, off19 nZW nZS al16.bi.eZ, npP, npL, npC, npZ, al16.bi.f, npB⟩
      have eR19 := off19 nRW nRS al16.eR
      have rw19 := al16.rw.kp kp
      have mem16 := al16.mem
      have ln16 := al16.ln
      have lg2 : Light (envStep (envOf [] ts) (z, x, ns)) := by rw [← env_snoc]; exact Vr.light _ _ light0 vr2
      have len2 : (envStep (envOf [] ts) (z, x, ns)).length ≤ 100 := by rw [← env_snoc, envOf_len]; simp; omega
      have zin : z ∈ nmsE (envStep (envOf [] ts) (z, x, ns)) := by rw [nms_step]; simp
      have srt : srtE (envStep (envOf [] ts) (z, x, ns)) z = sOf x := srt_step (t := (z, x, ns)) nz
      obtain ⟨⟨sx, gx, tx, hnx⟩, _⟩ := ok
      clear al16 kp17 kp19 kp k17 off17 off19 s18 s16 hp16 few16
      with_reducible refine r_cut (fun σ H' => ∃ pts' lns' crs' cls' : List Str, σ = [some (.ref p), some (.int (n : Int)), some (.ref R), some (.ref B), some (.ref S), some (.ref Wt), some (.int (1 + hd)), some (.int (0 + (i : Int))), some (.str z), some (.ref m)] ∧ Kp K H19 H' ∧ But p H H' ∧ Pl H' p (b + 1 + 1000 * i + 300) ∧ H' R = some (.lst us) ∧ By H' p B P Ln C Z pts' lns' crs' cls' ∧ H' S = some (.dK (sortsD (envStep (envOf [] ts) (z, x, ns)))) ∧ H' Wt = some (.dK (loadsD (envStep (envOf [] ts) (z, x, ns)))) ∧ (∀ y, (y ∈ pts' ∨ y ∈ lns' ∨ y ∈ crs') → (y ∈ pts ∨ y ∈ lns ∨ y ∈ crs) ∨ y = z) ∧ pts'.length ≤ i + 1 ∧ lns'.length ≤ i + 1 ∧ crs'.length ≤ i + 1 ∧ cls'.length ≤ i + 1) ?U4 ?V4
      case V4 =>
        intro N J
        obtain ⟨v1, v2, v3, v4⟩ := ln16
        rcases sort4 tx with e | e | e | e
        · repeat walk_at "st"
          refine r_bm ?_
          repeat walk_at "st"
          refine r_dg ?_
          repeat walk_at "st"
          refine r_dg ?_
          repeat walk_at "st"
          refine ⟨S, _, rfl, get_sort k19 zin, ?_⟩
          rw [srt, e]
          repeat walk_at "st"
          refine ⟨B, .ref P, rfl, DGet.k (k := .inr "point") bi19.b, ?_⟩
          repeat walk_at "st"
          refine ⟨.inl ⟨rfl, _, lstOf bi19.eP⟩, ?_⟩
          repeat walk_at "st"
          refine ⟨P, _, .str z, rfl, rfl, bi19.eP, by rw [List.length_map]; exact Nat.lt_of_lt_of_le (show pts.length < 64 by omega) (by decide), ?_⟩
          have mm : ∀ y, (y ∈ (pts ++ [z]) ∨ y ∈ lns ∨ y ∈ crs) → (y ∈ pts ∨ y ∈ lns ∨ y ∈ crs) ∨ y = z := mmP
          exact J _ _ ⟨(pts ++ [z]), lns, crs, cls, rfl, kp_list bi19.eP, but_updR bt19 hP0, hp19.updR (fun e => npP e.symm), by rw [upd_ne nRP]; exact eR19, ⟨by rw [upd_ne (fun e => ne_kind bi19.eP bi19.b e.symm)]; exact bi19.b, by rw [List.map_append]; exact upd_same, by rw [upd_ne (fun e => nPL e.symm)]; exact bi19.eL, by rw [upd_ne (fun e => nPC e.symm)]; exact bi19.eC, by rw [upd_ne (fun e => nPZ e.symm)]; exact bi19.eZ, npP, npL, npC, npZ, ⟨by simp; omega, by omega, by omega, by omega⟩, npB⟩, by rw [upd_ne (fun e => nPS e.symm)]; exact k19, by rw [upd_ne (fun e => nPW e.symm)]; exact eW19, mm, by simp; omega, by omega, by omega, by omega⟩
        · repeat walk_at "st"
          refine r_bm ?_
          repeat walk_at "st"
          refine r_dg ?_
          repeat walk_at "st"
          refine r_dg ?_
          repeat walk_at "st"
          refine ⟨S, _, rfl, get_sort k19 zin, ?_⟩
          rw [srt, e]
          repeat walk_at "st"
          refine ⟨B, .ref Ln, rfl, DGet.k (k := .inr "line") bi19.b, ?_⟩
          repeat walk_at "st"
          refine ⟨.inl ⟨rfl, _, lstOf bi19.eL⟩, ?_⟩
          repeat walk_at "st"
          refine ⟨Ln, _, .str z, rfl, rfl, bi19.eL, by rw [List.length_map]; exact Nat.lt_of_lt_of_le (show lns.length < 64 by omega) (by decide), ?_⟩
          have mm : ∀ y, (y ∈ pts ∨ y ∈ (lns ++ [z]) ∨ y ∈ crs) → (y ∈ pts ∨ y ∈ lns ∨ y ∈ crs) ∨ y = z := mmL
          exact J _ _ ⟨pts, (lns ++ [z]), crs, cls, rfl, kp_list bi19.eL, but_updR bt19 hL0, hp19.updR (fun e => npL e.symm), by rw [upd_ne nRL]; exact eR19, ⟨by rw [upd_ne (fun e => ne_kind bi19.eL bi19.b e.symm)]; exact bi19.b, by rw [upd_ne nPL]; exact bi19.eP, by rw [List.map_append]; exact upd_same, by rw [upd_ne (fun e => nLC e.symm)]; exact bi19.eC, by rw [upd_ne (fun e => nLZ e.symm)]; exact bi19.eZ, npP, npL, npC, npZ, ⟨by omega, by simp; omega, by omega, by omega⟩, npB⟩, by rw [upd_ne (fun e => nLS e.symm)]; exact k19, by rw [upd_ne (fun e => nLW e.symm)]; exact eW19, mm, by omega, by simp; omega, by omega, by omega⟩
        · repeat walk_at "st"
          refine r_bm ?_
          repeat walk_at "st"
          refine r_dg ?_
          repeat walk_at "st"
          refine r_dg ?_
          repeat walk_at "st"
          refine ⟨S, _, rfl, get_sort k19 zin, ?_⟩
          rw [srt, e]
          repeat walk_at "st"
          refine ⟨B, .ref C, rfl, DGet.k (k := .inr "circle") bi19.b, ?_⟩
          repeat walk_at "st"
          refine ⟨.inl ⟨rfl, _, lstOf bi19.eC⟩, ?_⟩
          repeat walk_at "st"
          refine ⟨C, _, .str z, rfl, rfl, bi19.eC, by rw [List.length_map]; exact Nat.lt_of_lt_of_le (show crs.length < 64 by omega) (by decide), ?_⟩
          have mm : ∀ y, (y ∈ pts ∨ y ∈ lns ∨ y ∈ (crs ++ [z])) → (y ∈ pts ∨ y ∈ lns ∨ y ∈ crs) ∨ y = z := mmC
          exact J _ _ ⟨pts, lns, (crs ++ [z]), cls, rfl, kp_list bi19.eC, but_updR bt19 hC0, hp19.updR (fun e => npC e.symm), by rw [upd_ne nRC]; exact eR19, ⟨by rw [upd_ne (fun e => ne_kind bi19.eC bi19.b e.symm)]; exact bi19.b, by rw [upd_ne nPC]; exact bi19.eP, by rw [upd_ne nLC]; exact bi19.eL, by rw [List.map_append]; exact upd_same, by rw [upd_ne (fun e => nCZ e.symm)]; exact bi19.eZ, npP, npL, npC, npZ, ⟨by omega, by omega, by simp; omega, by omega⟩, npB⟩, by rw [upd_ne (fun e => nCS e.symm)]; exact k19, by rw [upd_ne (fun e => nCW e.symm)]; exact eW19, mm, by omega, by omega, by simp; omega, by omega⟩
        · repeat walk_at "st"
          refine r_bm ?_
          repeat walk_at "st"
          refine r_dg ?_
          repeat walk_at "st"
          refine r_dg ?_
          repeat walk_at "st"
          refine ⟨S, _, rfl, get_sort k19 zin, ?_⟩
          rw [srt, e]
          repeat walk_at "st"
          refine ⟨B, .ref Z, rfl, DGet.k (k := .inr "claim") bi19.b, ?_⟩
          repeat walk_at "st"
          refine ⟨.inl ⟨rfl, _, lstOf bi19.eZ⟩, ?_⟩
          repeat walk_at "st"
          refine ⟨Z, _, .str z, rfl, rfl, bi19.eZ, by rw [List.length_map]; exact Nat.lt_of_lt_of_le (show cls.length < 64 by omega) (by decide), ?_⟩
          have mm : ∀ y, (y ∈ pts ∨ y ∈ lns ∨ y ∈ crs) → (y ∈ pts ∨ y ∈ lns ∨ y ∈ crs) ∨ y = z := fun y h => .inl h
          exact J _ _ ⟨pts, lns, crs, (cls ++ [z]), rfl, kp_list bi19.eZ, but_updR bt19 hZ0, hp19.updR (fun e => npZ e.symm), by rw [upd_ne nRZ]; exact eR19, ⟨by rw [upd_ne (fun e => ne_kind bi19.eZ bi19.b e.symm)]; exact bi19.b, by rw [upd_ne nPZ]; exact bi19.eP, by rw [upd_ne nLZ]; exact bi19.eL, by rw [upd_ne nCZ]; exact bi19.eC, by rw [List.map_append]; exact upd_same, npP, npL, npC, npZ, ⟨by omega, by omega, by omega, by simp; omega⟩, npB⟩, by rw [upd_ne (fun e => nZS e.symm)]; exact k19, by rw [upd_ne (fun e => nZW e.symm)]; exact eW19, mm, by omega, by omega, by omega, by simp; omega⟩
      rintro σ H20 ⟨pts2, lns2, crs2, cls2, rfl, kp20, bt20, hp20, eR20, bi20, eS20, eW20, mm, v1, v2, v3, v4⟩
      repeat walk_at "st"
      refine r_bm ?_
      repeat walk_at "st"
      refine ⟨.inl ⟨rfl, _, lstOf eR20⟩, ?_⟩
      repeat walk_at "st"
      refine ⟨sz rfl, fun tt ntt => ?_⟩
      have s21 := same_new ntt (.tup [V.str z, .ref m])
      have t21 : SqT K (upd H20 tt (.tup [V.str z, .ref m])) tt [.str z, .ref m] := tupOf upd_same
      generalize upd H20 tt (.tup [V.str z, .ref m]) = H21 at *
      repeat walk_at "st"
      have lu := rw19.len
      refine ⟨R, _, .ref tt, rfl, rfl, s21 _ _ eR20, Nat.lt_of_lt_of_le (show us.length < 64 by omega) (by decide), ?_⟩
      have eR21 := s21 _ _ eR20
      have kp22 : Kp K H21 (upd H21 R (.lst (us ++ [.ref tt]))) := kp_list eR21
      have bi21 := bi20.but (But.same (p := p) s21)
      have th : Th K (upd H21 R (.lst (us ++ [.ref tt]))) (.ref tt) (z, x, ns) := ⟨tt, m, rfl, kp22 _ _ t21, (((mk.kp kp20).kp (Kp.same s21)).kp kp22)⟩
      have rws := rws_snoc ((rw19.kp ((kp20.trans (Kp.same s21)).trans kp22))) th
      refine ⟨_, _, _, us ++ [.ref tt], ts ++ [(z, x, ns)], pts2, lns2, crs2, cls2, rfl, ⟨?_, ?_, upd_same, rws, ?_, ?_, vr2, ?_, ?_⟩, by simp [hts]⟩
      · exact but_updR (bt20.trans (But.same s21)) nR
      · exact ((hp20.same s21).updR (fun e => npR e.symm)).mono (by omega)
      · exact ⟨by rw [upd_ne nBR]; exact bi21.b, by rw [upd_ne (fun e => nRP e.symm)]; exact bi21.eP, by rw [upd_ne (fun e => nRL e.symm)]; exact bi21.eL, by rw [upd_ne (fun e => nRC e.symm)]; exact bi21.eC, by rw [upd_ne (fun e => nRZ e.symm)]; exact bi21.eZ, npP, npL, npC, npZ, bi21.f, npB⟩
      · rw [env_snoc]
        exact ⟨by rw [upd_ne (fun e => nRS e.symm)]; exact s21 _ _ eS20, by rw [upd_ne (fun e => nRW e.symm)]; exact s21 _ _ eW20, lg2, len2, nSW⟩
      · intro y hy
        rw [env_snoc, nms_step]
        rcases mm y hy with h | rfl
        · obtain ⟨h1, h2⟩ := mem16 y h
          exact ⟨List.mem_append_left _ h1, h2⟩
        · exact ⟨by simp, sok⟩
      · simp only [List.length_append, List.length_cons, List.length_nil]
        omega
    · rintro σ H11 ⟨y7, y8, y9, us, ts, pts, lns, crs, cls, rfl, al, hts⟩
      exact J _ _ ⟨_, _, _, us, ts, pts, lns, crs, cls, rfl, al.but (But.refl _ _) (al.pl.mono (by omega)) npR, by omega⟩
  rintro σ H11 ⟨y7, y8, y9, us, ts, pts, lns, crs, cls, rfl, al, hts⟩
  repeat walk_at "st"
  exact q R us ts H11 al.bt (al.pl.mono (by omega)) nR al.eR al.rw al.vr hts
theorem ok_refuse_missing {C_NoThing : Addr} (M_NoThing : MkC P w K mg base 2 "NoThing" C_NoThing (spInitR C_NoThing "name" okStr)) (F : Fn K mg "refuse_missing" s_refuse_missing) : KnX P w K mg base 4 "refuse_missing" ["row", "name"] (spMissing K C_NoThing) := by
  refine F.knX sc_refuse_missing (fun vs H Q E h => ?_) (fun f cdv A outer s H vs Q E hr h => ?_) (fun _ _ _ _ _ _ us hl => match us, hl with | [_, _], _ => rfl)
  · obtain ⟨l, z, us, ts, rfl, _⟩ := h
    rfl
  obtain ⟨l, z, us, ts, rfl, hl, rw_, hn, hz, qY, qN⟩ := h
  have ln := rw_.len
  refine ⟨_, (pss_one (ps_if (pt_cmpR op_notIn_seq (pv 1) (pe_lc (own := [("other", 2), ("making", 3)]) (g := gTup K 2 (gCons (gName 2) (gCons (gName 3) gNil))) (by rfl) sc_refuse_missing.nd (pi_list (pv 0)) (blkOk_by (own := [("other", 2), ("making", 3)]) (N := ["row", "name", "other", "making"]) (sc := (defScope s_refuse_missing)) (by decide +kernel)) (fun _ _ _ _ _ => pg_tup (by rfl) (pgs_cons (pg_name (i := 2) sc_refuse_missing.nd rfl (.inl rfl)) (pgs_cons (pg_name (i := 3) sc_refuse_missing.nd rfl (.inl rfl)) pgs_nil))) (fun _ _ _ _ _ => pts_nil) (fun _ _ _ _ _ => (pv 2))) (by rfl))
    (pss_one (ps_raise (by rfl) (takes_of rfl rfl rfl rfl) (pmk_mk M_NoThing (hr.mono (by decide)) (by rfl) (pa_cons (pv 1) pa_nil))))
    pss_nil)), ?_⟩
  show (_ : TS) _ [some (.ref l), some (.str z), none, none] _
  repeat walk_at "st"
  refine r_lcM ?_
  repeat walk_at "st"
  refine lc_things (fun _ => true) (fun t => .str t.1) hl rw_ (by omega) (fun _ _ => rfl) (fun n t m H' _ g mk R k => k H' (Same.refl _)) (fun n t m H' _ g mk R k => ?_) fun D H1 s1 nD eD => ?_
  · repeat walk_at "st"
    exact k H' (Same.refl _)
  have eD' : H1 D = some (.lst ((nmsT ts).map V.str)) := by
    rw [eD, List.filter_eq_self.mpr (fun _ _ => rfl)]
    unfold nmsT
    rw [List.map_map]
    rfl
  refine r_notIn (lstOf eD') ?_
  repeat walk_at "st"
  refine r_iteN (fun c => ?_) (fun c => ?_)
  · repeat walk_at "st"
    refine r_mkO ?_
    repeat walk_at "st"
    refine ⟨(by show 1 ≤ 1000; decide), fun a na => ⟨a, .str z, rfl, ⟨z, rfl, hz⟩, upd_same, fun wd dx H2 nd ne bt e1 e2 => ?_⟩⟩
    have nd' : H1 dx = none := by rw [upd_ne ne] at nd; exact nd
    exact ⟨rfl, dx, _, e1, e2, nd', qN c dx _ _ (s1.trans (same_raised na nd' bt)) upd_same rfl⟩
  · repeat walk_at "st"
    exact qY c _ s1
theorem ok_beneath {C_NoThing : Addr} (F : Fn K mg "beneath" s_beneath) (G_refuse_missing : KnX P w K mg base 4 "refuse_missing" ["row", "name"] (spMissing K C_NoThing)) (G_grounds : Kn P w K mg base 2 "grounds" ["making"] (spGrounds K)) (z_reversed : mg "reversed" = none) : KnX P w K mg base 5 "beneath" ["row", "name"] (spBeneath K C_NoThing) := by
  refine F.knX sc_beneath (fun vs H Q E h => ?_) (fun f cdv A outer s H vs Q E hr h => ?_) (fun _ _ _ _ _ _ us hl => match us, hl with | [_, _], _ => rfl)
  · obtain ⟨l, z, us, ts, rfl, _⟩ := h
    rfl
  obtain ⟨l, z, us, ts, rfl, hl, rw_, vr, hn, hz, qY, qN⟩ := h
  have ln := rw_.len
  refine ⟨_, (pss_cons (ps_expr (pe_knXX (takes_of rfl rfl rfl rfl) G_refuse_missing (hr.mono (by decide)) (by rfl) (pa_cons (pv 0) (pa_cons (pv 1) pa_nil))))
    (pss_cons (ps_set (i := 2) sc_beneath.nd rfl (.inr rfl) (pe_disp (pps_cons (pv 1) pe_bl pps_nil) rfl rfl (by simp) (by decide)))
    (pss_cons (ps_for (passes_of rfl) rfl (pi_reversed (by rfl) z_reversed (pa_cons (pv 0) pa_nil)) (pg_tup (by rfl) (pgs_cons (pg_name (i := 3) sc_beneath.nd rfl (.inl rfl)) (pgs_cons (pg_name (i := 4) sc_beneath.nd rfl (.inl rfl)) pgs_nil)))
    (pss_one (ps_if (pt_cmp (pc_din (u1 hr.units) (pv 3) (pv 2)))
    (pss_one (ps_for (passes_of rfl) rfl (pi_list (pe_kn G_grounds (hr.mono (by decide)) (by rfl) (pa_cons (pv 4) pa_nil))) (pg_name (i := 5) sc_beneath.nd rfl (.inl rfl))
    (pss_one (ps_dput (u1 hr.units) (pv 2) (pv 5) pe_bl (by rfl)))))
    pss_nil)))
    (pss_one (ps_ret (pe_lc (own := [("other", 3), ("making", 4)]) (g := gTup K 2 (gCons (gName 3) (gCons (gName 4) gNil))) (by rfl) sc_beneath.nd (pi_list (pv 0)) (blkOk_by (own := [("other", 3), ("making", 4)]) (N := ["row", "name", "found", "other", "making", "ground"]) (sc := (defScope s_beneath)) (by decide +kernel)) (fun _ _ _ _ _ => pg_tup (by rfl) (pgs_cons (pg_name (i := 3) sc_beneath.nd rfl (.inl rfl)) (pgs_cons (pg_name (i := 4) sc_beneath.nd rfl (.inl rfl)) pgs_nil))) (fun _ _ _ _ _ => pts_one (PW.pt (pw_and (pt_cmp (pc_din (u1 hr.units) (pv 3) (pv 2))) (pw_and1 (pt_cmpR op_ne (pv 3) (pv 1) (nomark _)))))) (fun _ _ _ _ _ => (pv 3)))))))), ?_⟩
  show (_ : TS) _ [some (.ref l), some (.str z), none, none, none, none] _
  repeat walk_at "st"
  refine ⟨l, z, us, ts, rfl, hl, rw_, hn, hz, fun hz' H1 s1 => ?_, qN⟩
  replace qY := qY hz'
  repeat walk_at "st"
  refine fun D nD => ?_
  refine r_prs ?_
  repeat walk_at "st"
  refine r_prs0 ?_
  have nD0 := s1.free nD
  refine ⟨upd_same, [(.inr z, .bl true)], rfl, by simp, ?_⟩
  obtain ⟨H2, e2, k2⟩ : ∃ H2, H2 = upd (upd H1 D (.dK [])) D (.dK (mergeK [] [(.inr z, .bl true)])) ∧ H2 D = some (.dK (setD [z])) := ⟨_, rfl, by rw [upd_same]; rfl⟩
  have s2 : Same H H2 := by rw [e2]; exact same_updS (same_updS s1 nD0) nD0
  rw [← e2]
  clear e2
  repeat walk_at "st"
  with_reducible refine r_cut (fun σ H' => ∃ y3 y4 y5 : Option V, σ = [some (.ref l), some (.str z), some (.ref D), y3, y4, y5] ∧ Same H H' ∧ H' D = some (.dK (setD (closeF z ts)))) ?U1 ?V1
  case V1 =>
    intro N J
    refine ⟨.ref l, rfl, l, us, rfl, s2.seq hl, ?_⟩
    refine RT.for_Itv (xs := us) (fun i σ H' => ∃ y3 y4 y5 : Option V, σ = [some (.ref l), some (.str z), some (.ref D), y3, y4, y5] ∧ Same H H' ∧ H' D = some (.dK (setD ((ts.reverse.take i).foldl stepF [z]))) ∧ ((ts.reverse.take i).foldl stepF [z]).length ≤ 1 + 4 * i) ?_ ?_ ?_ ?_
    · exact ⟨_, _, _, rfl, s2, k2, by simp⟩
    · rintro i σ H' ⟨_, _, _, _, g', _⟩
      exact g'.seq hl
    · rintro i v σ H3 hi hv ⟨y3, y4, y5, rfl, g3, k3, l3⟩
      obtain ⟨t, ht, a, m, rfl, ta, mk⟩ := rw_.at hv
      obtain ⟨so, gg, tx, hln⟩ := vr.okm ht
      have h4 := four tx
      have er : ts.reverse[i]? = some t := by
        rw [List.getElem?_reverse (by omega), ← ln]
        exact ht
      have e1 : ts.reverse.take (i + 1) = ts.reverse.take i ++ [t] := by rw [List.take_succ, er, Option.toList_some]
      replace mk := mk.kp (Kp.same g3)
      rw [e1, List.foldl_append]
      generalize (ts.reverse.take i).foldl stepF [z] = Fo at *
      show gTup _ _ _ _ _ _ _
      refine r_gT (g3.tp ta) rfl ?_
      refine r_g2 ?_
      repeat walk_at "st"
      obtain ⟨o, dg, ho⟩ := get_set (z := t.1) k3
      refine r_din ?_
      repeat walk_at "st"
      refine ⟨D, o, rfl, dg, ?_⟩
      rw [ho]
      repeat walk_at "st"
      obtain ⟨r, tm, tl⟩ := mk
      refine r_ite (fun c => ?_) (fun c => ?_)
      · unfold tFor iList
        repeat walk_at "st"
        refine ⟨m, t.2.1, so, gg, t.2.2, r, rfl, tm, tx, hln, fun G H4 s4 n4 e4 => ?_⟩
        have nGD : G ≠ D := fun e => by rw [e, k3] at n4; cases n4
        refine ⟨G, rfl, ⟨_, lstOf e4⟩, ?_⟩
        refine for_list (xs := t.2.2.map V.str) (fun j σ H' => ∃ y5 : Option V, σ = [some (.ref l), some (.str z), some (.ref D), some (.str t.1), some (.ref m), y5] ∧ Same H H' ∧ H' G = some (.lst (t.2.2.map V.str)) ∧ H' D = some (.dK (setD ((t.2.2.take j).foldl addF Fo)))) ?_ ?_ ?_ ?_
        · exact ⟨_, rfl, g3.trans s4, e4, by rw [List.take_zero]; exact s4 _ _ k3⟩
        · rintro j σ H' _ ⟨_, _, _, e', _⟩
          exact lstOf e'
        · rintro j v' σ H5 hv' ⟨y5', rfl, g5, e5, k5⟩
          rw [List.getElem?_map] at hv'
          obtain ⟨gr, hgr, rfl⟩ := Option.map_eq_some_iff.mp hv'
          have lj := addsF_len (t.2.2.take j) Fo
          rw [List.length_take] at lj
          repeat walk_at "st"
          refine r_dput ?_
          repeat walk_at "st"
          refine ⟨D, _, rfl, DPut.k (k := .inr gr) k5 (by unfold setD; rw [List.length_map]; exact Nat.lt_of_le_of_lt (show _ ≤ 1000 by omega) (by decide)), ?_⟩
          rw [put_set]
          refine ⟨_, rfl, same_updS g5 nD0, by rw [upd_ne nGD]; exact e5, ?_⟩
          rw [List.take_succ, hgr, Option.toList_some, List.foldl_append]
          exact upd_same
        · rintro σ H5 ⟨y5', rfl, g5, e5, k5⟩
          rw [List.length_map, List.take_length] at k5
          have lj := addsF_len t.2.2 Fo
          refine ⟨_, _, _, rfl, g5, ?_, ?_⟩
          · show H5 D = some (.dK (setD (stepF Fo t)))
            rw [step_in c]
            exact k5
          · show (stepF Fo t).length ≤ _
            rw [step_in c]
            omega
      · repeat walk_at "st"
        refine ⟨_, _, _, rfl, g3, ?_, ?_⟩
        · show H3 D = some (.dK (setD (stepF Fo t)))
          rw [step_out c]
          exact k3
        · show (stepF Fo t).length ≤ _
          rw [step_out c]
          omega
    · rintro σ H3 ⟨y3, y4, y5, rfl, g3, k3, _⟩
      rw [ln, ← List.length_reverse, List.take_length] at k3
      exact J _ _ ⟨_, _, _, rfl, g3, k3⟩
  rintro σ H3 ⟨y3, y4, y5, rfl, g3, k3⟩
  repeat walk_at "st"
  refine r_lcM ?_
  repeat walk_at "st"
  refine lc_things (keepB z (closeF z ts)) (fun t => .str t.1) (g3.seq hl) (rw_.kp (Kp.same g3)) (by omega) (fun _ _ => rfl) (fun n t m H' _ g mk R k => ?_) (fun n t m H' _ g mk R k => ?_) fun D1 H4 s4 nD1 eD1 => ?_
  · show tAnd _ _ [some (.ref l), some (.str z), some (.ref D), some (.str t.1), some (.ref m), y5] H' R
    obtain ⟨o, dg, ho⟩ := get_set (z := t.1) (g _ _ k3)
    repeat walk_at "st"
    refine r_din ?_
    repeat walk_at "st"
    refine ⟨D, o, rfl, dg, ?_⟩
    rw [ho]
    repeat walk_at "st"
    have kk := k H' (Same.refl _)
    refine r_ite (fun c => ?_) (fun c => ?_)
    · repeat walk_at "st"
      refine r_neX ?_
      repeat walk_at "st"
      unfold keepB at kk
      rw [decide_eq_true c, Bool.true_and] at kk
      exact kk
    · unfold keepB at kk
      rw [decide_eq_false c, Bool.false_and] at kk
      exact kk
  · repeat walk_at "st"
    exact k H' (Same.refl _)
  refine qY D1 H4 (g3.trans s4) (g3.free nD1) ?_
  rw [eD1]
  unfold benOf
  rw [List.map_map]
  rfl
theorem ok_with_above (F : Fn K mg "with_above" s_with_above) (G_grounds : Kn P w K mg base 2 "grounds" ["making"] (spGrounds K)) (z_any : mg "any" = none) (z_list : mg "list" = none) : Kn P w K mg base 3 "with_above" ["row", "names"] (spWithAbove K) := by
  refine F.kn sc_with_above (fun vs H Q E h => ?_) (fun f cdv A outer s H vs Q E hr h => ?_) (fun _ _ _ _ _ _ us hl => match us, hl with | [_, _], _ => rfl)
  · obtain ⟨l, nl, zs, us, ts, rfl, _⟩ := h
    rfl
  obtain ⟨l, nl, zs, us, ts, rfl, hl, hn, rw_, vr, h60, q⟩ := h
  have ln := rw_.len
  refine ⟨_, (pss_cons (ps_set (i := 2) sc_with_above.nd rfl (.inr rfl) pe_dnewK)
    (pss_cons (ps_for PassesOwn.never rfl (pi_list (pv 0)) (pg_tup (by rfl) (pgs_cons (pg_name (i := 3) sc_with_above.nd rfl (.inl rfl)) (pgs_cons (pg_name (i := 4) sc_with_above.nd rfl (.inl rfl)) pgs_nil)))
    (pss_one (ps_if (PW.pt (pw_or (pt_cmpR op_in_seq (pv 3) (pv 1) (by rfl)) (pw_or1 (pt_val (pe_callB (cr_any (by rfl)) (by rfl) z_any (by decide +kernel) (pa_cons (pe_lc (own := [("ground", 5)]) (g := gName 5) (by rfl) sc_with_above.nd (pi_list (pe_kn G_grounds (hr.mono (by decide)) (by rfl) (pa_cons (pv 4) pa_nil))) (blkOk_by (own := [("ground", 5)]) (N := ["row", "names", "found", "other", "making", "ground"]) (sc := (defScope s_with_above)) (by decide +kernel)) (fun _ _ _ _ _ => pg_name (i := 5) sc_with_above.nd rfl (.inl rfl)) (fun _ _ _ _ _ => pts_nil) (fun _ _ _ _ _ => (pe_cmp (pc_din (u1 hr.units) (pv 5) (pv 2))))) pa_nil))))))
    (pss_one (ps_dput (u1 hr.units) (pv 2) (pv 3) pe_bl (by rfl)))
    pss_nil)))
    (pss_one (ps_ret (pe_callTy (call_list_dK (by rfl)) (by rfl) z_list (by decide +kernel) (pa_cons (pv 2) pa_nil)))))), ?_⟩
  show (_ : TS) _ [some (.ref l), some (.ref nl), none, none, none, none] _
  repeat walk_at "st"
  refine fun D nD => ?_
  have sD := same_new nD (.dK [])
  have eD : upd H D (.dK []) D = some (.dK (setD [])) := upd_same
  generalize upd H D (.dK []) = H1 at *
  repeat walk_at "st"
  with_reducible refine r_cut (fun σ H' => ∃ y3 y4 : Option V, σ = [some (.ref l), some (.ref nl), some (.ref D), y3, y4, none] ∧ Same H H' ∧ H' D = some (.dK (setD (upF zs ts)))) ?U1 ?V1
  case V1 =>
    intro N J
    refine ⟨.ref l, rfl, l, rfl, ⟨us, sD.seq hl⟩, ?_⟩
    refine for_list (xs := us) (fun i σ H' => ∃ y3 y4 : Option V, σ = [some (.ref l), some (.ref nl), some (.ref D), y3, y4, none] ∧ Same H H' ∧ H' D = some (.dK (setD (upF zs (ts.take i))))) ?_ ?_ ?_ ?_
    · exact ⟨_, _, rfl, sD, eD⟩
    · rintro i σ H' _ ⟨_, _, _, g', _⟩
      exact g'.seq hl
    · rintro i v σ H3 hv ⟨y3, y4, rfl, g3, k3⟩
      obtain ⟨t, ht, a, m, rfl, ta, mk⟩ := rw_.at hv
      obtain ⟨so, gg, tx, hln⟩ := vr.okm ht
      have h4 := four tx
      have e1 : ts.take (i + 1) = ts.take i ++ [t] := by rw [List.take_succ, ht, Option.toList_some]
      have e2 : upF zs (ts.take (i + 1)) = upStep zs (upF zs (ts.take i)) t := by
        unfold upF
        rw [e1, List.foldl_append]
        rfl
      have lF : (upF zs (ts.take i)).length ≤ _ := upF_len zs (ts.take i) []
      rw [List.length_take] at lF
      simp only [List.length_nil] at lF
      rw [e2]
      generalize upF zs (ts.take i) = Fo at *
      replace mk := mk.kp (Kp.same g3)
      obtain ⟨r, tm, tl⟩ := mk
      refine r_gT (g3.tp ta) rfl ?_
      refine r_g2 ?_
      repeat walk_at "st"
      refine r_in2 (g3.seq hn) ?_
      repeat walk_at "st"
      refine r_ite (fun c => ?_) (fun c => ?_)
      · repeat walk_at "st"
        refine r_dput ?_
        repeat walk_at "st"
        refine ⟨D, _, rfl, DPut.k (k := .inr t.1) k3 (by unfold setD; rw [List.length_map]; exact Nat.lt_of_le_of_lt (show _ ≤ 1000 by omega) (by decide)), ?_⟩
        rw [put_set]
        refine ⟨_, _, rfl, same_updS g3 nD, ?_⟩
        rw [show upStep zs Fo t = addF Fo t.1 by unfold upStep upB; rw [decide_eq_true c, Bool.true_or]; rfl]
        exact upd_same
      · repeat walk_at "st"
        refine r_lcM ?_
        repeat walk_at "st"
        refine ⟨m, t.2.1, so, gg, t.2.2, r, rfl, tm, tx, hln, fun G H4 s4 n4 e4 => ?_⟩
        refine lc_map (fun v => match v with | .str g => .bl (decide (g ∈ Fo)) | _ => .non) (lstOf e4) (by rw [List.length_map]; omega) (fun _ => rfl) (fun i v H' hv g' Rr k => ?_) fun D2 H5 s5 n5 e5 => ?_
        · rw [List.getElem?_map] at hv
          obtain ⟨gr, hgr, rfl⟩ := Option.map_eq_some_iff.mp hv
          obtain ⟨o, dg, ho⟩ := get_set (z := gr) (g' _ _ (s4 _ _ k3))
          refine r_din ?_
          repeat walk_at "st"
          refine ⟨D, o, rfl, dg, ?_⟩
          rw [ho]
          exact k H' (Same.refl _)
        replace e5 : H5 D2 = some (.lst ((t.2.2.map fun g => decide (g ∈ Fo)).map V.bl)) := by
          rw [e5, List.map_map, List.map_map]
          rfl
        have s45 := s4.trans s5
        have g5 := g3.trans s45
        have k5 := s45 _ _ k3
        repeat walk_at "st"
        refine ⟨D2, _, rfl, lstOf e5, ?_⟩
        repeat walk_at "st"
        have hb : (t.2.2.map fun g => decide (g ∈ Fo)).any id = t.2.2.any fun g => decide (g ∈ Fo) := by
          rw [List.any_map]
          rfl
        rw [hb]
        cases c2 : t.2.2.any fun g => decide (g ∈ Fo) with
        | true =>
          repeat walk_at "st"
          refine r_dput ?_
          repeat walk_at "st"
          refine ⟨D, _, rfl, DPut.k (k := .inr t.1) k5 (by unfold setD; rw [List.length_map]; exact Nat.lt_of_le_of_lt (show _ ≤ 1000 by omega) (by decide)), ?_⟩
          rw [put_set]
          refine ⟨_, _, rfl, same_updS g5 nD, ?_⟩
          rw [show upStep zs Fo t = addF Fo t.1 by unfold upStep upB; rw [c2, Bool.or_true]; rfl]
          exact upd_same
        | false =>
          repeat walk_at "st"
          refine ⟨_, _, rfl, g5, ?_⟩
          rw [show upStep zs Fo t = Fo by unfold upStep upB; rw [c2, decide_eq_false c]; rfl]
          exact k5
    · rintro σ H3 ⟨y3, y4, rfl, g3, k3⟩
      rw [ln, List.take_length] at k3
      exact J _ _ ⟨_, _, rfl, g3, k3⟩
  rintro σ H3 ⟨y3, y4, rfl, g3, k3⟩
  repeat walk_at "st"
  refine ⟨D, _, rfl, k3, fun q' nq => ?_⟩
  refine q q' _ (g3.trans (same_new nq _)) (g3.free nq) ?_
  rw [upd_same]
  unfold setD
  rw [List.map_map]
  rfl
theorem ok_above {C_NoThing : Addr} (F : Fn K mg "above" s_above) (G_refuse_missing : KnX P w K mg base 4 "refuse_missing" ["row", "name"] (spMissing K C_NoThing)) (G_with_above : Kn P w K mg base 3 "with_above" ["row", "names"] (spWithAbove K)) : KnX P w K mg base 5 "above" ["row", "name"] (spAbove K C_NoThing) := by
  refine F.knX sc_above (fun vs H Q E h => ?_) (fun f cdv A outer s H vs Q E hr h => ?_) (fun _ _ _ _ _ _ us hl => match us, hl with | [_, _], _ => rfl)
  · obtain ⟨l, z, us, ts, rfl, _⟩ := h
    rfl
  obtain ⟨l, z, us, ts, rfl, hl, rw_, vr, hn, hz, qY, qN⟩ := h
  have ln := rw_.len
  refine ⟨_, (pss_cons (ps_expr (pe_knXX (takes_of rfl rfl rfl rfl) G_refuse_missing (hr.mono (by decide)) (by rfl) (pa_cons (pv 0) (pa_cons (pv 1) pa_nil))))
    (pss_one (ps_ret (pe_lc (own := [("other", 2)]) (g := gName 2) (by rfl) sc_above.nd (pi_list (pe_kn G_with_above (hr.mono (by decide)) (by rfl) (pa_cons (pv 0) (pa_cons (pe_lst (pa_cons (pv 1) pa_nil)) pa_nil)))) (blkOk_by (own := [("other", 2)]) (N := ["row", "name", "other"]) (sc := (defScope s_above)) (by decide +kernel)) (fun _ _ _ _ _ => pg_name (i := 2) sc_above.nd rfl (.inl rfl)) (fun _ _ _ _ _ => pts_one (pt_cmpR op_ne (pv 2) (pv 1) (nomark _))) (fun _ _ _ _ _ => (pv 2)))))), ?_⟩
  show (_ : TS) _ [some (.ref l), some (.str z), none] _
  repeat walk_at "st"
  refine ⟨l, z, us, ts, rfl, hl, rw_, hn, hz, fun hz' H1 s1 => ?_, qN⟩
  replace qY := qY hz'
  repeat walk_at "st"
  refine r_lcM ?_
  repeat walk_at "st"
  refine ⟨sz rfl, fun b nb => ?_⟩
  obtain ⟨H2, e2, s2, k2⟩ := nw nb (.lst [V.str z])
  rw [← e2]
  clear e2
  have g2 := s1.trans s2
  repeat walk_at "st"
  refine ⟨l, b, [z], us, ts, rfl, g2.seq hl, lstOf k2, rw_.kp (Kp.same g2), vr, hn, fun D H3 s3 n3 e3 => ?_⟩
  have lu := upF_len [z] ts []
  simp only [List.length_nil] at lu
  refine lc_filt (fun n => !decide (n = z)) (lstOf e3) (by show (ts.foldl (upStep [z]) []).length ≤ 1000; omega) (fun _ => rfl) (fun n H' _ g Rr k => ?_) (fun n H' _ g Rr k => ?_) fun D2 H4 s4 n4 e4 => ?_
  · show tTest _ [some (.ref l), some (.str z), some (.str n)] H' Rr
    repeat walk_at "st"
    refine r_neX ?_
    repeat walk_at "st"
    exact k H' (Same.refl _)
  · repeat walk_at "st"
    exact k H' (Same.refl _)
  exact qY D2 H4 (g2.trans (s3.trans s4)) ((g2.trans s3).free n4) e4
theorem ok_under (F : Fn K mg "_law_under" s_under) (G_l_grounds : Kn P w K mg base 1 "_law_grounds" ["_law_making_here"] (spGroundsL K)) : Kn P w K mg base 2 "_law_under" ["_law_row_here", "_law_name_here"] (spUnder K) := by
  refine F.kn sc_under (fun vs H Q E h => ?_) (fun f cdv A outer s H vs Q E hr h => ?_) (fun _ _ _ _ _ _ us hl => match us, hl with | [_, _], _ => rfl)
  · obtain ⟨l, z, us, ts, rfl, _⟩ := h
    rfl
  obtain ⟨l, z, us, ts, rfl, hl, rw_, vr, h60, q⟩ := h
  have ln := rw_.len
  refine ⟨_, (pss_cons (ps_set (i := 2) sc_under.nd rfl (.inl rfl) pe_dnewK)
    (pss_cons (ps_for PassesOwn.never rfl (pi_list (pv 0)) (pg_tup (by rfl) (pgs_cons (pg_name (i := 3) sc_under.nd rfl (.inl rfl)) (pgs_cons (pg_name (i := 4) sc_under.nd rfl (.inl rfl)) pgs_nil)))
    (pss_cons (ps_set (i := 5) sc_under.nd rfl (.inl rfl) pe_dnewK)
    (pss_cons (ps_for PassesOwn.never rfl (pi_list (pe_kn G_l_grounds (hr.mono (by decide)) (by rfl) (pa_cons (pv 4) pa_nil))) (pg_name (i := 6) sc_under.nd rfl (.inl rfl))
    (pss_cons (ps_dput (u1 hr.units) (pv 5) (pv 6) pe_bl (by rfl))
    (pss_one (ps_lock (ps_for PassesOwn.never rfl (pi_keys (pe_dget (u1 hr.units) (pv 2) (pv 6) (fun _ _ => rfl))) (pg_name (i := 7) sc_under.nd rfl (.inl rfl))
    (pss_one (ps_dput (u1 hr.units) (pv 5) (pv 7) pe_bl (by rfl))))))))
    (pss_one (ps_dput (u1 hr.units) (pv 2) (pv 3) (pv 5) (by rfl))))))
    (pss_one (ps_ret (pv 2))))), ?_⟩
  show (_ : TS) _ [some (.ref l), some (.str z), none, none, none, none, none, none] _
  repeat walk_at "st"
  refine fun D nD => ?_
  have sD := same_new nD (.dK [])
  have eD : UndAt (upd H D (.dK [])) D (undOf []) := ⟨[], upd_same, .nil⟩
  generalize upd H D (.dK []) = H1 at *
  repeat walk_at "st"
  with_reducible refine r_cut (fun σ H' => ∃ y3 y4 y5 y6 y7 : Option V, σ = [some (.ref l), some (.str z), some (.ref D), y3, y4, y5, y6, y7] ∧ Same H H' ∧ UndAt H' D (undOf ts)) ?U1 ?V1
  case V1 =>
    intro N J
    refine ⟨.ref l, rfl, l, rfl, ⟨us, sD.seq hl⟩, ?_⟩
    refine for_list (xs := us) (fun i σ H' => ∃ y3 y4 y5 y6 y7 : Option V, σ = [some (.ref l), some (.str z), some (.ref D), y3, y4, y5, y6, y7] ∧ Same H H' ∧ UndAt H' D (undOf (ts.take i))) ?_ ?_ ?_ ?_
    · exact ⟨_, _, _, _, _, rfl, sD, eD⟩
    · rintro i σ H' _ ⟨_, _, _, _, _, _, g', _⟩
      exact g'.seq hl
    · rintro i v σ H3 hv ⟨y3, y4, y5, y6, y7, rfl, g3, k3⟩
      obtain ⟨t, ht, a, m, rfl, ta, mk⟩ := rw_.at hv
      have okm := (vr.at ht).2.2.1
      obtain ⟨so, gg, tx, hln⟩ := vr.okm ht
      have h4 := four tx
      have e1 : ts.take (i + 1) = ts.take i ++ [t] := by rw [List.take_succ, ht, Option.toList_some]
      have e2 : undOf (ts.take (i + 1)) = undStep (undOf (ts.take i)) t := by
        unfold undOf
        rw [e1, List.foldl_append]
        rfl
      have hi := (List.getElem?_eq_some_iff.mp ht).1
      obtain ⟨u1_, u2_⟩ := und_take vr i (by omega)
      have ah := vr.ahead ht
      have gin : ∀ g ∈ t.2.2, g ∈ (undOf (ts.take i)).map (·.1) := fun g hg => by rw [u1_]; exact ah.2 g hg
      have gts : ∀ g ∈ t.2.2, g ∈ nmsT ts := fun g hg => by
        obtain ⟨v, hv, e⟩ := List.mem_map.mp (ah.2 g hg)
        exact List.mem_map.mpr ⟨v, List.mem_of_mem_take hv, e⟩
      have uts : ∀ g ∈ t.2.2, ∀ x ∈ getU (undOf (ts.take i)) g, x ∈ nmsT ts := fun g hg x hx => by
        obtain ⟨m', hm', e, e', _⟩ := getU_in (gin g hg)
        rw [e'] at hx
        exact ((u2_ m' hm' x).mp hx).tgt vr
      have few : (undOf (ts.take i)).length ≤ 60 := by
        have := congrArg List.length u1_
        unfold nmsT at this
        rw [List.length_map, List.length_map, List.length_take] at this
        omega
      have nin : t.1 ∉ (undOf (ts.take i)).map (·.1) := by rw [u1_]; exact ah.1
      rw [e2]
      clear e1 e2 u1_ u2_
      generalize undOf (ts.take i) = M at *
      replace mk := mk.kp (Kp.same g3)
      refine r_gT (g3.tp ta) rfl ?_
      refine r_g2 ?_
      repeat walk_at "st"
      refine fun Fd nF => ?_
      have sF := same_new nF (.dK [])
      have eF : upd H3 Fd (.dK []) Fd = some (.dK (setD [])) := upd_same
      have nF0 := g3.free nF
      generalize upd H3 Fd (.dK []) = H4 at *
      have g4 := g3.trans sF
      have k4 := k3.same sF
      repeat walk_at "st"
      with_reducible refine r_cut (fun σ H' => ∃ y6 y7 : Option V, σ = [some (.ref l), some (.str z), some (.ref D), some (.str t.1), some (.ref m), some (.ref Fd), y6, y7] ∧ Same H3 H' ∧ H' Fd = some (.dK (setD (t.2.2.foldl (addU M) [])))) ?U2 ?V2
      case V2 =>
        intro N' J'
        unfold tFor iList
        repeat walk_at "st"
        refine ⟨m, t.2.1, t.2.2, _, rfl, mk.kp (Kp.same sF), okm, fun G H5 s5 n5 e5 => ?_⟩
        have nGF : G ≠ Fd := fun e => by rw [e, eF] at n5; cases n5
        refine ⟨G, rfl, ⟨_, lstOf e5⟩, ?_⟩
        refine for_list (xs := t.2.2.map V.str) (fun j σ H' => ∃ y6 y7 : Option V, σ = [some (.ref l), some (.str z), some (.ref D), some (.str t.1), some (.ref m), some (.ref Fd), y6, y7] ∧ Same H3 H' ∧ H' G = some (.lst (t.2.2.map V.str)) ∧ H' Fd = some (.dK (setD ((t.2.2.take j).foldl (addU M) []))) ∧ OkF ts ((t.2.2.take j).foldl (addU M) [])) ?_ ?_ ?_ ?_
        · exact ⟨_, _, rfl, sF.trans s5, e5, by rw [List.take_zero]; exact s5 _ _ eF, ⟨List.nodup_nil, fun x hx => by cases hx⟩⟩
        · rintro j σ H' _ ⟨_, _, _, _, e', _⟩
          exact lstOf e'
        · rintro j v' σ H6 hv' ⟨y6', y7', rfl, g6, e6, k6, ok6⟩
          rw [List.getElem?_map] at hv'
          obtain ⟨gr, hgr, rfl⟩ := Option.map_eq_some_iff.mp hv'
          have hgm := List.mem_of_getElem? hgr
          have e3 : (t.2.2.take (j + 1)).foldl (addU M) [] = addU M ((t.2.2.take j).foldl (addU M) []) gr := by
            rw [List.take_succ, hgr, Option.toList_some, List.foldl_append]
            rfl
          rw [e3]
          generalize (t.2.2.take j).foldl (addU M) [] = Fo at *
          have lo := ok6.len
          repeat walk_at "st"
          refine r_dputS ?_
          repeat walk_at "st"
          refine ⟨Fd, _, rfl, DPut.k (k := .inr gr) k6 (by unfold setD; rw [List.length_map]; exact Nat.lt_of_le_of_lt (show _ ≤ 1000 by omega) (by decide)), ?_⟩
          rw [put_set]
          obtain ⟨H7, e7, k7⟩ : ∃ H7, H7 = upd H6 Fd (.dK (setD (addF Fo gr))) ∧ H7 Fd = some (.dK (setD (addF Fo gr))) := ⟨_, rfl, upd_same⟩
          have g7 : Same H3 H7 := by rw [e7]; exact same_updS g6 nF
          have eG7 : H7 G = some (.lst (t.2.2.map V.str)) := by rw [e7, upd_ne nGF]; exact e6
          rw [← e7]
          clear e7
          have ok7 := ok6.add (gts gr hgm)
          obtain ⟨kvs, d, hD, hv, hd, ndD⟩ := und_pick k3 (gin gr hgm)
          have ndF : d ≠ Fd := fun e => by rw [e, nF] at hd; cases hd
          have nDF : D ≠ Fd := fun e => by rw [e, nF] at hD; cases hD
          have nGd : G ≠ d := fun e => by rw [e, sF _ _ hd] at n5; cases n5
          have gx := uts gr hgm
          unfold addU
          generalize getU M gr = U at *
          refine ⟨d, _, g7 _ _ hd, trivial, fun od => ?_⟩
          show iKeys (tDGet (tVar 2) (tVar 6)) _ _ _
          refine r_dg ?_
          repeat walk_at "st"
          have dg : DGet (upd H7 d (.frz od (.dK (setD U)))) D (.str gr) (some (.ref d)) := by
            have := DGet.k (H := upd H7 d (.frz od (.dK (setD U)))) (a := D) (k := .inr gr) (by rw [upd_ne (Ne.symm ndD)]; exact g7 _ _ hD)
            rw [hv] at this
            exact this
          refine ⟨D, _, rfl, dg, ?_⟩
          refine ⟨d, od, rfl, .inl ⟨_, upd_same, ?_⟩⟩
          refine for_it walk_keys (fun k σ H' => ∃ y7 : Option V, σ = [some (.ref l), some (.str z), some (.ref D), some (.str t.1), some (.ref m), some (.ref Fd), some (.str gr), y7] ∧ H' d = some (.frz od (.dK (setD U))) ∧ H' Fd = some (.dK (setD ((U.take k).foldl addF (addF Fo gr)))) ∧ ∀ b, b ≠ d → b ≠ Fd → H' b = H7 b) ?_ ?_ ?_ ?_
          · exact ⟨_, rfl, upd_same, by rw [upd_ne (Ne.symm ndF)]; exact k7, fun b hb _ => upd_ne hb⟩
          · rintro k σ H' _ ⟨_, _, e', _⟩
            exact e'
          · rintro k x σ H8 H9 hk ⟨y7'', rfl, e8, k8, r8⟩ ⟨rfl, kk, vv, hkv, rfl⟩
            obtain ⟨n, hn, rfl⟩ := set_at hkv
            have lo8 := (OkF.adds (U.take k) ok7 fun x hx => gx x (List.mem_of_mem_take hx)).len
            repeat walk_at "st"
            refine r_dput ?_
            repeat walk_at "st"
            refine ⟨Fd, _, rfl, DPut.k (k := .inr n) k8 (by rw [set_len]; exact Nat.lt_of_le_of_lt (show _ ≤ 1000 by omega) (by decide)), ?_⟩
            rw [put_set]
            refine ⟨_, rfl, by rw [upd_ne ndF]; exact e8, ?_, fun b hb hb' => by rw [upd_ne hb']; exact r8 b hb hb'⟩
            rw [List.take_succ, hn, Option.toList_some, List.foldl_append]
            exact upd_same
          · rintro σ H8 ⟨y7'', rfl, e8, k8, r8⟩
            rw [set_len, List.take_length] at k8
            refine ⟨e8, _, _, rfl, ?_, ?_, ?_, OkF.adds U ok7 gx⟩
            · intro b o hb
              by_cases c : b = d
              · rw [c, upd_same]
                rw [c, hd] at hb
                exact hb
              · rw [upd_ne c, r8 b c (fun e => by rw [e, nF] at hb; cases hb)]
                exact g7 _ _ hb
            · rw [upd_ne nGd, r8 G nGd nGF]
              exact eG7
            · rw [upd_ne (Ne.symm ndF)]
              exact k8
        · rintro σ H6 ⟨y6', y7', rfl, g6, e6, k6, ok6⟩
          rw [List.length_map, List.take_length] at k6
          exact J' _ _ ⟨_, _, rfl, g6, k6⟩
      rintro σ H6 ⟨y6', y7', rfl, g6, k6⟩
      obtain ⟨kvs, a1, a2⟩ := k3.same g6
      have lk : kvs.length ≤ 60 := by rw [Paired.length a2]; exact few
      repeat walk_at "st"
      refine r_dput ?_
      repeat walk_at "st"
      refine ⟨D, _, rfl, DPut.k (k := .inr t.1) a1 (Nat.lt_of_le_of_lt (show _ ≤ 1000 by omega) (by decide)), ?_⟩
      rw [put_fresh (fun hk => nin (by
        rw [und_keys a2] at hk
        obtain ⟨m', hm', e⟩ := List.mem_map.mp hk
        exact List.mem_map.mpr ⟨m', hm', Sum.inr.inj e⟩))]
      refine ⟨_, _, _, _, _, rfl, same_updS (g3.trans g6) nD, kvs ++ [((.inr t.1 : Key), V.ref Fd)], upd_same, ?_⟩
      have nFD : Fd ≠ D := fun e => by
        obtain ⟨kvs', b1, _⟩ := k3
        rw [e, b1] at nF
        cases nF
      exact paired_snoc ⟨Fd, rfl, by rw [upd_ne nFD]; exact k6⟩ (und_upd a1 a2 fun _ h => h)
    · rintro σ H3 ⟨y3, y4, y5, y6, y7, rfl, g3, k3⟩
      rw [ln, List.take_length] at k3
      exact J _ _ ⟨_, _, _, _, _, rfl, g3, k3⟩
  rintro σ H3 ⟨y3, y4, y5, y6, y7, rfl, g3, k3⟩
  repeat walk_at "st"
  exact q D H3 g3 nD k3
theorem ok_no {C_NoThing C_BookError : Addr} (g_NoThing : mg "NoThing" = some (.ref C_NoThing)) (g_BookError : mg "BookError" = some (.ref C_BookError)) (XC_NoThing : ExcC K C_NoThing) (XF_NoThing : XfC K C_NoThing) (Nname_NoThing : PySem.W.findIn K (.ref C_NoThing) "name" = some none) (ki_NoThing : PySem.W.kitOne K (.ref C_NoThing) (.ref C_BookError) = some true) (ex_NoThing_NoThing : PySem.W.exmOne K (.ref C_NoThing) (.ref C_NoThing) = some true)
    (F : Fn K mg "_law_no" s_no) (G_beneath : KnX P w K mg base 5 "beneath" ["row", "name"] (spBeneath K C_NoThing)) (G_above : KnX P w K mg base 5 "above" ["row", "name"] (spAbove K C_NoThing)) (z_isinstance : mg "isinstance" = none) : Kn P w K mg base 6 "_law_no" ["_law_deed_at", "_law_row_here", "_law_name_here"] (spNo K) := by
  refine F.kn sc_no (fun vs H Q E h => ?_) (fun f cdv A outer s H vs Q E hr h => ?_) (fun _ _ _ _ _ _ us hl => match us, hl with | [_, _, _], _ => rfl)
  · obtain ⟨i, l, z, us, ts, rfl, _⟩ := h
    rfl
  obtain ⟨i, l, z, us, ts, rfl, hl, rw_, vr, hn, hz, nz, q⟩ := h
  refine ⟨_, (pss_cons (ps_set (i := 3) sc_no.nd rfl (.inl rfl) pe_str)
    (pss_cons (ps_try_hs rfl rfl takes0 (fun W pn xe tk => (pss_one (ps_if (pt_cmpR op_eq (pv 0) pe_int (nomark _))
    (pss_one (ps_expr (pe_knS tk G_beneath (hr.mono (by decide)) (by rfl) (pa_cons (pv 1) (pa_cons (pv 2) pa_nil)))))
    (pss_one (ps_expr (pe_knS tk G_above (hr.mono (by decide)) (by rfl) (pa_cons (pv 1) (pa_cons (pv 2) pa_nil))))))))
    (.named (i := 4) sc_no.nd rfl rfl ⟨by rfl, by decide, .inl g_NoThing⟩ (fun a oe cls d pn hz hf => (pss_when (p := cls = .ref C_NoThing) (fun hp => (pss_one (ps_if (pt_val (pe_callB (call_isEC XC_NoThing hp hz hf) (by rfl) z_isinstance (by decide +kernel) (pa_cons (pv 4) (pa_cons (pe_glob (v := .ref C_BookError) (by rfl) g_BookError rfl) pa_nil))))
    (pss_one (ps_set (i := 3) sc_no.nd rfl (.inl rfl) (pe_xf XF_NoThing Nname_NoThing hz hf (pv 4))))
    pss_nil))))) .nil))
    (pss_one (ps_ret (pv 3))))), ?_⟩
  show (_ : TS) _ [some (.int i), some (.ref l), some (.str z), none, none] _
  repeat walk_at "st"
  refine r_seq ?_
  repeat walk_at "st"
  refine r_ite (fun c => ?_) (fun c => ?_)
  all_goals
    repeat walk_at "st"
    refine r_callS ?_
    repeat walk_at "st"
    refine ⟨l, z, us, ts, rfl, hl, rw_, vr, hn, hz, fun hz' => absurd hz' nz, fun _ d fs H1 s1 e1 lk => ?_⟩
    refine ⟨true, ex_NoThing_NoThing, fun _ b hb => ⟨rfl, ?_⟩, (fun z => nomatch z)⟩
    repeat walk_at "st"
    refine ⟨.ref C_BookError, .ref C_BookError, true, d, fs, rfl, fun u h => h, ki_NoThing, rfl, e1, ?_⟩
    repeat walk_at "st"
    refine r_xf ?_
    repeat walk_at "st"
    refine ⟨rfl, rfl, d, fs, _, rfl, e1, lk, ?_⟩
    repeat walk_at "st"
    exact q H1 s1
theorem ok_law {C_NoThing : Addr} {f : Addr} {fd : FuncData} (F : FnP K "law" s_law f fd) (G_pool : Kn P w K mg base 1 "_law_pool" ["_law_script", "_law_at"] (spPool K)) (G_take : Kn P w K mg base 1 "_law_take" ["_law_pool_here", "_law_wide"] spTake) (G_name : Kn P w K mg base 2 "_law_name" ["_law_pool_here", "_law_had"] (spNameR K)) (G_row : Kn P w K mg base 6 "_law_row" ["_law_pool_here", "_law_many"] (spRow K)) (G_under : Kn P w K mg base 2 "_law_under" ["_law_row_here", "_law_name_here"] (spUnder K)) (G_beneath : KnX P w K mg base 5 "beneath" ["row", "name"] (spBeneath K C_NoThing)) (G_above : KnX P w K mg base 5 "above" ["row", "name"] (spAbove K C_NoThing)) (G_no : Kn P w K mg base 6 "_law_no" ["_law_deed_at", "_law_row_here", "_law_name_here"] (spNo K)) (z_isinstance : mg "isinstance" = none) (z_len : mg "len" = none) (z_list : mg "list" = none) (z_range : mg "range" = none) : FnOk P w K mg base CX0 (6 + 1) f fd ["_law_script"] (spLaw K) := by
  refine fnp_ok F sc_law (fun vs H Q E h => ?_) (fun cdv A outer s H vs Q E hr h => ?_)
  · obtain ⟨a, ns, rfl, _⟩ := h
    rfl
  obtain ⟨a, ns, rfl, hS, hl, q⟩ := h
  refine ⟨_, (pss_cons (ps_set (i := 1) sc_law.nd rfl (.inl rfl) (pe_kn G_pool (hr.mono (by decide)) (by rfl) (pa_cons (pv 0) (pa_cons pe_int pa_nil))))
    (pss_cons (ps_set (i := 2) sc_law.nd rfl (.inl rfl) (pe_op op_add pe_int (pe_kn G_take (hr.mono (by decide)) (by rfl) (pa_cons (pv 1) (pa_cons pe_int pa_nil)))))
    (pss_cons (ps_if (pt_cmpR op_eq (pe_kn G_take (hr.mono (by decide)) (by rfl) (pa_cons (pv 1) (pa_cons pe_int pa_nil))) pe_int (nomark _))
    (pss_one (ps_set (i := 2) sc_law.nd rfl (.inl rfl) pe_int))
    pss_nil)
    (pss_cons (ps_set (i := 3) sc_law.nd rfl (.inl rfl) (pe_kn G_row (hr.mono (by decide)) (by rfl) (pa_cons (pv 1) (pa_cons (pv 2) pa_nil))))
    (pss_cons (ps_setLc (i := 4) (own := [("_law_one", 5), ("_law_making_here", 6)]) (g := gTup K 2 (gCons (gName 5) (gCons (gName 6) gNil))) (by rfl) sc_law.nd rfl rfl (sw_true rfl rfl rfl (by decide +kernel)) (pi_list (pv 3)) (blkOk_by (own := [("_law_one", 5), ("_law_making_here", 6)]) (N := ["_law_script", "_law_pool_here", "_law_many", "_law_row_here", "_law_names", "_law_one", "_law_making_here", "_law_under_here", "_law_handed", "_law_k", "_law_name_here", "_law_low_here", "_law_high", "_law_found", "_law_other", "_law_strange"]) (sc := (defScope s_law)) (by decide +kernel)) (fun _ _ _ _ _ => pg_tup (by rfl) (pgs_cons (pg_name (i := 5) sc_law.nd rfl (.inl rfl)) (pgs_cons (pg_name (i := 6) sc_law.nd rfl (.inl rfl)) pgs_nil))) (fun _ _ _ _ _ => pts_nil) (fun _ _ _ _ _ => (pv 5)))
    (pss_cons (ps_set (i := 7) sc_law.nd rfl (.inr rfl) (pe_kn G_under (hr.mono (by decide)) (by rfl) (pa_cons (pv 3) (pa_cons (pe_ix ix_list (pv 4) pe_int (fun _ _ => rfl)) pa_nil))))
    (pss_cons (ps_set (i := 8) sc_law.nd rfl (.inl rfl) (pe_callTy call_list_of (by rfl) z_list (by decide +kernel) (pa_cons (pv 3) pa_nil)))
    (pss_cons (ps_for PassesOwn.never rfl (pi_range1 (by rfl) z_range (pa_cons pe_int pa_nil)) (pg_name (i := 9) sc_law.nd rfl (.inl rfl))
    (pss_cons (ps_set (i := 10) sc_law.nd rfl (.inr rfl) (pe_ix ix_list (pv 4) (pe_kn G_take (hr.mono (by decide)) (by rfl) (pa_cons (pv 1) (pa_cons (pe_callB call_len_seq (by rfl) z_len (by decide +kernel) (pa_cons (pv 4) pa_nil)) pa_nil))) (fun _ _ => rfl)))
    (pss_cons (ps_setLc (i := 11) (own := [("_law_one", 5)]) (g := gName 5) (by rfl) sc_law.nd rfl rfl (sw_true rfl rfl rfl (by decide +kernel)) (pi_list (pv 4)) (blkOk_by (own := [("_law_one", 5)]) (N := ["_law_script", "_law_pool_here", "_law_many", "_law_row_here", "_law_names", "_law_one", "_law_making_here", "_law_under_here", "_law_handed", "_law_k", "_law_name_here", "_law_low_here", "_law_high", "_law_found", "_law_other", "_law_strange"]) (sc := (defScope s_law)) (by decide +kernel)) (fun _ _ _ _ _ => pg_name (i := 5) sc_law.nd rfl (.inl rfl)) (fun _ _ _ _ _ => pts_one (pt_cmp (pc_din (u1 hr.units) (pv 5) (pe_dget (u1 hr.units) (pv 7) (pv 10) (fun _ _ => rfl))))) (fun _ _ _ _ _ => (pv 5)))
    (pss_cons (ps_setLc (i := 12) (own := [("_law_one", 5)]) (g := gName 5) (by rfl) sc_law.nd rfl rfl (sw_true rfl rfl rfl (by decide +kernel)) (pi_list (pv 4)) (blkOk_by (own := [("_law_one", 5)]) (N := ["_law_script", "_law_pool_here", "_law_many", "_law_row_here", "_law_names", "_law_one", "_law_making_here", "_law_under_here", "_law_handed", "_law_k", "_law_name_here", "_law_low_here", "_law_high", "_law_found", "_law_other", "_law_strange"]) (sc := (defScope s_law)) (by decide +kernel)) (fun _ _ _ _ _ => pg_name (i := 5) sc_law.nd rfl (.inl rfl)) (fun _ _ _ _ _ => pts_one (pt_cmp (pc_din (u1 hr.units) (pv 10) (pe_dget (u1 hr.units) (pv 7) (pv 5) (fun _ _ => rfl))))) (fun _ _ _ _ _ => (pv 5)))
    (pss_cons (ps_set (i := 13) sc_law.nd rfl (.inl rfl) (pe_knX G_beneath (hr.mono (by decide)) (by rfl) (pa_cons (pv 8) (pa_cons (pv 10) pa_nil))))
    (pss_cons (ps_set (i := 14) sc_law.nd rfl (.inl rfl) (pe_knX G_above (hr.mono (by decide)) (by rfl) (pa_cons (pv 8) (pa_cons (pv 10) pa_nil))))
    (pss_cons (ps_if (PW.pt (pw_or (pt_not (pt_val (pe_callB call_isi (by rfl) z_isinstance (by decide +kernel) (pa_cons (pv 13) (pa_cons (pe_bltn (v := .ty "list") (by rfl) z_list (by decide +kernel) rfl) pa_nil))))) (pw_or1 (pt_not (pt_val (pe_callB call_isi (by rfl) z_isinstance (by decide +kernel) (pa_cons (pv 14) (pa_cons (pe_bltn (v := .ty "list") (by rfl) z_list (by decide +kernel) rfl) pa_nil))))))))
    (pss_one (ps_ret pe_bl))
    pss_nil)
    (pss_cons (ps_if (PW.pt (pw_or (pt_cmpR (op_neD hr.units) (pv 13) (pv 11) (nomark _)) (pw_or1 (pt_cmpR (op_neD hr.units) (pv 14) (pv 12) (nomark _)))))
    (pss_one (ps_ret pe_bl))
    pss_nil)
    (pss_cons (ps_expr (pe_bm PySem.F.plainAttrs_list PySem.F.slot_list_append PySem.F.type_list_append mt_append (pv 13) (pa_cons (pv 10) pa_nil)))
    (pss_cons (ps_expr (pe_bm PySem.F.plainAttrs_list PySem.F.slot_list_append PySem.F.type_list_append mt_append (pv 14) (pa_cons (pv 10) pa_nil)))
    (pss_one (ps_if (PW.pt (pw_or (pt_cmpR (op_neD hr.units) (pe_knX G_beneath (hr.mono (by decide)) (by rfl) (pa_cons (pv 8) (pa_cons (pv 10) pa_nil))) (pv 11) (nomark _)) (pw_or (pt_cmpR (op_neD hr.units) (pe_knX G_above (hr.mono (by decide)) (by rfl) (pa_cons (pv 8) (pa_cons (pv 10) pa_nil))) (pv 12) (nomark _)) (pw_or1 (pt_cmpR (op_neD hr.units) (pv 8) (pv 3) (nomark _))))))
    (pss_one (ps_ret pe_bl))
    pss_nil))))))))))))
    (pss_cons (ps_set (i := 15) sc_law.nd rfl (.inl rfl) (pe_kn G_name (hr.mono (by decide)) (by rfl) (pa_cons (pv 1) (pa_cons (pv 4) pa_nil))))
    (pss_cons (ps_if (PW.pt (pw_or (pt_cmpR op_ne (pe_kn G_no (hr.mono (by decide)) (by rfl) (pa_cons pe_int (pa_cons (pv 8) (pa_cons (pv 15) pa_nil)))) (pv 15) (nomark _)) (pw_or (pt_cmpR op_ne (pe_kn G_no (hr.mono (by decide)) (by rfl) (pa_cons pe_int (pa_cons (pv 8) (pa_cons (pv 15) pa_nil)))) (pv 15) (nomark _)) (pw_or1 (pt_cmpR (op_neD hr.units) (pv 8) (pv 3) (nomark _))))))
    (pss_one (ps_ret pe_bl))
    pss_nil)
    (pss_one (ps_ret (pe_and (pe_cmpR op_eq (pe_kn G_no (hr.mono (by decide)) (by rfl) (pa_cons pe_int (pa_cons (pe_lst pa_nil) (pa_cons (pv 15) pa_nil)))) (pv 15) (nomark _)) (pe_one (pe_cmpR op_eq (pe_kn G_no (hr.mono (by decide)) (by rfl) (pa_cons pe_int (pa_cons (pe_lst pa_nil) (pa_cons (pv 15) pa_nil)))) (pv 15) (nomark _)))))))))))))))), ?_⟩
  show (_ : TS) _ [some (.ref a), none, none, none, none, none, none, none, none, none, none, none, none, none, none, none] _
  repeat walk_at "st"
  refine ⟨a, ns, _, rfl, hS, hl, by decide, by decide, fun p H1 g1 np hp1 => ?_⟩
  repeat walk_at "st"
  refine ⟨p, _, _, rfl, hp1, by omega, by decide, by decide, fun mn H2 c2 hp2 m0 m1 => ?_⟩
  repeat walk_at "st"
  with_reducible refine r_cut (fun σ H' => ∃ n : Nat, σ = [some (.ref a), some (.ref p), some (.int (n : Int)), none, none, none, none, none, none, none, none, none, none, none, none, none] ∧ Pl H' p 1000010 ∧ 1 ≤ n ∧ n ≤ 60) ?U1 ?V1
  case V1 =>
    intro N J
    repeat walk_at "st"
    refine ⟨p, _, _, rfl, hp2, by omega, by decide, by decide, fun r3 H3 c3 hp3 l3 u3 => ?_⟩
    repeat walk_at "st"
    refine r_ite (fun c => ?_) (fun c => ?_)
    · repeat walk_at "st"
      exact J _ _ ⟨60, rfl, hp3.mono (by omega), by decide, by decide⟩
    · repeat walk_at "st"
      obtain ⟨n, hn⟩ : ∃ n : Nat, 1 + mn = (n : Int) := ⟨(1 + mn).toNat, by omega⟩
      rw [hn]
      exact J _ _ ⟨n, rfl, hp3.mono (by omega), by omega, by omega⟩
  clear hS g1 hp1 hp2 c2 np
  rintro σ H4 ⟨n, rfl, hp4, n1, n60⟩
  repeat walk_at "st"
  refine ⟨p, n, _, rfl, n60, hp4, by omega, fun R us ts H5 c5 hp5 nR eR rw5 vr hts => ?_⟩
  have nRp := hp4.ne2 nR
  clear hp4 c5 nR
  have lu := rw5.len
  repeat walk_at "st"
  refine r_lcM ?_
  repeat walk_at "st"
  refine lc_things (fun _ => true) (fun t => .str t.1) (lstOf eR) rw5 (by omega) (fun _ _ => rfl) (fun n t m H' _ g mk Rr k => k H' (Same.refl _)) (fun n t m H' _ g mk Rr k => ?_) fun Nm H7 s7 nN eN => ?_
  · repeat walk_at "st"
    exact k H' (Same.refl _)
  have eN' : H7 Nm = some (.lst ((nmsT ts).map V.str)) := by
    rw [eN, List.filter_eq_self.mpr (fun _ _ => rfl)]
    unfold nmsT
    rw [List.map_map]
    rfl
  have nNp := hp5.ne2 nN
  clear eN nN
  have ln : (nmsT ts).length = n := by unfold nmsT; rw [List.length_map]; exact hts
  obtain ⟨y0, ay0, my0⟩ := pick_str (zs := nmsT ts) (r := 0) (by decide) (by omega)
  repeat walk_at "st"
  refine r_ixL (lstOf eN') ay0 ?_
  repeat walk_at "st"
  refine ⟨R, y0, us, ts, rfl, lstOf (s7 _ _ eR), rw5.kp (Kp.same s7), vr, by omega, fun D H8 s8 nD un => ?_⟩
  have s58 := s7.trans s8
  repeat walk_at "st"
  refine ⟨R, us, rfl, .inl (lstOf (s58 _ _ eR)), fun Ha nHa => ?_⟩
  obtain ⟨H9, e9, s9, k9⟩ := nw nHa (.lst us)
  rw [← e9]
  clear e9
  have s59 := s58.trans s9
  have lw : Lw K H9 p R Nm D Ha _ us ts := ⟨s59 _ _ eR, rw5.kp (Kp.same s59), s9 _ _ (s8 _ _ eN'), un.same s9, k9, hp5.same s59, nRp, nNp, (hp5.same s58).ne2 nHa⟩
  clear s59 s58 s7 s8 s9 k9 nHa un nD nNp nRp hp5 eN' eR rw5 ay0 my0
  have zl : ∀ y ∈ nmsT ts, y.length ≤ 1000 := fun y hy => Nat.le_trans (vr.sok _ hy).1.1 (by decide)
  have okB : ∀ y ∈ nmsT ts, PyData.strOk y = true := fun y hy => (vr.sok _ hy).2
  repeat walk_at "st"
  with_reducible refine r_cut (fun σ H' => ∃ y9 y10 y11 y12 y13 y14 : Option V, σ = [some (.ref a), some (.ref p), some (.int (n : Int)), some (.ref R), some (.ref Nm), none, none, some (.ref D), some (.ref Ha), y9, y10, y11, y12, y13, y14, none] ∧ Lw K H' p R Nm D Ha 1200000 us ts) ?U3 ?V3
  case V3 =>
    intro N J
    refine ⟨_, rfl, by decide, by decide, for_range (n := 3) (fun i σ H' => ∃ y9 y10 y11 y12 y13 y14 : Option V, σ = [some (.ref a), some (.ref p), some (.int (n : Int)), some (.ref R), some (.ref Nm), none, none, some (.ref D), some (.ref Ha), y9, y10, y11, y12, y13, y14, none] ∧ Lw K H' p R Nm D Ha (1100010 + i) us ts) ⟨_, _, _, _, _, _, rfl, lw.but (But.refl _ _) (lw.pl.mono (by omega))⟩ ?_ ?_⟩
    · rintro i σ H1 hi ⟨y9, y10, y11, y12, y13, y14, rfl, lw1⟩
      repeat walk_at "st"
      refine ⟨Nm, _, rfl, .inl (lstOf lw1.eN), ?_⟩
      repeat walk_at "st"
      refine ⟨p, _, _, rfl, lw1.pl, by omega, by rw [List.length_map]; omega, by rw [List.length_map]; omega, fun r2 H2 c2 hp2 i0 i1 => ?_⟩
      rw [List.length_map] at i1
      obtain ⟨z, az, mz⟩ := pick_str i0 i1
      have lw2 := lw1.but c2 hp2
      clear c2 hp2 lw1
      have un2 := und_nms vr
      repeat walk_at "st"
      refine r_ixL (lstOf lw2.eN) az ?_
      repeat walk_at "st"
      refine r_lcM ?_
      repeat walk_at "st"
      refine lc_filt (fun n => decide (n ∈ getU (undOf ts) z)) (lstOf lw2.eN) (by omega) (fun _ => rfl) (fun x H' hx g Rr k => ?_) (fun x H' hx g Rr k => ?_) fun L H3 s3 n3 e3 => ?_
      · show tTest _ _ H' Rr
        obtain ⟨d, dg, hd⟩ := und_get (lw2.un.same g) (g := z) (by rw [un2]; exact mz)
        obtain ⟨o, dg2, ho⟩ := get_set (z := x) hd
        repeat walk_at "st"
        refine r_din ?_
        repeat walk_at "st"
        refine r_dg ?_
        repeat walk_at "st"
        refine ⟨D, _, rfl, dg, ?_⟩
        refine ⟨d, o, rfl, dg2, ?_⟩
        rw [ho]
        repeat walk_at "st"
        exact k H' (Same.refl _)
      · repeat walk_at "st"
        exact k H' (Same.refl _)
      replace e3 : H3 L = some (.lst ((lowOf z ts).map V.str)) := e3
      have lw3 := lw2.same s3
      repeat walk_at "st"
      refine r_lcM ?_
      repeat walk_at "st"
      refine lc_filt (fun n => decide (z ∈ getU (undOf ts) n)) (lstOf lw3.eN) (by omega) (fun _ => rfl) (fun x H' hx g Rr k => ?_) (fun x H' hx g Rr k => ?_) fun M H4 s4 n4 e4 => ?_
      · show tTest _ _ H' Rr
        obtain ⟨d, dg, hd⟩ := und_get (lw3.un.same g) (g := x) (by rw [un2]; exact hx)
        obtain ⟨o, dg2, ho⟩ := get_set (z := z) hd
        repeat walk_at "st"
        refine r_din ?_
        repeat walk_at "st"
        refine r_dg ?_
        repeat walk_at "st"
        refine ⟨D, _, rfl, dg, ?_⟩
        refine ⟨d, o, rfl, dg2, ?_⟩
        rw [ho]
        repeat walk_at "st"
        exact k H' (Same.refl _)
      · repeat walk_at "st"
        exact k H' (Same.refl _)
      replace e4 : H4 M = some (.lst ((highOf z ts).map V.str)) := e4
      have e3' := s4 _ _ e3
      rw [highOf_eq vr mz] at e4
      rw [lowOf_eq vr mz] at e3'
      have lw4 := lw3.same s4
      clear e3 n3 n4 lw3 s3 s4 az
      have okb := fun x hx => okB x (ben_mem (z := z) x hx)
      have oka := fun x hx => okB x (abv_mem vr mz x hx)
      have la : (abvOf z ts).length ≤ 60 := by
        rw [← highOf_eq vr mz]
        have := filt_len (ts := ts) (p := fun n => decide (z ∈ getU (undOf ts) n))
        unfold highOf
        omega
      have lb : (benOf z ts).length ≤ 60 := by
        rw [← lowOf_eq vr mz]
        have := filt_len (ts := ts) (p := fun n => decide (n ∈ getU (undOf ts) z))
        unfold lowOf
        omega
      repeat walk_at "st"
      refine ⟨Ha, z, us, ts, rfl, lstOf lw4.eH, lw4.rw, vr, by omega, zl z mz, fun _ Fo H5 s5 nF eF => ?_, fun nh => absurd mz nh⟩
      have lw5 := lw4.same s5
      repeat walk_at "st"
      refine ⟨Ha, z, us, ts, rfl, lstOf lw5.eH, lw5.rw, vr, by omega, zl z mz, fun _ Ot H6 s6 nO eO => ?_, fun nh => absurd mz nh⟩
      have g6 := s5.trans s6
      have eF6 := s6 _ _ eF
      have nO4 := s5.free nO
      have nFO : Fo ≠ Ot := fun e => by rw [e, nO] at eF; cases eF
      repeat walk_at "st"
      refine r_seq ?_
      repeat walk_at "st"
      refine r_isi (a := "list") (b := "list") (r := true) (.base (.lst eF6)) (by decide +kernel) ?_
      repeat walk_at "st"
      refine r_isi (a := "list") (b := "list") (r := true) (.base (.lst eO)) (by decide +kernel) ?_
      repeat walk_at "st"
      refine r_seq ?_
      repeat walk_at "st"
      refine r_neStrs (lstOf eF6) (lstOf (g6 _ _ e3')) okb ?_
      repeat walk_at "st"
      refine r_neStrs (lstOf eO) (lstOf (g6 _ _ e4)) oka ?_
      repeat walk_at "st"
      refine r_bm ?_
      repeat walk_at "st"
      refine ⟨.inl ⟨rfl, _, lstOf eF6⟩, ?_⟩
      repeat walk_at "st"
      refine ⟨Fo, _, .str z, rfl, rfl, eF6, by rw [List.length_map]; exact Nat.lt_of_le_of_lt (show _ ≤ 1000 by omega) (by decide), ?_⟩
      obtain ⟨H7, e7⟩ : ∃ H7, H7 = upd H6 Fo (.lst ((benOf z ts).map V.str ++ [V.str z])) := ⟨_, rfl⟩
      have g7 : Same H4 H7 := by rw [e7]; exact same_updS g6 nF
      have eO7 : H7 Ot = some (.lst ((abvOf z ts).map V.str)) := by rw [e7, upd_ne (fun e => nFO e.symm)]; exact eO
      rw [← e7]
      clear e7 g6 eO eF6 eF
      repeat walk_at "st"
      refine r_bm ?_
      repeat walk_at "st"
      refine ⟨.inl ⟨rfl, _, lstOf eO7⟩, ?_⟩
      repeat walk_at "st"
      refine ⟨Ot, _, .str z, rfl, rfl, eO7, by rw [List.length_map]; exact Nat.lt_of_le_of_lt (show _ ≤ 1000 by omega) (by decide), ?_⟩
      obtain ⟨H8, e8⟩ : ∃ H8, H8 = upd H7 Ot (.lst ((abvOf z ts).map V.str ++ [V.str z])) := ⟨_, rfl⟩
      have g8 : Same H4 H8 := by rw [e8]; exact same_updS g7 nO4
      rw [← e8]
      clear e8 g7 eO7 s5 s6 lw5
      have lw8 := lw4.same g8
      repeat walk_at "st"
      refine ⟨Ha, z, us, ts, rfl, lstOf lw8.eH, lw8.rw, vr, by omega, zl z mz, fun _ Fp H9 s9 nP eP => ?_, fun nh => absurd mz nh⟩
      have g9 := g8.trans s9
      repeat walk_at "st"
      refine r_neStrs (lstOf eP) (lstOf (g9 _ _ e3')) okb ?_
      repeat walk_at "st"
      have lw9 := lw8.same s9
      refine ⟨Ha, z, us, ts, rfl, lstOf lw9.eH, lw9.rw, vr, by omega, zl z mz, fun _ Fq H10 s10 nQ eQ => ?_, fun nh => absurd mz nh⟩
      have g10 := g9.trans s10
      have lw10 := lw9.same s10
      repeat walk_at "st"
      refine r_neStrs (lstOf eQ) (lstOf (g10 _ _ e4)) oka ?_
      repeat walk_at "st"
      refine r_neRow (lstOf lw10.eH) (lstOf lw10.eR) lw10.rw vr ?_
      repeat walk_at "st"
      refine ⟨_, _, _, _, _, _, rfl, lw10.same (Same.refl _) |>.but (But.refl _ _) (lw10.pl.mono (by omega))⟩
    · rintro σ H1 ⟨y9, y10, y11, y12, y13, y14, rfl, lw1⟩
      exact J _ _ ⟨_, _, _, _, _, _, rfl, lw1.but (But.refl _ _) (lw1.pl.mono (by omega))⟩
  rintro σ H1 ⟨y9, y10, y11, y12, y13, y14, rfl, lw1⟩
  clear lw
  repeat walk_at "st"
  refine ⟨p, Nm, _, nmsT ts, rfl, lw1.pl, by omega, lstOf lw1.eN, Ne.symm lw1.nN, by omega, fun z H2 c2 hp2 sk nz => ?_⟩
  have lw2 := lw1.but c2 hp2
  have hz : z.length ≤ 1000 := Nat.le_trans sk.1.1 (by decide)
  clear lw1 c2 hp2
  repeat walk_at "st"
  refine r_seq ?_
  repeat walk_at "st"
  refine ⟨0, Ha, z, us, ts, rfl, lstOf lw2.eH, lw2.rw, vr, by omega, hz, nz, fun H3 s3 => ?_⟩
  have lw3 := lw2.same s3
  repeat walk_at "st"
  refine r_neE rfl ?_
  repeat walk_at "st"
  refine ⟨1, Ha, z, us, ts, rfl, lstOf lw3.eH, lw3.rw, vr, by omega, hz, nz, fun H4 s4 => ?_⟩
  have lw4 := lw3.same s4
  repeat walk_at "st"
  refine r_neE rfl ?_
  repeat walk_at "st"
  refine r_neRow (lstOf lw4.eH) (lstOf lw4.eR) lw4.rw vr ?_
  repeat walk_at "st"
  refine ⟨sz rfl, fun b1 nb1 => ?_⟩
  repeat walk_at "st"
  refine ⟨0, b1, z, [], [], rfl, lstOf upd_same, .nil, trivial, by decide, hz, List.not_mem_nil, fun H5 s5 => ?_⟩
  repeat walk_at "st"
  refine r_dT (decide_eq_true rfl) ?_
  repeat walk_at "st"
  refine ⟨sz rfl, fun b2 nb2 => ?_⟩
  repeat walk_at "st"
  refine ⟨1, b2, z, [], [], rfl, lstOf upd_same, .nil, trivial, by decide, hz, List.not_mem_nil, fun H6 s6 => ?_⟩
  repeat walk_at "st"
  rw [decide_eq_true rfl]
  exact q _
end
end Mb
namespace Mb
open PySem PySem.Spec PyProof.Rows L2
def d_wanted : He.DefD := ⟨("wanted", none), "wanted", "wanted", defArgs s_wanted, defBody s_wanted, defScope s_wanted, [], []⟩
def d_grounds : He.DefD := ⟨("grounds", none), "grounds", "grounds", defArgs s_grounds, defBody s_grounds, defScope s_grounds, [], []⟩
def d_beneath : He.DefD := ⟨("beneath", none), "beneath", "beneath", defArgs s_beneath, defBody s_beneath, defScope s_beneath, [], []⟩
def d_above : He.DefD := ⟨("above", none), "above", "above", defArgs s_above, defBody s_above, defScope s_above, [], []⟩
def d_with_above : He.DefD := ⟨("with_above", none), "with_above", "with_above", defArgs s_with_above, defBody s_with_above, defScope s_with_above, [], []⟩
def d_refuse_missing : He.DefD := ⟨("refuse_missing", none), "refuse_missing", "refuse_missing", defArgs s_refuse_missing, defBody s_refuse_missing, defScope s_refuse_missing, [], []⟩
def d_pool : He.DefD := ⟨("_law_pool", none), "_law_pool", "_law_pool", defArgs s_pool, defBody s_pool, defScope s_pool, [], []⟩
def d_take : He.DefD := ⟨("_law_take", none), "_law_take", "_law_take", defArgs s_take, defBody s_take, defScope s_take, [], []⟩
def d_gcd : He.DefD := ⟨("_law_gcd", none), "_law_gcd", "_law_gcd", defArgs s_gcd, defBody s_gcd, defScope s_gcd, [], []⟩
def d_low : He.DefD := ⟨("_law_low", none), "_law_low", "_law_low", defArgs s_low, defBody s_low, defScope s_low, [], []⟩
def d_frac : He.DefD := ⟨("_law_frac", none), "_law_frac", "_law_frac", defArgs s_frac, defBody s_frac, defScope s_frac, [], []⟩
def d_place : He.DefD := ⟨("_law_place", none), "_law_place", "_law_place", defArgs s_place, defBody s_place, defScope s_place, [], []⟩
def d_name : He.DefD := ⟨("_law_name", none), "_law_name", "_law_name", defArgs s_name, defBody s_name, defScope s_name, [], []⟩
def d_l_grounds : He.DefD := ⟨("_law_grounds", none), "_law_grounds", "_law_grounds", defArgs s_l_grounds, defBody s_l_grounds, defScope s_l_grounds, [], []⟩
def d_sort : He.DefD := ⟨("_law_sort", none), "_law_sort", "_law_sort", defArgs s_sort, defBody s_sort, defScope s_sort, [], []⟩
def d_l_weight : He.DefD := ⟨("_law_weight", none), "_law_weight", "_law_weight", defArgs s_l_weight, defBody s_l_weight, defScope s_l_weight, [], []⟩
def d_making : He.DefD := ⟨("_law_making", none), "_law_making", "_law_making", defArgs s_making, defBody s_making, defScope s_making, [], []⟩
def d_row : He.DefD := ⟨("_law_row", none), "_law_row", "_law_row", defArgs s_row, defBody s_row, defScope s_row, [], []⟩
def d_under : He.DefD := ⟨("_law_under", none), "_law_under", "_law_under", defArgs s_under, defBody s_under, defScope s_under, [], []⟩
def d_no : He.DefD := ⟨("_law_no", none), "_law_no", "_law_no", defArgs s_no, defBody s_no, defScope s_no, [], []⟩
def d_law : He.DefD := ⟨("law", none), "law", "law", defArgs s_law, defBody s_law, defScope s_law, [], []⟩
def d_init_BookError : He.DefD := ⟨("BookError", some "__init__"), "__init__", "BookError.__init__", defArgs s_init_BookError, defBody s_init_BookError, defScope s_init_BookError, [.str "", .adr (He.dflAt ("BookError", some "__init__") 1)], []⟩
def d_init_NoThing : He.DefD := ⟨("NoThing", some "__init__"), "__init__", "NoThing.__init__", defArgs s_init_NoThing, defBody s_init_NoThing, defScope s_init_NoThing, [], []⟩
def fn : List He.DefD := [d_wanted, d_grounds, d_beneath, d_above, d_with_above, d_refuse_missing, d_pool, d_take, d_gcd, d_low, d_frac, d_place, d_name, d_l_grounds, d_sort, d_l_weight, d_making, d_row, d_under, d_no, d_law, d_init_BookError, d_init_NoThing]
def fa : List He.Fa := [.glo "wanted", .glo "grounds", .glo "beneath", .glo "above", .glo "with_above", .glo "refuse_missing", .glo "_law_pool", .glo "_law_take", .glo "_law_gcd", .glo "_law_low", .glo "_law_frac", .glo "_law_place", .glo "_law_name", .glo "_law_grounds", .glo "_law_sort", .glo "_law_weight", .glo "_law_making", .glo "_law_row", .glo "_law_under", .glo "_law_no", .glo "law", .free "ValueError", .free "abs", .free "any", .free "isinstance", .free "len", .free "list", .free "range", .free "reversed", .free "str", .free "sum", .glo "WORDS", .glo "BookError", .glo "NoThing", .exm "NoThing" "NoThing" true, .meth "NoThing" "__init__"]
abbrev R : PySem.W.OpenRow := PySem.W.OpenLaw.row PySem.Challenge.rw_movebook_k27_beneath_and_above
def xb (K : PySem.W.Frag) : Bool := wtB K (He.ga K "WORDS") && (boB K "BookError" && (veB K && (excCB K "NoThing" && (kitIs K "NoThing" "BookError" true && (ownOexB K (He.ga K "NoThing") && (He.eqO (PySem.W.findIn K (.ref (He.ga K "NoThing")) "words") (some none) && (xfB K (He.ga K "NoThing") && (He.eqO (PySem.W.findIn K (.ref (He.ga K "NoThing")) "name") (some none)))))))))
abbrev hk : PySem.W.Hook := hookW 5 fa fn wordsTs xb
def ob (s : PySem.W.SharedT) : He.AlT × Bool := obsWG 5 fa fn wordsTs xb (HandSHeadRun.getT s)
theorem ob_eq (s : PySem.W.SharedT) : ob s = hk.obs s.abs := obsWG_eq (HandSHeadRun.getT_eq s)
def names : List PySem.Str := [("BookError" : PySem.Str), ("NoThing" : PySem.Str), ("WORDS" : PySem.Str), ("wanted" : PySem.Str), ("grounds" : PySem.Str), ("beneath" : PySem.Str), ("above" : PySem.Str), ("with_above" : PySem.Str), ("refuse_missing" : PySem.Str), ("_law_pool" : PySem.Str), ("_law_take" : PySem.Str), ("_law_gcd" : PySem.Str), ("_law_low" : PySem.Str), ("_law_frac" : PySem.Str), ("_law_place" : PySem.Str), ("_law_name" : PySem.Str), ("_law_grounds" : PySem.Str), ("_law_sort" : PySem.Str), ("_law_weight" : PySem.Str), ("_law_making" : PySem.Str), ("_law_row" : PySem.Str), ("_law_under" : PySem.Str), ("_law_no" : PySem.Str)]
theorem run1 (b : Bool) (w : World) : HandSHeadRun.RunEq R (PySem.W.view R.prog [27]) hk ob 12000 names (wB b w) := by
  intro os
  cases b
  · kernel_rfl
  · kernel_rfl
theorem run (w : World) : HandSHeadRun.RunEq R (PySem.W.view R.prog [27]) hk ob 12000 names w := by
  have h := run1 (w.params.followText "special-get-raises") w
  rw [wB_eq] at h
  exact h
theorem facts {P : Program} {w : World} {K : PySem.W.Frag} {h : Heap} {mg : Str → Option Value} {f : Addr} (X : K.In h) (G : h.Ns mainGlobals mg) (hfa : mg ("law" : Str) = some (.ref f)) (c : He.SaysD fa fn K) (cx : xb K = true) (ct : He.SaysT fa fn wordsTs w K) :
    ∃ fd : FuncData, (∀ (s : Shared) (v : Value), BindsTo s fd ⟨[v], []⟩ [("_law_script", v)]) ∧ ∀ base : Heap, K.In base → base.Ns mainGlobals mg → FnOk P w K mg base CX0 7 f fd ["_law_script"] (spLaw K) := by
  have F_wanted : Fn K mg "wanted" s_wanted := by
    obtain ⟨fd, F⟩ := c.def_ 0 (d := d_wanted) rfl
    exact ⟨_, fd, F, He.glo_ok X G (c.fact 0 (f := .glo "wanted") rfl)⟩
  have F_grounds : Fn K mg "grounds" s_grounds := by
    obtain ⟨fd, F⟩ := c.def_ 1 (d := d_grounds) rfl
    exact ⟨_, fd, F, He.glo_ok X G (c.fact 1 (f := .glo "grounds") rfl)⟩
  have F_beneath : Fn K mg "beneath" s_beneath := by
    obtain ⟨fd, F⟩ := c.def_ 2 (d := d_beneath) rfl
    exact ⟨_, fd, F, He.glo_ok X G (c.fact 2 (f := .glo "beneath") rfl)⟩
  have F_above : Fn K mg "above" s_above := by
    obtain ⟨fd, F⟩ := c.def_ 3 (d := d_above) rfl
    exact ⟨_, fd, F, He.glo_ok X G (c.fact 3 (f := .glo "above") rfl)⟩
  have F_with_above : Fn K mg "with_above" s_with_above := by
    obtain ⟨fd, F⟩ := c.def_ 4 (d := d_with_above) rfl
    exact ⟨_, fd, F, He.glo_ok X G (c.fact 4 (f := .glo "with_above") rfl)⟩
  have F_refuse_missing : Fn K mg "refuse_missing" s_refuse_missing := by
    obtain ⟨fd, F⟩ := c.def_ 5 (d := d_refuse_missing) rfl
    exact ⟨_, fd, F, He.glo_ok X G (c.fact 5 (f := .glo "refuse_missing") rfl)⟩
  have F_pool : Fn K mg "_law_pool" s_pool := by
    obtain ⟨fd, F⟩ := c.def_ 6 (d := d_pool) rfl
    exact ⟨_, fd, F, He.glo_ok X G (c.fact 6 (f := .glo "_law_pool") rfl)⟩
  have F_take : Fn K mg "_law_take" s_take := by
    obtain ⟨fd, F⟩ := c.def_ 7 (d := d_take) rfl
    exact ⟨_, fd, F, He.glo_ok X G (c.fact 7 (f := .glo "_law_take") rfl)⟩
  have F_gcd : Fn K mg "_law_gcd" s_gcd := by
    obtain ⟨fd, F⟩ := c.def_ 8 (d := d_gcd) rfl
    exact ⟨_, fd, F, He.glo_ok X G (c.fact 8 (f := .glo "_law_gcd") rfl)⟩
  have F_low : Fn K mg "_law_low" s_low := by
    obtain ⟨fd, F⟩ := c.def_ 9 (d := d_low) rfl
    exact ⟨_, fd, F, He.glo_ok X G (c.fact 9 (f := .glo "_law_low") rfl)⟩
  have F_frac : Fn K mg "_law_frac" s_frac := by
    obtain ⟨fd, F⟩ := c.def_ 10 (d := d_frac) rfl
    exact ⟨_, fd, F, He.glo_ok X G (c.fact 10 (f := .glo "_law_frac") rfl)⟩
  have F_place : Fn K mg "_law_place" s_place := by
    obtain ⟨fd, F⟩ := c.def_ 11 (d := d_place) rfl
    exact ⟨_, fd, F, He.glo_ok X G (c.fact 11 (f := .glo "_law_place") rfl)⟩
  have F_name : Fn K mg "_law_name" s_name := by
    obtain ⟨fd, F⟩ := c.def_ 12 (d := d_name) rfl
    exact ⟨_, fd, F, He.glo_ok X G (c.fact 12 (f := .glo "_law_name") rfl)⟩
  have F_l_grounds : Fn K mg "_law_grounds" s_l_grounds := by
    obtain ⟨fd, F⟩ := c.def_ 13 (d := d_l_grounds) rfl
    exact ⟨_, fd, F, He.glo_ok X G (c.fact 13 (f := .glo "_law_grounds") rfl)⟩
  have F_sort : Fn K mg "_law_sort" s_sort := by
    obtain ⟨fd, F⟩ := c.def_ 14 (d := d_sort) rfl
    exact ⟨_, fd, F, He.glo_ok X G (c.fact 14 (f := .glo "_law_sort") rfl)⟩
  have F_l_weight : Fn K mg "_law_weight" s_l_weight := by
    obtain ⟨fd, F⟩ := c.def_ 15 (d := d_l_weight) rfl
    exact ⟨_, fd, F, He.glo_ok X G (c.fact 15 (f := .glo "_law_weight") rfl)⟩
  have F_making : Fn K mg "_law_making" s_making := by
    obtain ⟨fd, F⟩ := c.def_ 16 (d := d_making) rfl
    exact ⟨_, fd, F, He.glo_ok X G (c.fact 16 (f := .glo "_law_making") rfl)⟩
  have F_row : Fn K mg "_law_row" s_row := by
    obtain ⟨fd, F⟩ := c.def_ 17 (d := d_row) rfl
    exact ⟨_, fd, F, He.glo_ok X G (c.fact 17 (f := .glo "_law_row") rfl)⟩
  have F_under : Fn K mg "_law_under" s_under := by
    obtain ⟨fd, F⟩ := c.def_ 18 (d := d_under) rfl
    exact ⟨_, fd, F, He.glo_ok X G (c.fact 18 (f := .glo "_law_under") rfl)⟩
  have F_no : Fn K mg "_law_no" s_no := by
    obtain ⟨fd, F⟩ := c.def_ 19 (d := d_no) rfl
    exact ⟨_, fd, F, He.glo_ok X G (c.fact 19 (f := .glo "_law_no") rfl)⟩
  have F_law : Fn K mg "law" s_law := by
    obtain ⟨fd, F⟩ := c.def_ 20 (d := d_law) rfl
    exact ⟨_, fd, F, He.glo_ok X G (c.fact 20 (f := .glo "law") rfl)⟩
  have z_ValueError : mg "ValueError" = none := He.free_ok X G (c.fact 21 (f := .free "ValueError") rfl)
  have z_abs : mg "abs" = none := He.free_ok X G (c.fact 22 (f := .free "abs") rfl)
  have z_any : mg "any" = none := He.free_ok X G (c.fact 23 (f := .free "any") rfl)
  have z_isinstance : mg "isinstance" = none := He.free_ok X G (c.fact 24 (f := .free "isinstance") rfl)
  have z_len : mg "len" = none := He.free_ok X G (c.fact 25 (f := .free "len") rfl)
  have z_list : mg "list" = none := He.free_ok X G (c.fact 26 (f := .free "list") rfl)
  have z_range : mg "range" = none := He.free_ok X G (c.fact 27 (f := .free "range") rfl)
  have z_reversed : mg "reversed" = none := He.free_ok X G (c.fact 28 (f := .free "reversed") rfl)
  have z_str : mg "str" = none := He.free_ok X G (c.fact 29 (f := .free "str") rfl)
  have z_sum : mg "sum" = none := He.free_ok X G (c.fact 30 (f := .free "sum") rfl)
  have g_WORDS := He.glo_ok X G (c.fact 31 (f := .glo "WORDS") rfl)
  have g_BookError := He.glo_ok X G (c.fact 32 (f := .glo "BookError") rfl)
  have g_NoThing := He.glo_ok X G (c.fact 33 (f := .glo "NoThing") rfl)
  have ME_NoThing := He.meth_ok (c.fact 35 (f := .meth "NoThing" "__init__") rfl)
  have ex_NoThing_NoThing := He.exm_ok (c.fact 34 (f := .exm "NoThing" "NoThing" true) rfl)
  obtain ⟨cx0, cx⟩ := He.ba cx
  have W_WORDS0 := id cx0
  obtain ⟨cx1, cx⟩ := He.ba cx
  have BI_BookError := boB_ok cx1
  obtain ⟨cx2, cx⟩ := He.ba cx
  have VI := veB_ok cx2
  obtain ⟨cx3, cx⟩ := He.ba cx
  have XC_NoThing := excCB_ok cx3
  obtain ⟨cx4, cx⟩ := He.ba cx
  have ki_NoThing := kitIs_ok cx4
  obtain ⟨cx5, cx⟩ := He.ba cx
  have OX_NoThing := ownOexB_ok cx5
  obtain ⟨cx6, cx⟩ := He.ba cx
  have NW_NoThing := He.eqO_ok cx6
  obtain ⟨cx7, cx⟩ := He.ba cx
  have XF_NoThing := xfB_ok cx7
  have Nname_NoThing := He.eqO_ok cx
  obtain ⟨fi_BookError, FI_BookError⟩ := c.def_ 21 (d := d_init_BookError) rfl
  obtain ⟨fi_NoThing, FI_NoThing⟩ := c.def_ 22 (d := d_init_NoThing) rfl
  have W_WORDS : Wt K w (He.ga K "WORDS") := wt_of W_WORDS0 (ct.tab 0 rfl)
  have FX_BookError : FnB K mg "BookError" "BookError.__init__" s_init_BookError := ⟨_, _, fi_BookError, _, _, FI_BookError, BI_BookError, g_BookError⟩
  have FX_NoThing : FnI K mg "NoThing" "NoThing.__init__" (He.ga K "NoThing") s_init_NoThing := ⟨_, fi_NoThing, FI_NoThing, OX_NoThing, ME_NoThing.at_, beq_iff_eq.mp ME_NoThing.fn, g_NoThing⟩
  obtain ⟨fd, FL⟩ := c.def_ 20 (d := d_law) rfl
  have e := hfa.symm.trans (He.glo_ok X G (c.fact 20 (f := .glo "law") rfl))
  cases e
  have b := FunD.bindsA (ps := ["_law_script"]) FL fun _ _ _ _ _ _ us hl => match us, hl with | [_], _ => rfl
  refine ⟨fd, fun s v => b s [v] rfl, fun base _ _ => ?_⟩
  have G_init_BookError := ok_init_BookError (P := P) (w := w) (base := base) FX_BookError z_ValueError VI
  have G_init_NoThing := ok_init_NoThing (P := P) (w := w) (base := base) FX_NoThing G_init_BookError NW_NoThing Nname_NoThing
  have G_wanted := ok_wanted (P := P) (w := w) (base := base) g_WORDS W_WORDS F_wanted
  have G_grounds := ok_grounds (P := P) (w := w) (base := base) F_grounds G_wanted z_len z_list
  have G_pool := ok_pool (P := P) (w := w) (base := base) F_pool z_len
  have G_take := ok_take (P := P) (w := w) (base := base) F_take
  have G_gcd := ok_gcd (P := P) (w := w) (base := base) F_gcd z_abs
  have G_low := ok_low (P := P) (w := w) (base := base) F_low G_gcd
  have G_frac := ok_frac (P := P) (w := w) (base := base) F_frac G_take G_low
  have G_place := ok_place (P := P) (w := w) (base := base) F_place G_frac
  have G_name := ok_name (P := P) (w := w) (base := base) F_name G_take z_len z_range z_str
  have G_l_grounds := ok_l_grounds (P := P) (w := w) (base := base) F_l_grounds z_list
  have G_sort := ok_sort (P := P) (w := w) (base := base) F_sort
  have G_l_weight := ok_l_weight (P := P) (w := w) (base := base) F_l_weight G_l_grounds z_sum
  have G_making := ok_making (P := P) (w := w) (base := base) F_making G_take G_low G_place z_len
  have G_row := ok_row (P := P) (w := w) (base := base) F_row G_take G_name G_place G_making G_l_weight G_sort z_list z_range
  have G_refuse_missing := ok_refuse_missing (P := P) (w := w) (base := base) G_init_NoThing F_refuse_missing
  have G_beneath := ok_beneath (P := P) (w := w) (base := base) F_beneath G_refuse_missing G_grounds z_reversed
  have G_with_above := ok_with_above (P := P) (w := w) (base := base) F_with_above G_grounds z_any z_list
  have G_above := ok_above (P := P) (w := w) (base := base) F_above G_refuse_missing G_with_above
  have G_under := ok_under (P := P) (w := w) (base := base) F_under G_l_grounds
  have G_no := ok_no (P := P) (w := w) (base := base) g_NoThing g_BookError XC_NoThing XF_NoThing Nname_NoThing ki_NoThing ex_NoThing_NoThing F_no G_beneath G_above z_isinstance
  have G_law := ok_law (P := P) (w := w) (base := base) FL G_pool G_take G_name G_row G_under G_beneath G_above G_no z_isinstance z_len z_list z_range
  exact G_law
end Mb
open PySem PySem.W PySem.Calls PyProof.Rows
set_option maxRecDepth 100000 in
set_option maxHeartbeats 0 in
theorem PySem.Challenge.cw_movebook_k27_beneath_and_above_holds : PySem.Challenge.rw_movebook_k27_beneath_and_above.Holds := by
  w_on; o_law
  refine HandSHeadRun.head_any (r := OpenLaw.row PySem.Challenge.rw_movebook_k27_beneath_and_above) (q := view (OpenLaw.row PySem.Challenge.rw_movebook_k27_beneath_and_above).prog [27]) (H := Mb.hk) (ob := Mb.ob) (M := 12000) (loose := Mb.names) (d := HandSHeadRun.topDef (OpenLaw.row PySem.Challenge.rw_movebook_k27_beneath_and_above).prog 27) (kwd := []) Mb.ob_eq
    (by kernel_rfl) (fun s => by kernel_rfl) Mb.run (by kernel_rfl) (by kernel_rfl) (by kernel_rfl) (by rfl) (by first | assumption | decide +kernel) (by decide +kernel) ⟨rfl, rfl, rfl, rfl, rfl, by decide +kernel⟩ ?hw ?hc
  case hw => w_witness2
  case hc =>
    refine L2.walk_ofE (l := PySem.Challenge.rw_movebook_k27_beneath_and_above) (n := 63) (k := 7) (x := "_law_script") (CX := L2.CX0) rfl (by decide) (by kernel_rfl) ⟨rfl, by decide, by decide⟩ ?F (fun _ _ _ _ z => z)
    intro w mg fa h Y G hmg0
    obtain ⟨K, KX, c, cx⟩ := Y
    have hmg : mg ("law" : PySem.Str) = some (.ref fa) := by
      have e : (HandSHeadRun.topDef (OpenLaw.row PySem.Challenge.rw_movebook_k27_beneath_and_above).prog 27).name = ("law" : PySem.Str) := by kernel_rfl
      rw [← e]
      exact hmg0
    obtain ⟨fd, hb, hF⟩ := Mb.facts (P := (PySem.Challenge.rw_movebook_k27_beneath_and_above).prog) (w := w) KX G hmg c.d cx c
    exact ⟨K, fd, Mb.spLaw K, KX, hb, fun H a ns hl _ hS => ⟨a, ns, rfl, hS, hl, fun _ => rfl⟩, hF⟩
