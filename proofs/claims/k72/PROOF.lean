import PyProof.Rows.All
import Wide.All
import OpenK.AllK
import Wide.FinOn
import KE.KStateDown
import Lean
import HandS.ForMost
import HandS.More
import HandS.WordsExc
import HandS.ExcIs
import HandS.ExcOwn
import HandS.TryOnly
import HandS.Exc
import HandS.Defaults
import HandS.Wide
import HandS.WideBits
import HandS.IsInst
import HandS.Head0
import HandS.Head1
import HandS.Head2
import HandS.HeadEnd
import HandS.HeadHook1
import HandS.HeadHook2
import HandS.Conv
import HandS.FStr
import HandS.DeepEq
import HandS.ExcInit
import HandS.ExcValue
import HandS.ExcField
import KE.KExcIs
import HandS.HeadHook3
import HandS.ListItems
import HandS.Iter
import HandS.Dict
import HandS.Star
import HandS.Rev
import HandS.Style
import HandS.Walk
import HandS.More
import HandS.Sort
import HandS.SortOrd
import HandS.TupSets
import HandS.TupLe
import HandS.SortKw
import KE.DataMinMax
import HandS.TupAny
import HandS.SortInts
import KE.GoesMore
import KE.GoesEnum
import HandS.Zip
import PySem.Challenge.RW_movebook_k72_whole_worths
set_option Elab.async false
set_option linter.all false
set_option maxRecDepth 100000
set_option maxHeartbeats 4000000
namespace Mb
open PySem L2
/-! ### a def that keeps its promise, as its callers take it -/
structure Kn (P : Program) (w : World) (K : PySem.W.Frag) (mg : Str → Option Value) (base : Heap) (k : Nat) (x : Str) (ps : List Str) (sp : Sp) : Prop where
  ex : ∃ f fd, FnOk P w K mg base CX0 k f fd ps sp ∧ mg x = some (.ref f) ∧ PySem.W.keepIn K (.ref f) = true ∧ Binds K fd ps []
theorem pe_kn {X : Cx} {k : Nat} {x : Str} {ps : List Str} {sp : Sp} {e : Expr} {es : List Expr} {p pos : Pos} {t : TA} (G : Kn X.prog X.w X.K X.mg X.base k x ps sp) (hr : Room k X.A) (hg : Gl X x)
    (ha : PA X (e :: es) t) (hdb : (x == ("__debug__" : Str)) = false := by decide) (he : starEach (e :: es) X.env = (false, eval e X.env) :: starEach es X.env := by rfl) (hpl : (backTo pos (starEach es X.env)).any (·.1) = false := by rfl) :
    PE X (.Call (.Name x p) (e :: es) [] pos) (tCall sp [] E0 t) := by
  obtain ⟨f, fd, F, m, kp, b⟩ := G.ex
  exact pe_call F hr hg m kp b .nil pass0 ha hdb he hpl
/-- a def of the text: where it stands -/
abbrev FnP (K : PySem.W.Frag) (x : Str) (st : Stmt) (f : Addr) (fd : FuncData) : Prop := FunD K x x (defArgs st) (defBody st) (defScope st) [] [] f fd
structure Fn (K : PySem.W.Frag) (mg : Str → Option Value) (x : Str) (st : Stmt) : Prop where
  ex : ∃ f fd, FnP K x st f fd ∧ mg x = some (.ref f)
/-- from the walk of its body to its promise -/
theorem Fn.kn {P : Program} {w : World} {K : PySem.W.Frag} {mg : Str → Option Value} {base : Heap} {k : Nat} {x : Str} {st : Stmt} {N ps : List Str} {sp : Sp} (F : Fn K mg x st) (S : FnScope N ps (defScope st)) (len : ∀ vs H Q E, sp vs H Q E → vs.length = ps.length)
    (hbody : ∀ (f : Addr) (cdv : Value) (A : Around) (outer : List Env) (s : Shared) (H : Hp) (vs : List V) (Q : VK) (E : XK), Room k (A.deeper (PyProof.Rows.envOfC x (defScope st) s.heap.objs.size f cdv)) → sp vs H Q E →
      ∃ t, PSs (cxOf CX0 P w K mg base N x (defScope st) f cdv A outer s H E).nox (defBody st) t ∧ t { nx := fun _ H' => Q .non H', rt := Q } (start N vs) H)
    (hb : ∀ (kV doc pm : Value) (an : Option Addr) (cdv ct : Value) (us : List Value), us.length = ps.length → bindArgs (PySem.W.fnOf x x (defArgs st) (defBody st) (defScope st) .none kV doc pm an cdv ct) ⟨us, []⟩ = pure (ps.zip us)) :
    Kn P w K mg base (k + 1) x ps sp := by
  obtain ⟨f, fd, F, m⟩ := F.ex
  refine ⟨f, fd, F.ok S len fun cdv A outer s H vs Q E hr h => ?_, m, F.kp, F.bindsN hb⟩
  obtain ⟨t, p, q⟩ := hbody f cdv A outer s H vs Q E hr h
  exact ⟨t, p.nox, q⟩
/-- the same for the law itself, whose function object is known -/
theorem fnp_ok {P : Program} {w : World} {K : PySem.W.Frag} {mg : Str → Option Value} {base : Heap} {k : Nat} {x : Str} {st : Stmt} {N ps : List Str} {sp : Sp} {f : Addr} {fd : FuncData} (F : FnP K x st f fd) (S : FnScope N ps (defScope st)) (len : ∀ vs H Q E, sp vs H Q E → vs.length = ps.length)
    (hbody : ∀ (cdv : Value) (A : Around) (outer : List Env) (s : Shared) (H : Hp) (vs : List V) (Q : VK) (E : XK), Room k (A.deeper (PyProof.Rows.envOfC x (defScope st) s.heap.objs.size f cdv)) → sp vs H Q E →
      ∃ t, PSs (cxOf CX0 P w K mg base N x (defScope st) f cdv A outer s H E).nox (defBody st) t ∧ t { nx := fun _ H' => Q .non H', rt := Q } (start N vs) H) : FnOk P w K mg base CX0 (k + 1) f fd ps sp := by
  refine F.ok S len fun cdv A outer s H vs Q E hr h => ?_
  obtain ⟨t, p, q⟩ := hbody cdv A outer s H vs Q E hr h
  exact ⟨t, p.nox, q⟩
/-! ### x is True, x is False -/
theorem op_isB {X : Cx} : OpR X (compareOp .Is) (fun x y H Q => ∃ a b, x = .bl a ∧ y = .bl b ∧ Q (.bl (a == b)) H) := by
  intro pins s σ H x y v u Q I rx ry h
  obtain ⟨a, b, rfl, rfl, q⟩ := h
  cases (show v = Value.bool a from rx)
  cases (show u = Value.bool b from ry)
  exact PyProof.Rows.is_bool ⟨.bl (a == b), H, I, rfl, q⟩
/-! ### // by any great divisor but 0 -/
def CDivZ (_ j : Int) : Prop := j ≠ 0 ∧ j.natAbs.log2 < 9000
theorem op_fdivZ {X : Cx} : OpR X (binaryOp .FloorDiv) (rI CDivZ fun i j => .int (i.fdiv j)) := opI fun _ _ _ _ _ _ _ hc q => PyProof.Rows.floordiv_int hc.1 q (.inl (PyProof.noPylong_of_log2 hc.2))
theorem cdivZ {i j : Int} {b : Nat} (h : j ≠ 0) (hb : j.natAbs < 2 ^ b) (h0 : 0 < b) (h9 : b ≤ 9000) : CDivZ i j := ⟨h, Nat.lt_of_lt_of_le (PySem.Flt.log2_lt_of h0 hb) h9⟩
/-! ### readings, step by step -/
section
variable {σ : St} {H : Hp} {Q : VK} {D : Ends} {K : PySem.W.Frag}
theorem r_var {i : Nat} {v : V} (h : σ[i]? = some (some v)) (q : Q v H) : tVar i σ H Q := ⟨v, h, q⟩
theorem r_c {v : V} (q : Q v H) : tC v σ H Q := q
theorem r_op {r : R2} {ta tb : TE} (q : ta σ H fun x H1 => tb σ H1 fun y H2 => r x y H2 Q) : tOp r ta tb σ H Q := q
theorem r_un {r : V → Hp → VK → Prop} {ta : TE} (q : ta σ H fun x H1 => r x H1 Q) : tUn r ta σ H Q := q
theorem r_i {C : Int → Int → Prop} {g : Int → Int → V} {i j : Int} (c : C i j) (q : Q (g i j) H) : rI C g (.int i) (.int j) H Q := ⟨i, j, rfl, rfl, c, q⟩
theorem r_i0 {g : Int → Int → V} {i j : Int} (q : Q (g i j) H) : rI0 g (.int i) (.int j) H Q := ⟨i, j, rfl, rfl, q⟩
theorem r_u {g : Int → V} {i : Int} (q : Q (g i) H) : rU g (.int i) H Q := ⟨i, rfl, q⟩
theorem r_eqI {i j : Int} (q : Q (.bl (decide (i = j))) H) : rEq (.int i) (.int j) H Q := ⟨rfl, by
  rw [show decide (V.int i = V.int j) = decide (i = j) from by simp]; exact q⟩
theorem r_neI {i j : Int} (q : Q (.bl (!decide (i = j))) H) : rNe (.int i) (.int j) H Q := ⟨rfl, by
  rw [show decide (V.int i = V.int j) = decide (i = j) from by simp]; exact q⟩
theorem r_eqB {i j : Bool} (q : Q (.bl (i == j)) H) : rEq (.bl i) (.bl j) H Q := ⟨rfl, by
  rw [show decide (V.bl i = V.bl j) = (i == j) from by cases i <;> cases j <;> rfl]; exact q⟩
theorem r_eqS {i j : Str} (q : Q (.bl (decide (i = j))) H) : rEq (.str i) (.str j) H Q := ⟨rfl, by
  rw [show decide (V.str i = V.str j) = decide (i = j) from by simp]; exact q⟩
theorem r_bits {to : TE} (q : to σ H fun x H1 => ∃ i, x = .int i ∧ Q (.int (Builtin.Int.intBits i : Nat)) H1) : tBits to σ H Q := q
theorem r_int {i : Int} {Q : Int → Prop} (q : Q i) : ∃ k, V.int i = .int k ∧ Q k := ⟨i, rfl, q⟩
theorem r_cb {r : List V → Hp → VK → Prop} {t : TA} (q : t σ H fun vs H1 => r vs H1 Q) : tCB r t σ H Q := q
theorem r_nil {Q : List V → Hp → Prop} (q : Q [] H) : tNil σ H Q := q
theorem r_cons {ta : TE} {tr : TA} {Q : List V → Hp → Prop} (q : ta σ H fun x H1 => tr σ H1 fun xs H2 => Q (x :: xs) H2) : tCons ta tr σ H Q := q
theorem r_tup {t : TA} (q : t σ H fun xs H1 => xs.length ≤ sizeLine ∧ ∀ p, H1 p = none → Q (.ref p) (upd H1 p (.tup xs))) : tTup t σ H Q := q
theorem r_lst {t : TA} (q : t σ H fun xs H1 => xs.length ≤ sizeLine ∧ ∀ p, H1 p = none → Q (.ref p) (upd H1 p (.lst xs))) : tLst t σ H Q := q
theorem r_call {sp : Sp} {E : XK} {t : TA} (q : t σ H fun vs H1 => sp (vs ++ []) H1 Q E) : tCall sp [] E t σ H Q := q
theorem r_seq {t u : TS} (q : t { D with nx := u D } σ H) : tSeq t u D σ H := q
theorem r_seqA {te : TE} {g : TG} {u : TS} (q : te σ H fun x H1 => g x σ H1 (u D)) : tSeq (tAsg te g) u D σ H := q
theorem r_seqD {te : TE} {u : TS} (q : te σ H fun _ H1 => u D σ H1) : tSeq (tDrop te) u D σ H := q
theorem r_seqP {i j : Nat} {ta : TA} {u : TS} (q : ta σ H fun vs H1 => ∃ v w, vs = [v, w] ∧ u D ((σ.set i (some v)).set j (some w)) H1) : tSeq (tPar i j ta) u D σ H := q
theorem r_cut {t u : TS} (R : St → Hp → Prop) (k : ∀ σ1 H1, R σ1 H1 → u D σ1 H1) (h : ∀ N : St → Hp → Prop, (∀ σ1 H1, R σ1 H1 → N σ1 H1) → t { D with nx := N } σ H) : tSeq t u D σ H := h _ k
theorem r_next (q : D.nx σ H) : tNext D σ H := q
theorem r_nx {a c d : St → Hp → Prop} {b : VK} (q : a σ H) : (Ends.mk a b c d).nx σ H := q
theorem r_asg {te : TE} {g : TG} (q : te σ H fun x H1 => g x σ H1 D.nx) : tAsg te g D σ H := q
theorem r_gname {i : Nat} {v : V} {Q : St → Hp → Prop} (q : Q (σ.set i (some v)) H) : gName i v σ H Q := q
theorem r_gsub {to ti : TE} {t : TSet} {v : V} {Q : St → Hp → Prop} (q : to σ H fun o H1 => ti σ H1 fun i H2 => t o i v H2 fun H3 => Q σ H3) : gSub to ti t v σ H Q := q
theorem r_ret {te : TE} (q : te σ H D.rt) : tRet te D σ H := q
theorem r_drop {te : TE} (q : te σ H fun _ H1 => D.nx σ H1) : tDrop te D σ H := q
theorem r_ifs {c : TT} {t u : TS} (q : c σ H fun b H1 => if b = true then t D σ H1 else u D σ H1) : tIfS c t u D σ H := q
theorem r_test {t : TE} {Q : Bool → Hp → Prop} (q : t σ H fun x H' => ∃ k, x = .bl k ∧ Q k H') : tTest t σ H Q := q
theorem r_tB {t : TE} {Q : Bool → Hp → Prop} (q : t σ H fun x H' => ∃ k, x = .bl k ∧ Q k H') : tB t σ H Q := q
theorem r_bl {b : Bool} {Q : Bool → Prop} (q : Q b) : ∃ k, V.bl b = .bl k ∧ Q k := ⟨b, rfl, q⟩
theorem r_and {t u : TT} {Q : Bool → Hp → Prop} (q : t σ H fun c H1 => if c = true then u σ H1 Q else Q false H1) : tAnd t u σ H Q := q
theorem r_or {t u : TT} {Q : Bool → Hp → Prop} (q : t σ H fun c H1 => if c = true then Q true H1 else u σ H1 Q) : tOr t u σ H Q := q
theorem r_not {t : TT} {Q : Bool → Hp → Prop} (q : t σ H fun c H1 => Q (!c) H1) : tNot t σ H Q := q
theorem r_andV {ta tb : TE} (q : ta σ H fun x H1 => ∃ c, x = .bl c ∧ if c = true then tb σ H1 Q else Q (.bl false) H1) : tAndV ta tb σ H Q := q
theorem r_orV {ta tb : TE} (q : ta σ H fun x H1 => ∃ c, x = .bl c ∧ if c = true then Q (.bl true) H1 else tb σ H1 Q) : tOrV ta tb σ H Q := q
theorem r_notV {ta : TE} (q : ta σ H fun x H1 => ∃ c, x = .bl c ∧ Q (.bl (!c)) H1) : tNotV ta σ H Q := q
theorem r_par {i j : Nat} {ta : TA} (q : ta σ H fun vs H1 => ∃ v w, vs = [v, w] ∧ D.nx ((σ.set i (some v)).set j (some w)) H1) : tPar i j ta D σ H := q
theorem r_two {v w : V} {Q : V → V → Prop} (q : Q v w) : ∃ a b, [v, w] = [a, b] ∧ Q a b := ⟨v, w, rfl, q⟩
theorem r_ixL {p : Addr} {xs : List V} {i : Int} {v : V} (h : SqL K H p xs) (a : atI xs i = some v) (q : Q v H) : rIxL K (.ref p) (.int i) H Q := ⟨p, xs, i, v, rfl, rfl, h, a, q⟩
theorem r_ixT {p : Addr} {xs : List V} {i : Int} {v : V} (h : SqT K H p xs) (a : atI xs i = some v) (q : Q v H) : rIxT K (.ref p) (.int i) H Q := ⟨p, xs, i, v, rfl, rfl, h, a, q⟩
theorem r_setL {p : Addr} {xs : List V} {k : Int} {j : Nat} {v : V} {Q : Hp → Prop} (h : H p = some (.lst xs)) (a : ixN xs.length k = some j) (q : Q (upd H p (.lst (xs.set j v)))) : rSetL (.ref p) (.int k) v H Q := ⟨p, xs, k, j, rfl, rfl, h, a, q⟩
theorem r_isi {x : V} {a b : String} {r : Bool} (ty : TyX K H x (.type a)) (h : kitB a b = some r) (q : Q (.bl r) H) : rIsi K [x, .ty b] H Q := ⟨x, .ty b, .type a, .type b, r, rfl, .ty b, ty, kit_ty h, q⟩
theorem r_eqFr {p q : Addr} {a b c d : Int} (h1 : SqT K H p [.int a, .int b]) (h2 : SqT K H q [.int c, .int d]) (e : a = c ∧ b = d) (k : Q (.bl true) H) : rEqD K (.ref p) (.ref q) H Q := by
  obtain ⟨rfl, rfl⟩ := e
  refine ⟨.tuple [.int a, .int b], .tuple [.int a, .int b], .tup h1 (.cons (.int a) (.cons (.int b) .nil)), .tup h2 (.cons (.int a) (.cons (.int b) .nil)), rfl, rfl, ?_⟩
  rw [SeqAt.eqv_refl _ rfl]
  exact k
/-- a test that is open -/
theorem r_ite {c : Prop} [Decidable c] {A B : Prop} (h1 : c → A) (h2 : ¬ c → B) : if decide c = true then A else B := by
  by_cases h : c
  · rw [decide_eq_true h]; exact h1 h
  · rw [decide_eq_false h]; exact h2 h
theorem r_iteN {c : Prop} [Decidable c] {A B : Prop} (h1 : ¬ c → A) (h2 : c → B) : if (!decide c) = true then A else B := by
  by_cases h : c
  · rw [decide_eq_true h]; exact h2 h
  · rw [decide_eq_false h]; exact h1 h
theorem r_T {A B : Prop} (h : A) : if true = true then A else B := iteT h
theorem r_dT {c : Bool} {A B : Prop} (hc : c = true) (h : A) : if c = true then A else B := by rw [hc]; exact iteT h
theorem r_dF {c : Bool} {A B : Prop} (hc : c = false) (h : B) : if c = true then A else B := by rw [hc]; exact iteF h
theorem r_nT {A B : Prop} (h : B) : if (!true) = true then A else B := iteF h
theorem r_nF {A B : Prop} (h : A) : if (!false) = true then A else B := iteT h
theorem r_F {A B : Prop} (h : B) : if false = true then A else B := iteF h
end
/-- a while by a word and a measure -/
theorem r_while {σ : St} {H : Hp} {D : Ends} {c : TT} {tb : TS} (Pv : St → Hp → Prop) (μ : St → Hp → Nat) (h0 : Pv σ H)
    (hs : ∀ σ1 H1, Pv σ1 H1 → c σ1 H1 fun b H2 => if b = true then ∃ N : St → Hp → Prop, (∀ σ2 H2, N σ2 H2 → ∃ m, m < μ σ1 H1 ∧ m = μ σ2 H2 ∧ Pv σ2 H2) ∧ tb { D with nx := N, ct := N, bk := D.nx } σ1 H2 else D.nx σ1 H2) : tWhile c tb D σ H := by
  refine ⟨fun m σ H => m = μ σ H ∧ Pv σ H, ⟨_, rfl, h0⟩, ?_⟩
  rintro m σ H ⟨rfl, p⟩
  exact hs σ H p
theorem r_turn {σ : St} {H : Hp} {D : Ends} {tb : TS} {Pv : St → Hp → Prop} {μ : St → Hp → Nat} {n : Nat} (q : tb { D with nx := fun σ2 H2 => Pv σ2 H2 ∧ μ σ2 H2 < n, ct := fun σ2 H2 => Pv σ2 H2 ∧ μ σ2 H2 < n, bk := D.nx } σ H) :
    ∃ N : St → Hp → Prop, (∀ σ2 H2, N σ2 H2 → ∃ m, m < n ∧ m = μ σ2 H2 ∧ Pv σ2 H2) ∧ tb { D with nx := N, ct := N, bk := D.nx } σ H :=
  ⟨_, fun _ _ h => ⟨_, h.2, rfl, h.1⟩, q⟩
theorem sz {n : Nat} (h : Nat.ble n 1000 = true) : n ≤ sizeLine := Nat.le_of_lt (small1000 (Nat.le_of_ble_eq_true h))
/-! ### heaps -/
/-- all but p is as it was -/
def But (p : Addr) (H H' : Hp) : Prop := ∀ b o, b ≠ p → H b = some o → H' b = some o
theorem But.refl (p : Addr) (H : Hp) : But p H H := fun _ _ _ h => h
theorem But.trans {p : Addr} {H H1 H2 : Hp} (a : But p H H1) (b : But p H1 H2) : But p H H2 := fun c o n h => b c o n (a c o n h)
theorem But.upd (p : Addr) (H : Hp) (o : HO) : But p H (upd H p o) := fun b o' n h => by rw [upd_ne n]; exact h
theorem But.same {p : Addr} {H H' : Hp} (s : Same H H') : But p H H' := fun b o _ h => s b o h
/-- what stood ahead of p's making stands -/
theorem Same.but {H0 H H' : Hp} {p : Addr} (s : Same H0 H) (n : H0 p = none) (b : But p H H') : Same H0 H' := fun c o h => b c o (ne_of_none h n) (s c o h)
theorem same_new {H : Hp} {p : Addr} (h : H p = none) (o : HO) : Same H (upd H p o) := fun b u q => by rw [upd_ne (ne_of_none q h)]; exact q
theorem nw {H : Hp} {p : Addr} (n : H p = none) (o : HO) : ∃ H1, H1 = upd H p o ∧ Same H H1 ∧ H1 p = some o := ⟨_, rfl, same_new n o, upd_same⟩
theorem _root_.L2.Same.tp {K : PySem.W.Frag} {H H' : Hp} {a : Addr} {xs : List V} (e : Same H H') (h : SqT K H a xs) : SqT K H' a xs := by
  rcases h with (h | ⟨o, h⟩) | h
  · exact .inl (.inl (e _ _ h))
  · exact .inl (.inr ⟨o, e _ _ h⟩)
  · exact .inr h
theorem But.tup {K : PySem.W.Frag} {H H' : Hp} {a p : Addr} {xs ys : List V} (e : But p H H') (hp : H p = some (.lst ys)) (h : SqT K H a xs) : SqT K H' a xs := by
  rcases h with (h | ⟨o, h⟩) | h
  · exact .inl (.inl (e _ _ (fun z => by rw [z, hp] at h; cases h) h))
  · exact .inl (.inr ⟨o, e _ _ (fun z => by rw [z, hp] at h; cases h) h⟩)
  · exact .inr h
theorem tupOf {K : PySem.W.Frag} {H : Hp} {a : Addr} {xs : List V} (h : H a = some (.tup xs)) : SqT K H a xs := .inl (.inl h)
theorem lstOf {K : PySem.W.Frag} {H : Hp} {a : Addr} {xs : List V} (h : H a = some (.lst xs)) : SqL K H a xs := .inl (.inl h)
/-! ### sizes -/
abbrev Sm (n : Nat) (i : Int) : Prop := i.natAbs < 2 ^ n
theorem Sm.mono {m n : Nat} {i : Int} (h : Sm m i) (l : m ≤ n) : Sm n i := Nat.lt_of_lt_of_le h (Nat.pow_le_pow_right (by decide) l)
theorem Sm.le {n : Nat} {i j : Int} (h : Sm n j) (l : i.natAbs ≤ j.natAbs) : Sm n i := Nat.lt_of_le_of_lt l h
theorem Sm.mul {m n : Nat} {i j : Int} (h : Sm m i) (l : Sm n j) : Sm (m + n) (i * j) := wide_lt h l
theorem Sm.neg {n : Nat} {i : Int} (h : Sm n i) : Sm n (-i) := by rw [Sm, Int.natAbs_neg]; exact h
theorem Sm.add {n : Nat} {i j : Int} (h : Sm n i) (l : Sm n j) : Sm (n + 1) (i + j) := by
  have := Int.natAbs_add_le i j
  unfold Sm at *
  rw [Nat.pow_succ]
  omega
theorem Sm.sub {n : Nat} {i j : Int} (h : Sm n i) (l : Sm n j) : Sm (n + 1) (i - j) := by
  rw [Int.sub_eq_add_neg]; exact h.add l.neg
theorem Sm.cmul {m n : Nat} {i j : Int} (h : Sm m i) (l : Sm n j) (h0 : 0 < m := by decide) (h1 : 0 < n := by decide) (s : m + n ≤ 1000000 := by decide) : CMulW i j := wide_mul h l h0 h1 s
theorem Sm.cdiv {n : Nat} {i j : Int} (p : 0 < j) (l : Sm n j) (h1 : 0 < n := by decide) (s : n ≤ 9000 := by decide) : CDivW i j := wide_div p l h1 s
theorem Sm.of_lt {n : Nat} {i j : Int} (h0 : 0 ≤ i) (h : i < j) (s : j.natAbs ≤ 2 ^ n) : Sm n i := by unfold Sm; omega
end Mb
namespace Mb
open PySem L2
theorem Sm.addm {m n : Nat} {i j : Int} (h : Sm m i) (l : Sm n j) : Sm (max m n + 1) (i + j) := (h.mono (Nat.le_max_left _ _)).add (l.mono (Nat.le_max_right _ _))
theorem Sm.subm {m n : Nat} {i j : Int} (h : Sm m i) (l : Sm n j) : Sm (max m n + 1) (i - j) := (h.mono (Nat.le_max_left _ _)).sub (l.mono (Nat.le_max_right _ _))
theorem Sm.lit {i : Int} (h : i.natAbs < 2 ^ 64) : Sm 64 i := h
theorem Sm.lit2 {i : Int} (h : i.natAbs < 2 ^ 512) : Sm 512 i := h
/-! ### lowest terms -/
def lowT (t b : Int) : Int := (if b < 0 then -t else t) / (Int.gcd t b : Int)
def lowB (t b : Int) : Int := (if b < 0 then -b else b) / (Int.gcd t b : Int)
theorem gcd_pos {t b : Int} (hb : b ≠ 0) : 0 < (Int.gcd t b : Int) := by
  have := Int.gcd_pos_of_ne_zero_right t hb
  omega
theorem lowB_pos {t b : Int} (hb : b ≠ 0) : 0 < lowB t b := by
  unfold lowB
  have g := gcd_pos (t := t) hb
  have d : (Int.gcd t b : Int) ∣ (if b < 0 then -b else b) := by
    split
    · exact (Int.dvd_neg).mpr (Int.gcd_dvd_right t b)
    · exact Int.gcd_dvd_right t b
  have p : 0 < (if b < 0 then -b else b) := by split <;> omega
  exact Int.ediv_pos_of_pos_of_dvd p (by omega) d
theorem ediv_abs {x g : Int} (hg : 0 < g) (d : g ∣ x) : (x / g).natAbs ≤ x.natAbs := by
  obtain ⟨k, rfl⟩ := d
  rw [Int.mul_ediv_cancel_left k (by omega), Int.natAbs_mul]
  have : 1 ≤ g.natAbs := by omega
  calc k.natAbs = 1 * k.natAbs := by rw [Nat.one_mul]
    _ ≤ g.natAbs * k.natAbs := Nat.mul_le_mul_right _ this
theorem lowT_le {t b : Int} (hb : b ≠ 0) : (lowT t b).natAbs ≤ t.natAbs := by
  unfold lowT
  have g := gcd_pos (t := t) hb
  have d : (Int.gcd t b : Int) ∣ (if b < 0 then -t else t) := by
    split
    · exact (Int.dvd_neg).mpr (Int.gcd_dvd_left t b)
    · exact Int.gcd_dvd_left t b
  have := ediv_abs g d
  split at this <;> split <;> simp_all
theorem lowB_le {t b : Int} (hb : b ≠ 0) : (lowB t b).natAbs ≤ b.natAbs := by
  unfold lowB
  have g := gcd_pos (t := t) hb
  have d : (Int.gcd t b : Int) ∣ (if b < 0 then -b else b) := by
    split
    · exact (Int.dvd_neg).mpr (Int.gcd_dvd_right t b)
    · exact Int.gcd_dvd_right t b
  have := ediv_abs g d
  split at this <;> split <;> simp_all
theorem low_gcd {t b : Int} (hb : b ≠ 0) : Int.gcd (lowT t b) (lowB t b) = 1 := by
  have g : 0 < Int.gcd t b := Int.gcd_pos_of_ne_zero_right t hb
  have key : ∀ x y : Int, Int.gcd x y = Int.gcd t b → Int.gcd (x / (Int.gcd t b : Int)) (y / (Int.gcd t b : Int)) = 1 := by
    intro x y e
    rw [← e]
    rw [← e] at g
    exact Int.gcd_ediv_gcd_ediv_gcd g
  unfold lowT lowB
  split
  · exact key _ _ (by rw [Int.neg_gcd, Int.gcd_neg])
  · exact key _ _ rfl
theorem low_cross {t b : Int} (hb : b ≠ 0) : lowT t b * b = t * lowB t b := by
  have g := gcd_pos (t := t) hb
  obtain ⟨x, hx⟩ := Int.gcd_dvd_left t b
  obtain ⟨y, hy⟩ := Int.gcd_dvd_right t b
  have eT : ∀ s : Int, s = (Int.gcd t b : Int) * x → s / (Int.gcd t b : Int) = x := fun s e => by rw [e, Int.mul_ediv_cancel_left _ (by omega)]
  have eB : ∀ s : Int, s = (Int.gcd t b : Int) * y → s / (Int.gcd t b : Int) = y := fun s e => by rw [e, Int.mul_ediv_cancel_left _ (by omega)]
  unfold lowT lowB
  by_cases h : b < 0
  · rw [if_pos h, if_pos h]
    rw [show -t = (Int.gcd t b : Int) * (-x) by rw [Int.mul_neg, ← hx], show -b = (Int.gcd t b : Int) * (-y) by rw [Int.mul_neg, ← hy], Int.mul_ediv_cancel_left _ (by omega), Int.mul_ediv_cancel_left _ (by omega)]
    have e1 : b = (Int.gcd t b : Int) * y := hy
    have e2 : t = (Int.gcd t b : Int) * x := hx
    generalize (Int.gcd t b : Int) = q at *
    subst e1 e2
    simp only [Int.neg_mul, Int.mul_neg, Int.mul_assoc, Int.mul_comm, Int.mul_left_comm]
  · rw [if_neg h, if_neg h, eT t hx, eB b hy]
    have e1 : b = (Int.gcd t b : Int) * y := hy
    have e2 : t = (Int.gcd t b : Int) * x := hx
    generalize (Int.gcd t b : Int) = q at *
    subst e1 e2
    simp only [Int.mul_assoc, Int.mul_comm, Int.mul_left_comm]
theorem cop_dvd {u t y : Int} (g : Int.gcd t u = 1) (d : u ∣ t * y) : u ∣ y := by
  have d1 : u.natAbs ∣ t.natAbs * y.natAbs := by rw [← Int.natAbs_mul]; exact Int.natAbs_dvd_natAbs.mpr d
  have c : Nat.Coprime u.natAbs t.natAbs := by rw [Nat.coprime_comm]; exact g
  exact Int.natAbs_dvd_natAbs.mp (c.dvd_of_dvd_mul_left d1)
/-- one worth has one form in lowest terms -/
theorem frac_unique {t u x y : Int} (hu : 0 < u) (hy : 0 < y) (g1 : Int.gcd t u = 1) (g2 : Int.gcd x y = 1) (e : t * y = x * u) : t = x ∧ u = y := by
  have d1 : u ∣ y := cop_dvd g1 ⟨x, by rw [e, Int.mul_comm]⟩
  have d2 : y ∣ u := cop_dvd g2 ⟨t, by rw [← e, Int.mul_comm]⟩
  have e2 : u = y := Int.dvd_antisymm (by omega) (by omega) d1 d2
  subst e2
  exact ⟨Int.eq_of_mul_eq_mul_right (by omega) e, rfl⟩
theorem low_eq {a b t u : Int} (hb : b ≠ 0) (hu : 0 < u) (g : Int.gcd t u = 1) (e : a * u = t * b) : lowT a b = t ∧ lowB a b = u := by
  refine frac_unique (lowB_pos hb) hu (low_gcd hb) g ?_
  have c := low_cross (t := a) hb
  apply Int.eq_of_mul_eq_mul_right hb
  calc lowT a b * u * b = lowT a b * b * u := by simp only [Int.mul_assoc, Int.mul_comm, Int.mul_left_comm]
    _ = a * lowB a b * u := by rw [c]
    _ = a * u * lowB a b := by simp only [Int.mul_assoc, Int.mul_comm, Int.mul_left_comm]
    _ = t * b * lowB a b := by rw [e]
    _ = t * lowB a b * b := by simp only [Int.mul_assoc, Int.mul_comm, Int.mul_left_comm]
theorem fdiv_exact {x g : Int} (d : g ∣ x) (c : Bool) : x.fdiv (if c then -g else g) = (if c then -x else x) / g := by
  cases c with
  | false => exact Int.fdiv_eq_ediv_of_dvd d
  | true =>
    show x.fdiv (-g) = -x / g
    rw [Int.fdiv_eq_ediv_of_dvd (Int.neg_dvd.mpr d), Int.ediv_neg, Int.neg_ediv_of_dvd d]
theorem gcd_step {x y : Int} (hx : 0 ≤ x) (hy : 0 < y) : Int.gcd y (x % y) = Int.gcd x y := by
  have e : ∃ m n : Nat, x = m ∧ y = n := ⟨x.toNat, y.toNat, by omega, by omega⟩
  obtain ⟨m, n, rfl, rfl⟩ := e
  have c : ((m : Int) % (n : Int)) = ((m % n : Nat) : Int) := by norm_cast
  rw [c, Int.gcd_natCast_natCast, Int.gcd_natCast_natCast, Nat.gcd_comm n, ← Nat.gcd_rec, Nat.gcd_comm]
theorem gcd_sm {t b : Int} {n : Nat} (hb : b ≠ 0) (sb : Sm n b) : Sm n (Int.gcd t b : Int) := sb.le (by
  have : (Int.gcd t b : Int) ∣ b := Int.gcd_dvd_right t b
  have := Int.le_of_dvd (show 0 < (b.natAbs : Int) by omega) (Int.dvd_natAbs.mpr this)
  omega)
end Mb
namespace Mb
open PySem L2
/-! ### promises of the law's own drawing -/
/-- a pool of draws at p: three numbers, the second from 0 to b -/
def Pl (H : Hp) (p : Addr) (b : Int) : Prop := ∃ x y z : Int, H p = some (.lst [.int x, .int y, .int z]) ∧ 0 ≤ y ∧ y ≤ b
theorem Pl.mono {H : Hp} {p : Addr} {b c : Int} (h : Pl H p b) (l : b ≤ c) : Pl H p c := by
  obtain ⟨x, y, z, h1, h2, h3⟩ := h
  exact ⟨x, y, z, h1, h2, by omega⟩
theorem Pl.same {H H' : Hp} {p : Addr} {b : Int} (h : Pl H p b) (s : Same H H') : Pl H' p b := by
  obtain ⟨x, y, z, h1, h2, h3⟩ := h
  exact ⟨x, y, z, s _ _ h1, h2, h3⟩
theorem Pl.but {H H' : Hp} {p q : Addr} {b : Int} (h : Pl H p b) (n : p ≠ q) (s : But q H H') : Pl H' p b := by
  obtain ⟨x, y, z, h1, h2, h3⟩ := h
  exact ⟨x, y, z, s _ _ n h1, h2, h3⟩
theorem Pl.tup {K : PySem.W.Frag} {H H' : Hp} {a p : Addr} {b : Int} {xs : List V} (h : Pl H p b) (s : But p H H') (t : SqT K H a xs) : SqT K H' a xs := by
  obtain ⟨x, y, z, h1, _⟩ := h
  exact s.tup h1 t
def spPool (K : PySem.W.Frag) : Sp := fun vs H Q _ => ∃ (a : Addr) (ns : List Int) (i : Int), vs = [.ref a, .int i] ∧ SqL K H a (ns.map V.int) ∧ ns.length ≤ 63 ∧ 0 ≤ i ∧ i ≤ 1000 ∧
  ∀ (p : Addr) (H' : Hp), Same H H' → H p = none → Pl H' p 1000000 → Q (.ref p) H'
def spTake : Sp := fun vs H Q _ => ∃ (p : Addr) (k b : Int), vs = [.ref p, .int k] ∧ Pl H p b ∧ b ≤ 2000000 ∧ 1 ≤ k ∧ k ≤ 1000000 ∧
  ∀ (r : Int) (H' : Hp), But p H H' → Pl H' p (b + 1) → 0 ≤ r → r < k → Q (.int r) H'
def spGcd : Sp := fun vs H Q _ => ∃ a b : Int, vs = [.int a, .int b] ∧ Q (.int (Int.gcd a b)) H
def spLow : Sp := fun vs H Q _ => ∃ t b : Int, vs = [.int t, .int b] ∧ b ≠ 0 ∧ Sm 8000 b ∧
  ∀ (p : Addr) (H' : Hp), Same H H' → H p = none → H' p = some (.tup [.int (lowT t b), .int (lowB t b)]) → Q (.ref p) H'
/-- a number of the pool, from 0 on, below 2 ^ 210 -/
def spNumber : Sp := fun vs H Q _ => ∃ (p : Addr) (b : Int), vs = [.ref p] ∧ Pl H p b ∧ b ≤ 1900000 ∧
  ∀ (r : Int) (H' : Hp), But p H H' → Pl H' p (b + 100) → 0 ≤ r → Sm 210 r → Q (.int r) H'
/-- a fraction: its two numbers, in lowest terms -/
structure Fr (m : Nat) (t u : Int) : Prop where
  pos : 0 < u
  one : Int.gcd t u = 1
  st : Sm m t
  su : Sm m u
def spWide : Sp := fun vs H Q _ => ∃ (p : Addr) (b : Int), vs = [.ref p] ∧ Pl H p b ∧ b ≤ 1800000 ∧
  ∀ (q : Addr) (t u : Int) (H' : Hp), But p H H' → Pl H' p (b + 300) → H' q = some (.tup [.int t, .int u]) → Fr 211 t u → Q (.ref q) H'
def spPair (K : PySem.W.Frag) : Sp := fun vs H Q _ => ∃ (a : Addr) (ns : List Int) (i : Int), vs = [.ref a, .int i] ∧ SqL K H a (ns.map V.int) ∧ ns.length ≤ 63 ∧ 0 ≤ i ∧ i ≤ 900 ∧
  ∀ (r p q : Addr) (t u x y : Int) (H' : Hp), Same H H' → H' r = some (.tup [.ref p, .ref q]) → SqT K H' p [.int t, .int u] → SqT K H' q [.int x, .int y] → Fr 211 t u → Fr 211 x y → Q (.ref r) H'
def spAsked (K : PySem.W.Frag) : Sp := fun vs H Q _ => ∃ (a : Addr) (ns : List Int) (i : Int), vs = [.ref a, .int i] ∧ SqL K H a (ns.map V.int) ∧ ns.length ≤ 63 ∧ 0 ≤ i ∧ i ≤ 900 ∧ ∀ H', Same H H' → Q (.bl true) H'
def spLaw (K : PySem.W.Frag) : Sp := fun vs H Q _ => ∃ (a : Addr) (ns : List Int), vs = [.ref a] ∧ SqL K H a (ns.map V.int) ∧ ns.length ≤ 63 ∧ ∀ H', Q (.bl true) H'
end Mb
namespace Mb
open PySem L2
/-! ### promises of what reckons with fractions -/
def spArith (K : PySem.W.Frag) (T B : Int → Int → Int → Int → Int) : Sp := fun vs H Q _ => ∃ (a b : Addr) (x y u v : Int) (n m : Nat), vs = [.ref a, .ref b] ∧ SqT K H a [.int x, .int y] ∧ SqT K H b [.int u, .int v] ∧ Sm n x ∧ Sm n y ∧ Sm m u ∧ Sm m v ∧ n + m ≤ 8000 ∧ B x y u v ≠ 0 ∧
  ∀ (p : Addr) (H' : Hp), Same H H' → H p = none → H' p = some (.tup [.int (lowT (T x y u v) (B x y u v)), .int (lowB (T x y u v) (B x y u v))]) → Q (.ref p) H'
def spRaw (K : PySem.W.Frag) (T B : Int → Int → Int → Int → Int) : Sp := fun vs H Q _ => ∃ (a b : Addr) (x y u v : Int), vs = [.ref a, .ref b] ∧ SqT K H a [.int x, .int y] ∧ SqT K H b [.int u, .int v] ∧ Sm 20000 x ∧ Sm 20000 y ∧ Sm 20000 u ∧ Sm 20000 v ∧
  ∀ (p : Addr) (H' : Hp), Same H H' → H p = none → H' p = some (.tup [.int (T x y u v), .int (B x y u v)]) → Q (.ref p) H'
def spEven (K : PySem.W.Frag) : Sp := fun vs H Q _ => ∃ (a b : Addr) (x y u v : Int), vs = [.ref a, .ref b] ∧ SqT K H a [.int x, .int y] ∧ SqT K H b [.int u, .int v] ∧ Sm 100000 x ∧ Sm 100000 y ∧ Sm 100000 u ∧ Sm 100000 v ∧ Q (.bl (decide (x * v = u * y))) H
def spWhole : Sp := fun vs H Q _ => ∃ i : Int, vs = [.int i] ∧ Q (.bl true) H
def spIsFrac : Sp := fun vs H Q _ => ∃ (p : Addr) (t u : Int), vs = [.ref p] ∧ H p = some (.tup [.int t, .int u]) ∧ 0 < u ∧ Int.gcd t u = 1 ∧ Q (.bl true) H
end Mb
namespace Mb
open PySem L2
/-! ### the drawing of the laws of places, lines and circles -/
def Sr (H : Hp) (p : Addr) (b : Int) : Prop := ∃ x y z : Int, H p = some (.lst [.int x, .int y, .int z]) ∧ 0 ≤ y ∧ y < 2147483629 ∧ 0 ≤ z ∧ z ≤ b
theorem Sr.mono {H : Hp} {p : Addr} {b c : Int} (h : Sr H p b) (l : b ≤ c) : Sr H p c := by
  obtain ⟨x, y, z, h1, h2, h3, h4, h5⟩ := h
  exact ⟨x, y, z, h1, h2, h3, h4, by omega⟩
theorem Sr.same {H H' : Hp} {p : Addr} {b : Int} (h : Sr H p b) (s : Same H H') : Sr H' p b := by
  obtain ⟨x, y, z, h1, h2⟩ := h
  exact ⟨x, y, z, s _ _ h1, h2⟩
theorem Sr.but {H H' : Hp} {p q : Addr} {b : Int} (h : Sr H p b) (n : p ≠ q) (s : But q H H') : Sr H' p b := by
  obtain ⟨x, y, z, h1, h2⟩ := h
  exact ⟨x, y, z, s _ _ n h1, h2⟩
theorem Sr.tup {K : PySem.W.Frag} {H H' : Hp} {a p : Addr} {b : Int} {xs : List V} (h : Sr H p b) (s : But p H H') (t : SqT K H a xs) : SqT K H' a xs := by
  obtain ⟨x, y, z, h1, _⟩ := h
  exact s.tup h1 t
theorem Sr.ne {H : Hp} {p l : Addr} {b : Int} (h : Sr H p b) (n : H l = none) : l ≠ p := fun z => by
  obtain ⟨_, _, _, h1, _⟩ := h
  rw [z, h1] at n
  cases n
theorem Sr.ne2 {H : Hp} {p q : Addr} {b : Int} (h : Sr H p b) (n : H q = none) : p ≠ q := fun z => h.ne n z.symm
def spStream (K : PySem.W.Frag) : Sp := fun vs H Q _ => ∃ (a : Addr) (ns : List Int) (i : Int), vs = [.ref a, .int i] ∧ SqL K H a (ns.map V.int) ∧ ns.length ≤ 63 ∧ 0 ≤ i ∧ i ≤ 1000 ∧
  ∀ (p : Addr) (H' : Hp), Same H H' → H p = none → Sr H' p 0 → Q (.ref p) H'
def spTakeS : Sp := fun vs H Q _ => ∃ (p : Addr) (k b : Int), vs = [.ref p, .int k] ∧ Sr H p b ∧ b ≤ 100000 ∧ 1 ≤ k ∧ Sm 1000 k ∧
  ∀ (r : Int) (H' : Hp), But p H H' → Sr H' p (b + 1) → 0 ≤ r → r < k → Q (.int r) H'
def spGreat : Sp := fun vs H Q _ => ∃ (p : Addr) (b : Int), vs = [.ref p] ∧ Sr H p b ∧ b ≤ 90000 ∧
  ∀ (r : Int) (H' : Hp), But p H H' → Sr H' p (b + 10) → 0 ≤ r → Sm 200 r → Q (.int r) H'
/-- the bits of a number of so many sizes -/
def nb (k : Int) : Nat := if k ≤ 4 then 10 else if k ≤ 5 then 30 else 210
theorem nb_le (k : Int) : nb k ≤ 210 := by
  unfold nb
  split
  · decide
  · split <;> decide
theorem nb_ge (k : Int) : 10 ≤ nb k := by
  unfold nb
  split
  · decide
  · split <;> decide
theorem nb_5 {k : Int} (h : 5 ≤ k) : 30 ≤ nb k := by
  unfold nb
  split
  · omega
  · split <;> decide
theorem nb_6 {k : Int} (h : 6 ≤ k) : nb k = 210 := by
  unfold nb
  rw [if_neg (by omega), if_neg (by omega)]
def spNumberZ : Sp := fun vs H Q _ => ∃ (p : Addr) (k b : Int), vs = [.ref p, .int k] ∧ Sr H p b ∧ b ≤ 80000 ∧ 1 ≤ k ∧ k ≤ 100 ∧
  ∀ (r : Int) (H' : Hp), But p H H' → Sr H' p (b + 20) → Sm (nb k) r → Q (.int r) H'
def spLowest (K : PySem.W.Frag) : Sp := fun vs H Q _ => ∃ (a : Addr) (t b : Int), vs = [.ref a] ∧ SqT K H a [.int t, .int b] ∧ b ≠ 0 ∧ Sm 8900 b ∧
  ∀ (p : Addr) (H' : Hp), Same H H' → H p = none → H' p = some (.tup [.int (lowT t b), .int (lowB t b)]) → Q (.ref p) H'
def spFractionZ : Sp := fun vs H Q _ => ∃ (p : Addr) (k b : Int), vs = [.ref p, .int k] ∧ Sr H p b ∧ b ≤ 70000 ∧ 1 ≤ k ∧ k ≤ 100 ∧
  ∀ (q : Addr) (t u : Int) (H' : Hp), But p H H' → Sr H' p (b + 50) → H' q = some (.tup [.int t, .int u]) → Fr (nb k + 1) t u → Q (.ref q) H'
/-- a place at a: its two fractions -/
structure Pc (K : PySem.W.Frag) (H : Hp) (a : Addr) (m : Nat) (t u r s : Int) : Prop where
  at_ : ∃ f g, SqT K H a [.ref f, .ref g] ∧ SqT K H f [.int t, .int u] ∧ SqT K H g [.int r, .int s]
  x : Fr m t u
  y : Fr m r s
theorem Pc.same {K : PySem.W.Frag} {H H' : Hp} {a : Addr} {m : Nat} {t u r s : Int} (h : Pc K H a m t u r s) (e : Same H H') : Pc K H' a m t u r s := by
  obtain ⟨⟨f, g, h1, h2, h3⟩, hx, hy⟩ := h
  exact ⟨⟨f, g, e.tp h1, e.tp h2, e.tp h3⟩, hx, hy⟩
theorem Pc.but {K : PySem.W.Frag} {H H' : Hp} {a p : Addr} {m : Nat} {b t u r s : Int} (h : Pc K H a m t u r s) (hp : Sr H p b) (e : But p H H') : Pc K H' a m t u r s := by
  obtain ⟨⟨f, g, h1, h2, h3⟩, hx, hy⟩ := h
  exact ⟨⟨f, g, hp.tup e h1, hp.tup e h2, hp.tup e h3⟩, hx, hy⟩
def spPlaceZ (K : PySem.W.Frag) : Sp := fun vs H Q _ => ∃ (p : Addr) (k b : Int), vs = [.ref p, .int k] ∧ Sr H p b ∧ b ≤ 60000 ∧ 1 ≤ k ∧ k ≤ 100 ∧
  ∀ (q : Addr) (t u r s : Int) (H' : Hp), But p H H' → Sr H' p (b + 100) → Pc K H' q (nb k + 1) t u r s → Q (.ref q) H'
def spNear (K : PySem.W.Frag) : Sp := fun vs H Q _ => ∃ (p : Addr) (k b : Int) (q : Addr) (t u r s : Int), vs = [.ref p, .int k, .ref q] ∧ Sr H p b ∧ b ≤ 50000 ∧ 1 ≤ k ∧ k ≤ 100 ∧ Pc K H q (nb k + 1) t u r s ∧
  ∀ (a : Addr) (t' u' r' s' : Int) (H' : Hp), But p H H' → Sr H' p (b + 200) → Pc K H' a (nb k + 1) t' u' r' s' → Q (.ref a) H'
theorem tyT {K : PySem.W.Frag} {H : Hp} {a : Addr} {xs : List V} (h : SqT K H a xs) : TyX K H (.ref a) (.type "tuple") := by
  rcases h with (h | ⟨o, h⟩) | ⟨o, its, n, h, c, _⟩
  · exact .base (.tup h)
  · exact .fTuple h
  · exact .kTuple h c
def spIsFr (K : PySem.W.Frag) : Sp := fun vs H Q _ => ∃ (p : Addr) (t u : Int), vs = [.ref p] ∧ SqT K H p [.int t, .int u] ∧ 0 < u ∧ Int.gcd t u = 1 ∧ Q (.bl true) H
def spIsPl (K : PySem.W.Frag) : Sp := fun vs H Q _ => ∃ (p f g : Addr) (t u r s : Int), vs = [.ref p] ∧ SqT K H p [.ref f, .ref g] ∧ SqT K H f [.int t, .int u] ∧ SqT K H g [.int r, .int s] ∧ 0 < u ∧ Int.gcd t u = 1 ∧ 0 < s ∧ Int.gcd r s = 1 ∧ Q (.bl true) H
end Mb
namespace Mb
open PySem L2
/-! ### fractions as rationals -/
theorem low_rat {t b : Int} (hb : b ≠ 0) : lowT t b = (Rat.divInt t b).num ∧ lowB t b = ((Rat.divInt t b).den : Int) := by
  have hd : ((Rat.divInt t b).den : Int) ≠ 0 := by have := (Rat.divInt t b).den_nz; omega
  refine low_eq hb (by omega) (Rat.divInt t b).reduced ?_
  have e := Rat.num_divInt_den (Rat.divInt t b)
  exact ((Rat.divInt_eq_divInt_iff hd hb).mp e).symm
/-- the sizes of a rational's numbers -/
structure Sz (n : Nat) (q : Rat) : Prop where
  t : Sm n q.num
  b : Sm n (q.den : Int)
theorem Sz.mono {m n : Nat} {q : Rat} (h : Sz m q) (l : m ≤ n) : Sz n q := ⟨h.t.mono l, h.b.mono l⟩
theorem Sz.lit {q : Rat} (h1 : Sm 8 q.num) (h2 : Sm 8 (q.den : Int)) : Sz 8 q := ⟨h1, h2⟩
theorem Sz.divInt {n : Nat} {t b : Int} (hb : b ≠ 0) (h1 : Sm n t) (h2 : Sm n b) : Sz n (Rat.divInt t b) := by
  obtain ⟨e1, e2⟩ := low_rat (t := t) hb
  refine ⟨?_, ?_⟩
  · rw [← e1]; exact h1.le (lowT_le hb)
  · rw [← e2]; exact h2.le (lowB_le hb)
theorem den_ne (q : Rat) : (q.den : Int) ≠ 0 := by have := q.den_nz; omega
theorem den_pos (q : Rat) : 0 < (q.den : Int) := by have := q.den_nz; omega
theorem add_dv (p q : Rat) : p + q = Rat.divInt (p.num * q.den + q.num * p.den) (p.den * q.den) := by
  rw [← Rat.divInt_add_divInt _ _ (den_ne p) (den_ne q), Rat.num_divInt_den, Rat.num_divInt_den]
theorem sub_dv (p q : Rat) : p - q = Rat.divInt (p.num * q.den - q.num * p.den) (p.den * q.den) := by
  rw [← Rat.divInt_sub_divInt _ _ (den_ne p) (den_ne q), Rat.num_divInt_den, Rat.num_divInt_den]
theorem mul_dv (p q : Rat) : p * q = Rat.divInt (p.num * q.num) (p.den * q.den) := by
  rw [← Rat.divInt_mul_divInt, Rat.num_divInt_den, Rat.num_divInt_den]
theorem div_dv (p q : Rat) : p / q = Rat.divInt (p.num * q.den) (p.den * q.num) := by
  rw [Rat.div_def, ← Rat.divInt_mul_divInt, Rat.num_divInt_den, ← Rat.inv_divInt, Rat.num_divInt_den]
theorem Sz.add {m n : Nat} {p q : Rat} (h : Sz m p) (l : Sz n q) : Sz (m + n + 1) (p + q) := by
  rw [add_dv]
  exact Sz.divInt (Int.mul_ne_zero (den_ne p) (den_ne q)) (((h.t.mul l.b).add ((l.t.mul h.b).mono (by omega)))) ((h.b.mul l.b).mono (by omega))
theorem Sz.sub {m n : Nat} {p q : Rat} (h : Sz m p) (l : Sz n q) : Sz (m + n + 1) (p - q) := by
  rw [sub_dv]
  exact Sz.divInt (Int.mul_ne_zero (den_ne p) (den_ne q)) (((h.t.mul l.b).sub ((l.t.mul h.b).mono (by omega)))) ((h.b.mul l.b).mono (by omega))
theorem Sz.mul {m n : Nat} {p q : Rat} (h : Sz m p) (l : Sz n q) : Sz (m + n) (p * q) := by
  rw [mul_dv]
  exact Sz.divInt (Int.mul_ne_zero (den_ne p) (den_ne q)) (h.t.mul l.t) (h.b.mul l.b)
theorem Sz.div {m n : Nat} {p q : Rat} (h : Sz m p) (l : Sz n q) (hq : q ≠ 0) : Sz (m + n) (p / q) := by
  rw [div_dv]
  exact Sz.divInt (Int.mul_ne_zero (den_ne p) (fun z => hq (Rat.num_eq_zero.mp z))) (h.t.mul l.b) (h.b.mul l.t)
theorem Sz.neg {m : Nat} {p : Rat} (h : Sz m p) : Sz m (-p) := ⟨by rw [Rat.neg_num]; exact h.t.neg, h.b⟩
/-- a fraction stands at v -/
def Fq (K : PySem.W.Frag) (H : Hp) (v : V) (q : Rat) : Prop := ∃ a, v = .ref a ∧ SqT K H a [.int q.num, .int q.den]
theorem Fq.up {K : PySem.W.Frag} {H H' : Hp} {v : V} {q : Rat} (h : Fq K H v q) (s : Same H H') : Fq K H' v q := by
  obtain ⟨a, rfl, t⟩ := h
  exact ⟨a, rfl, s.tp t⟩
theorem Fq.of {K : PySem.W.Frag} {H : Hp} {a : Addr} {t b : Int} (q : Rat) (hb : b ≠ 0) (e : q = Rat.divInt t b) (h : H a = some (.tup [.int (lowT t b), .int (lowB t b)])) : Fq K H (.ref a) q := by
  obtain ⟨e1, e2⟩ := low_rat (t := t) hb
  rw [e1, e2, ← e] at h
  exact ⟨a, rfl, tupOf h⟩
/-- a fraction stands at v, in lowest terms or not -/
def Rq (K : PySem.W.Frag) (H : Hp) (v : V) (q : Rat) (n : Nat) : Prop := ∃ a t b, v = .ref a ∧ SqT K H a [.int t, .int b] ∧ b ≠ 0 ∧ q = Rat.divInt t b ∧ Sm n t ∧ Sm n b
theorem Rq.up {K : PySem.W.Frag} {H H' : Hp} {v : V} {q : Rat} {n : Nat} (h : Rq K H v q n) (s : Same H H') : Rq K H' v q n := by
  obtain ⟨a, t, b, rfl, h1, h2⟩ := h
  exact ⟨a, t, b, rfl, s.tp h1, h2⟩
theorem Fq.rq {K : PySem.W.Frag} {H : Hp} {v : V} {q : Rat} {n : Nat} (h : Fq K H v q) (s : Sz n q) : Rq K H v q n := by
  obtain ⟨a, rfl, t⟩ := h
  exact ⟨a, _, _, rfl, t, den_ne q, (Rat.num_divInt_den q).symm, s.t, s.b⟩
/-- a place stands at v -/
def Pq (K : PySem.W.Frag) (H : Hp) (v : V) (x y : Rat) : Prop := ∃ a f g, v = .ref a ∧ SqT K H a [f, g] ∧ Fq K H f x ∧ Fq K H g y
theorem Pq.up {K : PySem.W.Frag} {H H' : Hp} {v : V} {x y : Rat} (h : Pq K H v x y) (s : Same H H') : Pq K H' v x y := by
  obtain ⟨a, f, g, rfl, t, h1, h2⟩ := h
  exact ⟨a, f, g, rfl, s.tp t, h1.up s, h2.up s⟩
theorem Fq.but {K : PySem.W.Frag} {H H' : Hp} {v : V} {q : Rat} {p : Addr} {xs : List V} (h : Fq K H v q) (hp : H p = some (.lst xs)) (s : But p H H') : Fq K H' v q := by
  obtain ⟨a, rfl, t⟩ := h
  exact ⟨a, rfl, s.tup hp t⟩
theorem Pq.but {K : PySem.W.Frag} {H H' : Hp} {v : V} {x y : Rat} {p : Addr} {xs : List V} (h : Pq K H v x y) (hp : H p = some (.lst xs)) (s : But p H H') : Pq K H' v x y := by
  obtain ⟨a, f, g, rfl, t, h1, h2⟩ := h
  exact ⟨a, f, g, rfl, s.tup hp t, h1.but hp s, h2.but hp s⟩
/-! ### == of fractions, of places -/
def dq (q : Rat) : PyData := .tuple [.int q.num, .int q.den]
def dpl (x y : Rat) : PyData := .tuple [dq x, dq y]
theorem Fq.dp {K : PySem.W.Frag} {H : Hp} {v : V} {q : Rat} (h : Fq K H v q) : Dp K H v (dq q) := by
  obtain ⟨a, rfl, t⟩ := h
  exact .tup t (.cons (.int _) (.cons (.int _) .nil))
theorem Pq.dp {K : PySem.W.Frag} {H : Hp} {v : V} {x y : Rat} (h : Pq K H v x y) : Dp K H v (dpl x y) := by
  obtain ⟨a, f, g, rfl, t, h1, h2⟩ := h
  exact .tup t (.cons h1.dp (.cons h2.dp .nil))
theorem dq_inj {p q : Rat} (h : dq p = dq q) : p = q := by
  unfold dq at h
  injection h with h
  injection h with h1 h
  injection h with h2 h
  injection h1 with h1
  injection h2 with h2
  exact Rat.ext h1 (Int.ofNat_inj.mp h2)
section
variable {H : Hp} {Q : VK} {K : PySem.W.Frag}
theorem r_eqTrue {v w : V} {d : PyData} (h1 : Dp K H v d) (h2 : Dp K H w d) (sh : SeqAt.shaped d = true) (cl : PyData.canLay0 d = true) (k : Q (.bl true) H) : rEqD K v w H Q := by
  refine ⟨d, d, h1, h2, sh, sh, ?_⟩
  rw [SeqAt.eqv_refl _ cl]
  exact k
theorem r_eqQ {v w : V} {p q : Rat} (h1 : Fq K H v p) (h2 : Fq K H w q) (e : p = q) (k : Q (.bl true) H) : rEqD K v w H Q := by
  subst e
  exact r_eqTrue h1.dp h2.dp rfl rfl k
theorem r_eqP {v w : V} {x y x' y' : Rat} (h1 : Pq K H v x y) (h2 : Pq K H w x' y') (e : x = x' ∧ y = y') (k : Q (.bl true) H) : rEqD K v w H Q := by
  obtain ⟨rfl, rfl⟩ := e
  exact r_eqTrue h1.dp h2.dp rfl rfl k
end
/-! ### promises over rationals -/
def spQ2 (K : PySem.W.Frag) (pre : Rat → Rat → Prop) (op : Rat → Rat → Rat) : Sp := fun vs H Q _ => ∃ (v w : V) (p q : Rat) (n m : Nat), vs = [v, w] ∧ Fq K H v p ∧ Fq K H w q ∧ Sz n p ∧ Sz m q ∧ n + m ≤ 8000 ∧ pre p q ∧
  ∀ (r : V) (H' : Hp), Same H H' → Fq K H' r (op p q) → Q r H'
theorem q2_arith {K : PySem.W.Frag} {pre : Rat → Rat → Prop} {op : Rat → Rat → Rat} {T B : Int → Int → Int → Int → Int}
    (hop : ∀ p q, pre p q → B p.num p.den q.num q.den ≠ 0 ∧ op p q = Rat.divInt (T p.num p.den q.num q.den) (B p.num p.den q.num q.den)) {vs : List V} {H : Hp} {Q : VK} {E : XK} (h : spQ2 K pre op vs H Q E) : spArith K T B vs H Q E := by
  obtain ⟨_, _, p, q, n, m, rfl, ⟨a, rfl, ha⟩, ⟨b, rfl, hb⟩, s1, s2, l, pr, k⟩ := h
  obtain ⟨h1, h2⟩ := hop p q pr
  exact ⟨a, b, _, _, _, _, n, m, rfl, ha, hb, s1.t, s1.b, s2.t, s2.b, l, h1, fun o H' g _ ho => k _ _ g (Fq.of _ h1 h2 ho)⟩
theorem plus_q2 {K : PySem.W.Frag} {vs : List V} {H : Hp} {Q : VK} {E : XK} (h : spQ2 K (fun _ _ => True) (· + ·) vs H Q E) : spArith K (fun x y u v => x * v + u * y) (fun x y u v => y * v) vs H Q E :=
  q2_arith (fun p q _ => ⟨Int.mul_ne_zero (den_ne p) (den_ne q), add_dv p q⟩) h
theorem minus_q2 {K : PySem.W.Frag} {vs : List V} {H : Hp} {Q : VK} {E : XK} (h : spQ2 K (fun _ _ => True) (· - ·) vs H Q E) : spArith K (fun x y u v => x * v - u * y) (fun x y u v => y * v) vs H Q E :=
  q2_arith (fun p q _ => ⟨Int.mul_ne_zero (den_ne p) (den_ne q), sub_dv p q⟩) h
theorem times_q2 {K : PySem.W.Frag} {vs : List V} {H : Hp} {Q : VK} {E : XK} (h : spQ2 K (fun _ _ => True) (· * ·) vs H Q E) : spArith K (fun x y u v => x * u) (fun x y u v => y * v) vs H Q E :=
  q2_arith (fun p q _ => ⟨Int.mul_ne_zero (den_ne p) (den_ne q), mul_dv p q⟩) h
theorem over_q2 {K : PySem.W.Frag} {vs : List V} {H : Hp} {Q : VK} {E : XK} (h : spQ2 K (fun _ q => q ≠ 0) (· / ·) vs H Q E) : spArith K (fun x y u v => x * v) (fun x y u v => y * u) vs H Q E :=
  q2_arith (fun p q h => ⟨Int.mul_ne_zero (den_ne p) (fun z => h (Rat.num_eq_zero.mp z)), div_dv p q⟩) h
/-- the raw ones -/
def spR2 (K : PySem.W.Frag) (op : Rat → Rat → Rat) : Sp := fun vs H Q _ => ∃ (v w : V) (p q : Rat) (n m : Nat), vs = [v, w] ∧ Rq K H v p n ∧ Rq K H w q m ∧ n ≤ 20000 ∧ m ≤ 20000 ∧
  ∀ (r : V) (H' : Hp), Same H H' → Rq K H' r (op p q) (n + m + 1) → Q r H'
def spS2 (K : PySem.W.Frag) : Sp := fun vs H Q _ => ∃ (v w : V) (p q : Rat) (n m : Nat), vs = [v, w] ∧ Rq K H v p n ∧ Rq K H w q m ∧ n ≤ 100000 ∧ m ≤ 100000 ∧ Q (.bl (decide (p = q))) H
theorem r2_raw {K : PySem.W.Frag} {op : Rat → Rat → Rat} {T B : Int → Int → Int → Int → Int}
    (hop : ∀ x y u v : Int, ∀ n m : Nat, y ≠ 0 → v ≠ 0 → Sm n x → Sm n y → Sm m u → Sm m v → B x y u v ≠ 0 ∧ op (Rat.divInt x y) (Rat.divInt u v) = Rat.divInt (T x y u v) (B x y u v) ∧ Sm (n + m + 1) (T x y u v) ∧ Sm (n + m + 1) (B x y u v)) {vs : List V} {H : Hp} {Q : VK} {E : XK} (h : spR2 K op vs H Q E) : spRaw K T B vs H Q E := by
  obtain ⟨_, _, p, q, n, m, rfl, ⟨a, x, y, rfl, ha, y0, rfl, sx, sy⟩, ⟨b, u, v, rfl, hb, v0, rfl, su, sv⟩, l1, l2, k⟩ := h
  obtain ⟨h1, h2, h3, h4⟩ := hop x y u v n m y0 v0 sx sy su sv
  exact ⟨a, b, _, _, _, _, rfl, ha, hb, sx.mono l1, sy.mono l1, su.mono l2, sv.mono l2, fun o H' g _ ho => k _ _ g ⟨o, _, _, rfl, tupOf ho, h1, h2, h3, h4⟩⟩
theorem plus_r2 {K : PySem.W.Frag} {vs : List V} {H : Hp} {Q : VK} {E : XK} (h : spR2 K (· + ·) vs H Q E) : spRaw K (fun x y u v => x * v + u * y) (fun x y u v => y * v) vs H Q E :=
  r2_raw (fun x y u v n m y0 v0 sx sy su sv => ⟨Int.mul_ne_zero y0 v0, Rat.divInt_add_divInt _ _ y0 v0, (sx.mul sv).add ((su.mul sy).mono (by omega)), (sy.mul sv).mono (by omega)⟩) h
theorem minus_r2 {K : PySem.W.Frag} {vs : List V} {H : Hp} {Q : VK} {E : XK} (h : spR2 K (· - ·) vs H Q E) : spRaw K (fun x y u v => x * v - u * y) (fun x y u v => y * v) vs H Q E :=
  r2_raw (fun x y u v n m y0 v0 sx sy su sv => ⟨Int.mul_ne_zero y0 v0, Rat.divInt_sub_divInt _ _ y0 v0, (sx.mul sv).sub ((su.mul sy).mono (by omega)), (sy.mul sv).mono (by omega)⟩) h
theorem times_r2 {K : PySem.W.Frag} {vs : List V} {H : Hp} {Q : VK} {E : XK} (h : spR2 K (· * ·) vs H Q E) : spRaw K (fun x y u v => x * u) (fun x y u v => y * v) vs H Q E :=
  r2_raw (fun x y u v n m y0 v0 sx sy su sv => ⟨Int.mul_ne_zero y0 v0, Rat.divInt_mul_divInt _ _, (sx.mul su).mono (by omega), (sy.mul sv).mono (by omega)⟩) h
theorem same_r2 {K : PySem.W.Frag} {vs : List V} {H : Hp} {Q : VK} {E : XK} (h : spS2 K vs H Q E) : spEven K vs H Q E := by
  obtain ⟨_, _, p, q, n, m, rfl, ⟨a, x, y, rfl, ha, y0, rfl, sx, sy⟩, ⟨b, u, v, rfl, hb, v0, rfl, su, sv⟩, l1, l2, k⟩ := h
  refine ⟨a, b, _, _, _, _, rfl, ha, hb, sx.mono l1, sy.mono l1, su.mono l2, sv.mono l2, ?_⟩
  have e : decide (Rat.divInt x y = Rat.divInt u v) = decide (x * v = u * y) := decide_eq_decide.mpr (Rat.divInt_eq_divInt_iff y0 v0)
  rw [← e]
  exact k
/-- a promise that is asked for less -/
theorem Kn.of {P : Program} {w : World} {K : PySem.W.Frag} {mg : Str → Option Value} {base : Heap} {k : Nat} {x : Str} {ps : List Str} {sp sp' : Sp} (G : Kn P w K mg base k x ps sp) (i : ∀ vs H Q E, sp' vs H Q E → sp vs H Q E) : Kn P w K mg base k x ps sp' := by
  obtain ⟨f, fd, F, m, kp, b⟩ := G.ex
  exact ⟨f, fd, F.imp i, m, kp, b⟩
def newT (Q : VK) (xs : List V) (H : Hp) : Prop := xs.length ≤ sizeLine ∧ ∀ p, H p = none → Q (.ref p) (upd H p (.tup xs))
def newL (Q : VK) (xs : List V) (H : Hp) : Prop := xs.length ≤ sizeLine ∧ ∀ p, H p = none → Q (.ref p) (upd H p (.lst xs))
theorem r_tup2 {σ : St} {H : Hp} {Q : VK} {t : TA} (q : t σ H fun xs H1 => newT Q xs H1) : tTup t σ H Q := q
theorem r_lst2 {σ : St} {H : Hp} {Q : VK} {t : TA} (q : t σ H fun xs H1 => newL Q xs H1) : tLst t σ H Q := q
theorem r_newT {H : Hp} {Q : VK} {xs : List V} (l : Nat.ble xs.length 1000 = true) (q : ∀ p H2, Same H H2 → H p = none → H2 p = some (.tup xs) → Q (.ref p) H2) : newT Q xs H :=
  ⟨sz l, fun p hp => q p _ (same_new hp _) hp upd_same⟩
theorem r_newL {H : Hp} {Q : VK} {xs : List V} (l : Nat.ble xs.length 1000 = true) (q : ∀ p H2, Same H H2 → H p = none → H2 p = some (.lst xs) → Q (.ref p) H2) : newL Q xs H :=
  ⟨sz l, fun p hp => q p _ (same_new hp _) hp upd_same⟩
/-! ### steps over rationals -/
section
variable {σ : St} {H : Hp} {Q : VK} {E : XK} {K : PySem.W.Frag}
theorem Fq.int {H : Hp} {a : Addr} {t : Int} (h : H a = some (.tup [.int t, .int 1])) : Fq K H (.ref a) (t : Rat) := ⟨a, rfl, tupOf h⟩
theorem Pq.mk {H : Hp} {a : Addr} {f g : V} {x y : Rat} (h : H a = some (.tup [f, g])) (h1 : Fq K H f x) (h2 : Fq K H g y) : Pq K H (.ref a) x y := ⟨a, f, g, rfl, tupOf h, h1, h2⟩
theorem r_ixF0 {v : V} {q : Rat} (h : Fq K H v q) (k : Q (.int q.num) H) : rIxT K v (.int 0) H Q := by
  obtain ⟨a, rfl, t⟩ := h
  exact ⟨a, _, 0, _, rfl, rfl, t, rfl, k⟩
theorem r_ixF1 {v : V} {q : Rat} (h : Fq K H v q) (k : Q (.int q.den) H) : rIxT K v (.int 1) H Q := by
  obtain ⟨a, rfl, t⟩ := h
  exact ⟨a, _, 1, _, rfl, rfl, t, rfl, k⟩
theorem r_ixP0 {v : V} {x y : Rat} (h : Pq K H v x y) (k : ∀ f, Fq K H f x → Q f H) : rIxT K v (.int 0) H Q := by
  obtain ⟨a, f, g, rfl, t, h1, h2⟩ := h
  exact ⟨a, _, 0, f, rfl, rfl, t, rfl, k f h1⟩
theorem r_ixP1 {v : V} {x y : Rat} (h : Pq K H v x y) (k : ∀ f, Fq K H f y → Q f H) : rIxT K v (.int 1) H Q := by
  obtain ⟨a, f, g, rfl, t, h1, h2⟩ := h
  exact ⟨a, _, 1, g, rfl, rfl, t, rfl, k g h2⟩
theorem r_q2 {pre : Rat → Rat → Prop} {op : Rat → Rat → Rat} {v w : V} {p q : Rat} {n m : Nat} (h1 : Fq K H v p) (h2 : Fq K H w q) (s1 : Sz n p) (s2 : Sz m q) (l : Nat.ble (n + m) 8000 = true) (pr : pre p q)
    (k : ∀ (r : V) (H' : Hp), Same H H' → Fq K H' r (op p q) → Q r H') : spQ2 K pre op ([v, w] ++ []) H Q E :=
  ⟨v, w, p, q, n, m, rfl, h1, h2, s1, s2, Nat.le_of_ble_eq_true l, pr, k⟩
theorem r_r2 {op : Rat → Rat → Rat} {v w : V} {p q : Rat} {n m : Nat} (h1 : Rq K H v p n) (h2 : Rq K H w q m) (l1 : Nat.ble n 20000 = true) (l2 : Nat.ble m 20000 = true)
    (k : ∀ (r : V) (H' : Hp), Same H H' → Rq K H' r (op p q) (n + m + 1) → Q r H') : spR2 K op ([v, w] ++ []) H Q E :=
  ⟨v, w, p, q, n, m, rfl, h1, h2, Nat.le_of_ble_eq_true l1, Nat.le_of_ble_eq_true l2, k⟩
theorem r_s2 {v w : V} {p q : Rat} {n m : Nat} (h1 : Rq K H v p n) (h2 : Rq K H w q m) (l1 : Nat.ble n 100000 = true) (l2 : Nat.ble m 100000 = true)
    (k : Q (.bl (decide (p = q))) H) : spS2 K ([v, w] ++ []) H Q E :=
  ⟨v, w, p, q, n, m, rfl, h1, h2, Nat.le_of_ble_eq_true l1, Nat.le_of_ble_eq_true l2, k⟩
end
/-- two places in, a place out -/
def spP2 (K : PySem.W.Frag) (X Y : Rat → Rat → Rat → Rat → Rat) : Sp := fun vs H Q _ => ∃ (v w : V) (x y x' y' : Rat) (n m : Nat), vs = [v, w] ∧ Pq K H v x y ∧ Pq K H w x' y' ∧ Sz n x ∧ Sz n y ∧ Sz m x' ∧ Sz m y' ∧ n + m ≤ 3800 ∧
  ∀ (r : V) (H' : Hp), Same H H' → Pq K H' r (X x y x' y') (Y x y x' y') → Q r H'
theorem r_p2 {H : Hp} {Q : VK} {E : XK} {K : PySem.W.Frag} {X Y : Rat → Rat → Rat → Rat → Rat} {v w : V} {x y x' y' : Rat} {n n2 m m2 : Nat} (h1 : Pq K H v x y) (h2 : Pq K H w x' y') (s1 : Sz n x) (s2 : Sz n2 y) (s3 : Sz m x') (s4 : Sz m2 y') (l : Nat.ble (max n n2 + max m m2) 3800 = true)
    (k : ∀ (r : V) (H' : Hp), Same H H' → Pq K H' r (X x y x' y') (Y x y x' y') → Q r H') : spP2 K X Y ([v, w] ++ []) H Q E := by
  have := Nat.le_of_ble_eq_true l
  exact ⟨v, w, x, y, x', y', max n n2, max m m2, rfl, h1, h2, s1.mono (by omega), s2.mono (by omega), s3.mono (by omega), s4.mono (by omega), this, k⟩
def spIsP (K : PySem.W.Frag) : Sp := fun vs H Q _ => ∃ (v : V) (x y : Rat), vs = [v] ∧ Pq K H v x y ∧ Q (.bl true) H
theorem isP_of {K : PySem.W.Frag} {vs : List V} {H : Hp} {Q : VK} {E : XK} (h : spIsP K vs H Q E) : spIsPl K vs H Q E := by
  obtain ⟨_, x, y, rfl, ⟨a, _, _, rfl, t, ⟨f, rfl, h1⟩, ⟨g, rfl, h2⟩⟩, k⟩ := h
  exact ⟨a, f, g, _, _, _, _, rfl, t, h1, h2, den_pos x, x.reduced, den_pos y, y.reduced, k⟩
/-! ### drawing, over rationals -/
theorem Fr.rat {m : Nat} {t u : Int} (h : Fr m t u) : ∃ q : Rat, q.num = t ∧ (q.den : Int) = u ∧ Sz m q := by
  have p := h.pos
  refine ⟨⟨t, u.toNat, by omega, ?_⟩, rfl, ?_, h.st, ?_⟩
  · have := h.one
    unfold Int.gcd at this
    have e : u.natAbs = u.toNat := by omega
    rw [e] at this
    exact this
  · show ((u.toNat : Nat) : Int) = u
    omega
  · show Sm m ((u.toNat : Nat) : Int)
    have e : ((u.toNat : Nat) : Int) = u := by omega
    rw [e]
    exact h.su
theorem Pc.pq {K : PySem.W.Frag} {H : Hp} {a : Addr} {m : Nat} {t u r s : Int} (h : Pc K H a m t u r s) : ∃ x y, Pq K H (.ref a) x y ∧ Sz m x ∧ Sz m y := by
  obtain ⟨⟨f, g, h1, h2, h3⟩, hx, hy⟩ := h
  obtain ⟨x, rfl, rfl, sx⟩ := hx.rat
  obtain ⟨y, rfl, rfl, sy⟩ := hy.rat
  exact ⟨x, y, ⟨a, _, _, rfl, h1, ⟨f, rfl, h2⟩, ⟨g, rfl, h3⟩⟩, sx, sy⟩
theorem Pq.pc {K : PySem.W.Frag} {H : Hp} {v : V} {m : Nat} {x y : Rat} (h : Pq K H v x y) (sx : Sz m x) (sy : Sz m y) : ∃ a t u r s, v = .ref a ∧ Pc K H a m t u r s := by
  obtain ⟨a, _, _, rfl, h1, ⟨f, rfl, h2⟩, ⟨g, rfl, h3⟩⟩ := h
  exact ⟨a, _, _, _, _, rfl, ⟨f, g, h1, h2, h3⟩, ⟨den_pos x, x.reduced, sx.t, sx.b⟩, ⟨den_pos y, y.reduced, sy.t, sy.b⟩⟩
theorem Sr.at_ {H : Hp} {p : Addr} {b : Int} (h : Sr H p b) : ∃ xs, H p = some (.lst xs) := by
  obtain ⟨x, y, z, h1, _⟩ := h
  exact ⟨_, h1⟩
theorem Fq.upB {K : PySem.W.Frag} {H H' : Hp} {v : V} {q : Rat} {p : Addr} {b : Int} (h : Fq K H v q) (s : But p H H') (hp : Sr H p b) : Fq K H' v q := by
  obtain ⟨xs, e⟩ := hp.at_
  exact h.but e s
theorem Pq.upB {K : PySem.W.Frag} {H H' : Hp} {v : V} {x y : Rat} {p : Addr} {b : Int} (h : Pq K H v x y) (s : But p H H') (hp : Sr H p b) : Pq K H' v x y := by
  obtain ⟨xs, e⟩ := hp.at_
  exact h.but e s
theorem Rq.upB {K : PySem.W.Frag} {H H' : Hp} {v : V} {q : Rat} {n : Nat} {p : Addr} {b : Int} (h : Rq K H v q n) (s : But p H H') (hp : Sr H p b) : Rq K H' v q n := by
  obtain ⟨xs, e⟩ := hp.at_
  obtain ⟨a, t, b, rfl, h1, h2⟩ := h
  exact ⟨a, t, b, rfl, s.tup e h1, h2⟩
theorem same_but {H0 H H' : Hp} {p : Addr} (s : Same H0 H) (n : H0 p = none) (b : But p H H') : Same H0 H' := Same.but s n b
def spPlaceQ (K : PySem.W.Frag) : Sp := fun vs H Q _ => ∃ (p : Addr) (k b : Int), vs = [.ref p, .int k] ∧ Sr H p b ∧ b ≤ 60000 ∧ 1 ≤ k ∧ k ≤ 100 ∧
  ∀ (v : V) (x y : Rat) (H' : Hp), But p H H' → Sr H' p (b + 100) → Pq K H' v x y → Sz (nb k + 1) x → Sz (nb k + 1) y → Q v H'
theorem placeQ_of {K : PySem.W.Frag} {vs : List V} {H : Hp} {Q : VK} {E : XK} (h : spPlaceQ K vs H Q E) : spPlaceZ K vs H Q E := by
  obtain ⟨p, k, b, rfl, h1, h2, h3, h4, q⟩ := h
  refine ⟨p, k, b, rfl, h1, h2, h3, h4, fun a t u r s H' b' s' c => ?_⟩
  obtain ⟨x, y, hq, sx, sy⟩ := c.pq
  exact q _ _ _ _ b' s' hq sx sy
def spNearQ (K : PySem.W.Frag) : Sp := fun vs H Q _ => ∃ (p : Addr) (k b : Int) (w : V) (x y : Rat), vs = [.ref p, .int k, w] ∧ Sr H p b ∧ b ≤ 50000 ∧ 1 ≤ k ∧ k ≤ 100 ∧ Pq K H w x y ∧ Sz (nb k + 1) x ∧ Sz (nb k + 1) y ∧
  ∀ (v : V) (x y : Rat) (H' : Hp), But p H H' → Sr H' p (b + 200) → Pq K H' v x y → Sz (nb k + 1) x → Sz (nb k + 1) y → Q v H'
theorem nearQ_of {K : PySem.W.Frag} {vs : List V} {H : Hp} {Q : VK} {E : XK} (h : spNearQ K vs H Q E) : spNear K vs H Q E := by
  obtain ⟨p, k, b, w, x, y, rfl, h1, h2, h3, h4, hw, sx, sy, q⟩ := h
  obtain ⟨a, t, u, r, s, rfl, hc⟩ := hw.pc sx sy
  refine ⟨p, k, b, a, t, u, r, s, rfl, h1, h2, h3, h4, hc, fun a t u r s H' b' s' c => ?_⟩
  obtain ⟨x, y, hq, sx, sy⟩ := c.pq
  exact q _ _ _ _ b' s' hq sx sy
section
variable {H : Hp} {Q : VK} {E : XK} {K : PySem.W.Frag}
theorem r_stream {a : Addr} {ns : List Int} {i : Int} (hS : SqL K H a (ns.map V.int)) (hl : ns.length ≤ 63) (i0 : 0 ≤ i) (i1 : i ≤ 1000) (k : ∀ (p : Addr) (H' : Hp), Same H H' → H p = none → Sr H' p 0 → Q (.ref p) H') : spStream K ([.ref a, .int i] ++ []) H Q E :=
  ⟨a, ns, i, rfl, hS, hl, i0, i1, k⟩
theorem r_placeQ {p : Addr} {b k : Int} {m : Nat} (hp : Sr H p b) (l : b ≤ 60000) (k0 : 1 ≤ k) (k1 : k ≤ 100) (hm : nb k + 1 = m) (c : ∀ (v : V) (x y : Rat) (H' : Hp), But p H H' → Sr H' p (b + 100) → Pq K H' v x y → Sz m x → Sz m y → Q v H') : spPlaceQ K ([.ref p, .int k] ++ []) H Q E := by
  subst hm
  exact
  ⟨p, k, b, rfl, hp, l, k0, k1, c⟩
theorem r_nearQ {p : Addr} {b k : Int} {m : Nat} {w : V} {x y : Rat} (hp : Sr H p b) (l : b ≤ 50000) (k0 : 1 ≤ k) (k1 : k ≤ 100) (hm : nb k + 1 = m) (hw : Pq K H w x y) (sx : Sz m x) (sy : Sz m y) (c : ∀ (v : V) (x y : Rat) (H' : Hp), But p H H' → Sr H' p (b + 200) → Pq K H' v x y → Sz m x → Sz m y → Q v H') : spNearQ K ([.ref p, .int k, w] ++ []) H Q E := by
  subst hm
  exact ⟨p, k, b, w, x, y, rfl, hp, l, k0, k1, hw, sx, sy, c⟩
theorem r_isP {v : V} {x y : Rat} (h : Pq K H v x y) (k : Q (.bl true) H) : spIsP K ([v] ++ []) H Q E := ⟨v, x, y, rfl, h, k⟩
end
/-! ### more of the drawing, over rationals -/
def spFracQ (K : PySem.W.Frag) : Sp := fun vs H Q _ => ∃ (p : Addr) (k b : Int), vs = [.ref p, .int k] ∧ Sr H p b ∧ b ≤ 70000 ∧ 1 ≤ k ∧ k ≤ 100 ∧
  ∀ (v : V) (x : Rat) (H' : Hp), But p H H' → Sr H' p (b + 50) → Fq K H' v x → Sz (nb k + 1) x → Q v H'
theorem fracQ_of {K : PySem.W.Frag} {vs : List V} {H : Hp} {Q : VK} {E : XK} (h : spFracQ K vs H Q E) : spFractionZ vs H Q E := by
  obtain ⟨p, k, b, rfl, h1, h2, h3, h4, q⟩ := h
  refine ⟨p, k, b, rfl, h1, h2, h3, h4, fun a t u H' b' s' e c => ?_⟩
  obtain ⟨x, rfl, rfl, sx⟩ := c.rat
  exact q _ _ _ b' s' ⟨a, rfl, tupOf e⟩ sx
/-- two places and a fraction in, a place out -/
def spShare (K : PySem.W.Frag) : Sp := fun vs H Q _ => ∃ (v w u : V) (x y x' y' t : Rat) (n m k : Nat), vs = [v, w, u] ∧ Pq K H v x y ∧ Pq K H w x' y' ∧ Fq K H u t ∧ Sz n x ∧ Sz n y ∧ Sz m x' ∧ Sz m y' ∧ Sz k t ∧ n + m ≤ 3800 ∧ k ≤ 500 ∧
  ∀ (r : V) (H' : Hp), Same H H' → Pq K H' r (x + t * (x' - x)) (y + t * (y' - y)) → Q r H'
section
variable {H : Hp} {Q : VK} {E : XK} {K : PySem.W.Frag}
theorem r_fracQ {p : Addr} {b k : Int} {m : Nat} (hp : Sr H p b) (l : b ≤ 70000) (k0 : 1 ≤ k) (k1 : k ≤ 100) (hm : nb k + 1 = m) (c : ∀ (v : V) (x : Rat) (H' : Hp), But p H H' → Sr H' p (b + 50) → Fq K H' v x → Sz m x → Q v H') : spFracQ K ([.ref p, .int k] ++ []) H Q E := by
  subst hm
  exact ⟨p, k, b, rfl, hp, l, k0, k1, c⟩
theorem r_takeS {p : Addr} {b k : Int} (hp : Sr H p b) (l : b ≤ 100000) (k0 : 1 ≤ k) (k1 : k ≤ 1000000) (c : ∀ (r : Int) (H' : Hp), But p H H' → Sr H' p (b + 1) → 0 ≤ r → r < k → Q (.int r) H') : spTakeS ([.ref p, .int k] ++ []) H Q E :=
  ⟨p, k, b, rfl, hp, l, k0, (show Sm 64 k by unfold Sm; omega).mono (by decide), c⟩
theorem r_share {v w u : V} {x y x' y' t : Rat} {n n2 m m2 k : Nat} (h1 : Pq K H v x y) (h2 : Pq K H w x' y') (h3 : Fq K H u t) (s1 : Sz n x) (s2 : Sz n2 y) (s3 : Sz m x') (s4 : Sz m2 y') (s5 : Sz k t) (l : Nat.ble (max n n2 + max m m2) 3800 = true) (l2 : Nat.ble k 500 = true)
    (c : ∀ (r : V) (H' : Hp), Same H H' → Pq K H' r (x + t * (x' - x)) (y + t * (y' - y)) → Q r H') : spShare K ([v, w, u] ++ []) H Q E := by
  have := Nat.le_of_ble_eq_true l
  exact ⟨v, w, u, x, y, x', y', t, max n n2, max m m2, k, rfl, h1, h2, h3, s1.mono (by omega), s2.mono (by omega), s3.mono (by omega), s4.mono (by omega), s5, this, Nat.le_of_ble_eq_true l2, c⟩
end
theorem Pq.cast {K : PySem.W.Frag} {H : Hp} {v : V} {x y x' y' : Rat} (h : Pq K H v x y) (ex : x = x') (ey : y = y') : Pq K H v x' y' := by
  subst ex; subst ey; exact h
theorem Fq.cast {K : PySem.W.Frag} {H : Hp} {v : V} {x x' : Rat} (h : Fq K H v x) (ex : x = x') : Fq K H v x' := by
  subst ex; exact h
theorem r_noN {c : Prop} [Decidable c] {A B : Prop} (h : c) (k : B) : if (!decide c) = true then A else B := by
  rw [decide_eq_true h]; exact k
theorem r_yesQ {c : Prop} [Decidable c] {A B : Prop} (h : c) (k : A) : if decide c = true then A else B := by
  rw [decide_eq_true h]; exact k
theorem r_no {c : Prop} [Decidable c] {A B : Prop} (h : ¬ c) (k : B) : if decide c = true then A else B := by
  rw [decide_eq_false h]; exact k
def spShared (K : PySem.W.Frag) : Sp := fun vs H Q _ => ∃ (r v w u : V) (x0 y0 x y x' y' t : Rat), vs = [r, v, w, u] ∧ Pq K H r x0 y0 ∧ Pq K H v x y ∧ Pq K H w x' y' ∧ Rq K H u t 211 ∧ Sz 3000 x0 ∧ Sz 3000 y0 ∧ Sz 211 x ∧ Sz 211 y ∧ Sz 211 x' ∧ Sz 211 y' ∧ x0 = x + t * (x' - x) ∧ y0 = y + t * (y' - y) ∧
  ∀ (H' : Hp), Same H H' → Q (.bl true) H'
/-- two turns that change one name, the heap but grows -/
theorem r_loop2 {σ : St} {H : Hp} {D : Ends} {tb : TS} {j : Nat}
    (h0 : ∀ (y : Option V) (H' : Hp), Same H H' → ∀ N : St → Hp → Prop, (∀ y' H'', Same H H'' → N (σ.set j y') H'') → tb { D with nx := N, ct := N, bk := D.nx } (σ.set j (some (.int 0))) H')
    (h1 : ∀ (y : Option V) (H' : Hp), Same H H' → ∀ N : St → Hp → Prop, (∀ y' H'', Same H H'' → N (σ.set j y') H'') → tb { D with nx := N, ct := N, bk := D.nx } (σ.set j (some (.int 1))) H')
    (hd : ∀ (y : Option V) (H' : Hp), Same H H' → D.nx (σ.set j y) H') (hj : ∃ y, σ = σ.set j y) : tFor (iRng1 (tCons (tC (.int 2)) tNil)) (gName j) tb D σ H := by
  refine ⟨_, rfl, by decide, by decide, for_range (n := 2) (fun i σ' H' => ∃ y, σ' = σ.set j y ∧ Same H H') ?_ ?_ ?_⟩
  · obtain ⟨y, e⟩ := hj
    exact ⟨y, e, Same.refl _⟩
  · rintro i σ' H' hi ⟨y, rfl, g⟩
    have : i = 0 ∨ i = 1 := by omega
    rcases this with rfl | rfl
    · show tb _ ((σ.set j y).set j (some (.int 0))) H'
      rw [List.set_set]
      exact h0 y H' g _ fun y' H'' g' => ⟨y', rfl, g'⟩
    · show tb _ ((σ.set j y).set j (some (.int 1))) H'
      rw [List.set_set]
      exact h1 y H' g _ fun y' H'' g' => ⟨y', rfl, g'⟩
  · rintro σ' H' ⟨y, rfl, g⟩
    exact hd y H' g
theorem r_neP {H : Hp} {Q : VK} {K : PySem.W.Frag} {v w : V} {x y x' y' : Rat} (h1 : Pq K H v x y) (h2 : Pq K H w x' y') (e : x = x' ∧ y = y') (k : Q (.bl false) H) : rNeD K v w H Q := by
  obtain ⟨rfl, rfl⟩ := e
  refine ⟨_, _, h1.dp, h2.dp, rfl, rfl, ?_⟩
  rw [SeqAt.eqv_refl _ rfl]
  exact k
theorem r_shared {H : Hp} {Q : VK} {E : XK} {K : PySem.W.Frag} {r v w u : V} {x0 y0 x y x' y' t : Rat} {n n2 : Nat} (h0 : Pq K H r x0 y0) (h1 : Pq K H v x y) (h2 : Pq K H w x' y') (h3 : Rq K H u t 211) (s0 : Sz n x0) (s1 : Sz n2 y0) (l : Nat.ble (max n n2) 3000 = true) (s2 : Sz 211 x) (s3 : Sz 211 y) (s4 : Sz 211 x') (s5 : Sz 211 y') (e1 : x0 = x + t * (x' - x)) (e2 : y0 = y + t * (y' - y))
    (c : ∀ (H' : Hp), Same H H' → Q (.bl true) H') : spShared K ([r, v, w, u] ++ []) H Q E := by
  have := Nat.le_of_ble_eq_true l
  exact ⟨r, v, w, u, x0, y0, x, y, x', y', t, rfl, h0, h1, h2, h3, s0.mono (by omega), s1.mono (by omega), s2, s3, s4, s5, e1, e2, c⟩
theorem Rq.of2 {K : PySem.W.Frag} {H : Hp} {p : Addr} {t b : Int} {n m : Nat} (h : H p = some (.tup [.int t, .int b])) (nz : b ≠ 0) (s1 : Sm n t) (s2 : Sm m b) : Rq K H (.ref p) ((t : Rat) / (b : Rat)) (max n m) := ⟨p, t, b, rfl, tupOf h, nz, (Rat.divInt_eq_div t b).symm, s1.mono (by omega), s2.mono (by omega)⟩
theorem Fq.intI {K : PySem.W.Frag} {H : Hp} {a : Addr} {i : Int} (h : H a = some (.tup [.int i, .int 1])) : Fq K H (.ref a) (i : Rat) := ⟨a, rfl, tupOf h⟩
theorem Sz.int {i : Int} {n : Nat} (h : Sm n i) (l : 0 < n) : Sz n (i : Rat) := ⟨h, by
  show Sm n ((1 : Nat) : Int)
  unfold Sm
  exact Nat.one_lt_two_pow (by omega)⟩
end Mb
namespace Mb
open PySem L2
/-! ### defs that may raise -/
structure KnX (P : Program) (w : World) (K : PySem.W.Frag) (mg : Str → Option Value) (base : Heap) (k : Nat) (x : Str) (ps : List Str) (sp : Sp) : Prop where
  ex : ∃ f fd, FnOk P w K mg base (L2.CX P w) k f fd ps sp ∧ mg x = some (.ref f) ∧ PySem.W.keepIn K (.ref f) = true ∧ Binds K fd ps []
section
variable {X : Cx} {k : Nat} {x : Str} {ps : List Str} {sp : Sp} {e : Expr} {es : List Expr} {p pos : Pos} {t : TA}
/-- a call that is known not to raise -/
theorem pe_knX (G : KnX X.prog X.w X.K X.mg X.base k x ps sp) (hr : Room k X.A) (hg : Gl X x)
    (ha : PA X (e :: es) t) (hdb : (x == ("__debug__" : Str)) = false := by decide) (he : starEach (e :: es) X.env = (false, eval e X.env) :: starEach es X.env := by rfl) (hpl : (backTo pos (starEach es X.env)).any (·.1) = false := by rfl) :
    PE X (.Call (.Name x p) (e :: es) [] pos) (tCall sp [] E0 t) := by
  obtain ⟨f, fd, F, m, kp, b⟩ := G.ex
  exact pe_call F hr hg m kp b .nil passL ha hdb he hpl
/-- a call in a def that lets out what it raises -/
theorem pe_knXX {E : XK} (tk : Takes X (fun cls d _ H => E cls d H)) (G : KnX X.prog X.w X.K X.mg X.base k x ps sp) (hr : Room k X.A) (hg : Gl X x)
    (ha : PA X (e :: es) t) (hdb : (x == ("__debug__" : Str)) = false := by decide) (he : starEach (e :: es) X.env = (false, eval e X.env) :: starEach es X.env := by rfl) (hpl : (backTo pos (starEach es X.env)).any (·.1) = false := by rfl) :
    PE X (.Call (.Name x p) (e :: es) [] pos) (tCall sp [] E t) := by
  obtain ⟨f, fd, F, m, kp, b⟩ := G.ex
  exact pe_call F hr hg m kp b .nil (passes_call tk fun _ _ _ _ h => h) ha hdb he hpl
/-- a call in a try's body -/
theorem pe_knS {W : WX} (tk : Takes X W) (G : KnX X.prog X.w X.K X.mg X.base k x ps sp) (hr : Room k X.A) (hg : Gl X x)
    (ha : PA X (e :: es) t) (hdb : (x == ("__debug__" : Str)) = false := by decide) (he : starEach (e :: es) X.env = (false, eval e X.env) :: starEach es X.env := by rfl) (hpl : (backTo pos (starEach es X.env)).any (·.1) = false := by rfl) :
    PE X (.Call (.Name x p) (e :: es) [] pos) (tCallS sp (WE W) t) := by
  obtain ⟨f, fd, F, m, kp, b⟩ := G.ex
  exact pe_callS F hr hg m kp b (fun σ => passAt tk σ) ha hdb he hpl
end
theorem Fn.knX {P : Program} {w : World} {K : PySem.W.Frag} {mg : Str → Option Value} {base : Heap} {k : Nat} {x : Str} {st : Stmt} {N ps : List Str} {sp : Sp} (F : Fn K mg x st) (S : FnScope N ps (defScope st)) (len : ∀ vs H Q E, sp vs H Q E → vs.length = ps.length)
    (hbody : ∀ (f : Addr) (cdv : Value) (A : Around) (outer : List Env) (s : Shared) (H : Hp) (vs : List V) (Q : VK) (E : XK), Room k (A.deeper (PyProof.Rows.envOfC x (defScope st) s.heap.objs.size f cdv)) → sp vs H Q E →
      ∃ t, PSs (cxOf (L2.CX P w) P w K mg base N x (defScope st) f cdv A outer s H E) (defBody st) t ∧ t { nx := fun _ H' => Q .non H', rt := Q } (start N vs) H)
    (hb : ∀ (kV doc pm : Value) (an : Option Addr) (cdv ct : Value) (us : List Value), us.length = ps.length → bindArgs (PySem.W.fnOf x x (defArgs st) (defBody st) (defScope st) .none kV doc pm an cdv ct) ⟨us, []⟩ = pure (ps.zip us)) :
    KnX P w K mg base (k + 1) x ps sp := by
  obtain ⟨f, fd, F, m⟩ := F.ex
  exact ⟨f, fd, F.ok S len fun cdv A outer s H vs Q E hr h => hbody f cdv A outer s H vs Q E hr h, m, F.kp, F.bindsN hb⟩
/-! ### an own error class without arguments -/
structure XCls (K : PySem.W.Frag) (mg : Str → Option Value) (x : Str) (C : Addr) : Prop where
  g : mg x = some (.ref C)
  q : PySem.W.excIn K C He.veBase "ValueError.__new__" = true
  k : PySem.W.keepIn K (.ref C) = true
  b : PySem.W.subIn K (.ref C) (.type "BaseException") = some true
  t : PySem.W.typeIn K (.ref C) = some (.type "type")
theorem pmk_own0 {X : Cx} {x : Str} {C : Addr} {p pos : Pos} (T : XCls X.K X.mg x C) (hg : Gl X x) (hdb : (x == ("__debug__" : Str)) = false := by decide) :
    PMk X (.Call (.Name x p) [] [] pos) (fun _ H Q => Q (.ref C) none H) := by
  intro pins s σ H Q I h
  refine wpAny_Call_Name_kw (ld_glob I hg T.g ?_ hdb)
  obtain ⟨bm, N, nm, qn, bs, hdct, sn, sub, ab, col, dd, k0, k1, k2, k3, k5, mN, hC, hN, hni, TT⟩ := exc_obj I.kIn T.q
  obtain ⟨hp1, g1, d1, tk1, os1⟩ := s
  exact PySem.W.callWith_K0 I.kIn T.k (wpAny_call_exc_subT PySem.F.excBase_ValueError TT hC hN hni (fun h1 a mk => mk_of I mk (raises_own T.b T.t) h (I.hok.gone mk.new)) (Nat.zero_le _))
/-! ### a reading that holds under a condition -/
theorem pss_when {X : Cx} {sts : List Stmt} {p : Prop} {t : TS} (h : p → PSs X sts t) : PSs X sts (fun D σ H => p ∧ t D σ H) := ⟨fun pins s σ H D I q => (h q.1).run pins s σ H D I q.2⟩
/-! ### except clauses, with and without a name, one after the other -/
inductive Hds (X : Cx) (Wout : WX) : List ExceptHandler → (Ends → WX) → Prop
  | nil : Hds X Wout [] (fun _ => Wout)
  | plain {x : Str} {c : Value} {ts : Addr → Value → Option Addr → TS} {b0 : Stmt} {su : List Stmt} {np pq : Pos} {hds : List ExceptHandler} {w : Ends → WX} (hc : Names X x c)
      (hsu : ∀ (a : Addr) (oe : Obj) (cls : Value) (d : Option Addr) (pn : List (Addr × Obj)), Zc cls d oe → (∃ vs, oe.data = .fields vs) → PSs (X.suite a ((a, oe) :: pn)) (b0 :: su) (ts a cls d)) (r : Hds X Wout hds w) :
      Hds X Wout (.ExceptHandler (some (.Name x np)) none (b0 :: su) pq :: hds) (fun D cls d σ H => ∃ b, PySem.W.exmOne X.K cls c = some b ∧ (b = true → ∀ a, H a = none → ts a cls d D σ H) ∧ (b = false → w D cls d σ H))
  | named {x n : Str} {i : Nat} {c : Value} {ts : Addr → Value → Option Addr → TS} {b0 : Stmt} {su : List Stmt} {np pq : Pos} {hds : List ExceptHandler} {w : Ends → WX} (hN : X.N.Nodup) (hi : X.N[i]? = some n) (hln : X.env.kindOf n = some .local) (hc : Names X x c)
      (hsu : ∀ (a : Addr) (oe : Obj) (cls : Value) (d : Option Addr) (pn : List (Addr × Obj)), Zc cls d oe → (∃ vs, oe.data = .fields vs) → PSs (X.suite a ((a, oe) :: pn)) (b0 :: su) (ts a cls d)) (r : Hds X Wout hds w) :
      Hds X Wout (.ExceptHandler (some (.Name x np)) (some n) (b0 :: su) pq :: hds)
        (fun D cls d σ H => ∃ b, PySem.W.exmOne X.K cls c = some b ∧ (b = true → ∀ a, H a = none → ts a cls d { nx := fun σ1 H1 => D.nx (σ1.set i none) H1, rt := D.rt, bk := fun σ1 H1 => D.bk (σ1.set i none) H1, ct := fun σ1 H1 => D.ct (σ1.set i none) H1 } (σ.set i (some (.ref a))) H) ∧ (b = false → w D cls d σ H))
section
variable {X : Cx} {body : List Stmt} {h0 : ExceptHandler} {hds : List ExceptHandler} {w : Ends → WX} {pos : Pos} {tb : WX → TS} {Wout : WX}
theorem ps_try_hs (hs : X.stack = X.env :: X.outer) (hf : X.env.frame = some X.env.locals) (tk : Takes X Wout)
    (hb : ∀ (W : WX) (pn : List (Addr × Obj)) (xe : Value → Shared → Prop), Takes (X.tr pn xe) W → PSs (X.tr pn xe) body (tb W)) (hh : Hds X Wout (h0 :: hds) w) : PS X (.Try body (h0 :: hds) [] [] pos) (fun D σ H => tb (w D) D σ H) := by
  constructor
  intro pins s σ H D I q
  have ok := I.ok
  have hfr : X.A.frames = some (X.env :: X.outer) := hs ▸ ok.frames
  refine wpAny_Try_except (wpAny_mono ((hb (w D) (X.pn ++ pins) _ ?caught).run [] s σ H D (I.toTry _) q) ?back fun _ _ z => z)
  case back =>
    intro fl s1 z
    cases fl with
    | ret u => obtain ⟨v, σ1, H1, J, r, z⟩ := z; exact ⟨v, σ1, H1, J.ofTry ok, r, z⟩
    | cont => obtain ⟨σ1, H1, J, z⟩ := z; exact ⟨σ1, H1, J.ofTry ok, z⟩
    | brk => obtain ⟨σ1, H1, J, z⟩ := z; exact ⟨σ1, H1, J.ofTry ok, z⟩
    | next => obtain ⟨σ1, H1, J, z⟩ := z; exact wpAny_execs_nil ⟨σ1, H1, J.ofTry ok, z⟩
  case caught =>
    rintro u sx ⟨a, B, sI, pins1, σ1, H1, cls, d, rfl, J0, nb, up, sky, na, os, ag, wish⟩
    have J : Inv X pins σ1 H1 sI := J0.ofTry ok
    have skyX : Sky B (X.env :: X.outer) a (Zc cls d) X.env.locals sx.heap := hs ▸ sky
    show wpAny (model X.prog X.w) X.A (noteFrame (.ref a) X.env) _ _ _
    refine Sky.land Zc.steady hfr hf skyX fun hp fly upp => ?_
    have Jl : Inv X pins σ1 H1 { sx with heap := hp } := J.landed nb fly.1 (up.trans upp) os ag
    obtain ⟨ob, vs, hob, hz, hdat⟩ := fly.there
    have nfr : a ∉ frs (X.env :: X.outer) := fun hm => by
      obtain ⟨_, o1, e1, hnf⟩ := fly.2.2.1.mem hm
      rw [hob] at e1
      cases e1
      exact hnf _ hdat
    have nL : a ≠ X.env.locals := fun z => nfr (List.mem_filterMap.mpr ⟨X.env, List.mem_cons_self, by rw [hf, z]⟩)
    have nF : a ∉ X.fs := fun hm => by
      obtain ⟨en, hen, z⟩ := List.mem_filterMap.mp hm
      exact nfr (List.mem_filterMap.mpr ⟨en, List.mem_cons_of_mem _ hen, z⟩)
    have Su := Jl.suite hob hdat na nL nF
    have ask : ∀ {x : Str} {c : Value} {np : Pos} {Q : Value → Shared → Prop} {E : Value → Shared → Prop}, Names X x c → Q c { sx with heap := hp } → wpAny (model X.prog X.w) (X.A.mark (some (.ref a))) (eval (.Name x np) X.env) Q E { sx with heap := hp } := fun hc z => by
      obtain ⟨hg, hdbg, hm | ⟨hm, hv, hnn⟩⟩ := hc
      · exact ld_glob (X := X.suite a ((a, ob) :: (X.pn ++ pins))) Su hg hm z hdbg
      · exact ld_blt (X := X.suite a ((a, ob) :: (X.pn ++ pins))) Su hg hm hv z hnn hdbg
    have LT : PySem.W.Looks (model X.prog X.w) hp (typeOf (.ref a)) cls := fun _ _ _ _ kp z => wpAny_typeOf_ref (kp _ _ hob) (by rw [hz.1]; exact z)
    have go : ∀ {hs1 : List ExceptHandler} {w1 : Ends → WX}, Hds X Wout hs1 w1 → w1 D cls d σ1 H1 → wpAny (model X.prog X.w) X.A (handleBy (.ref a) X.env hs1) (SP X pins D) X.xe { sx with heap := hp } := by
      intro hs1 w1 hk
      induction hk with
      | nil =>
        intro z
        refine wpAny_handleBy_nil ?_
        obtain ⟨f1, f2, f3, oe, vs1, T, oT, tr, e1, e2, e3, e4, e5⟩ := id fly
        unfold PySem.passOn
        refine wpAny_bind (wpAny_field e1 e3 e4 ?_)
        rw [if_neg (by simp : ¬ ((Value.ref T == Value.none) = true))]
        have out : wpAny (model X.prog X.w) X.A (setFlight (.ref a) X.env.frame) (fun _ s4 => wpAny (model X.prog X.w) X.A (throw (.ref a) : Sem Flow) (SP X pins D) X.xe s4) X.xe { sx with heap := hp } := by
          rw [hf]
          exact HandSPX.setFlight_upZ fly fun h4 held up4 => wpAny_throw (tk _ _ ⟨a, B, sI, pins, σ1, H1, cls, d, rfl, J, nb, (up.trans upp).trans up4, .inr (.inr (hs ▸ held)), na, os, ag, z⟩)
        first
          | exact wpAny_bind out
          | exact wpAny_bind (wpAny_pure (wpAny_bind out))
      | @plain x c ts b0 su np pq hd2 w2 hc hsu r ih =>
        rintro ⟨b, hb1, yes, no⟩
        refine wpAny_handleBy_cons (codeAny_handlers_test (ask hc ((PySem.W.exm_one (M := model X.prog X.w) Jl.kIn LT hb1).here ?_))) (by intro z; cases z)
        cases b with
        | false => exact ih (no rfl)
        | true =>
          refine codeAny_handlers_suite (HandSPX.lands_againZ fly fun h4 fly4 up4 => ?_)
          have J4 : Inv X pins σ1 H1 { sx with heap := h4 } := J.landed nb fly4.1 ((up.trans upp).trans up4) os ag
          obtain ⟨o4, vs4, e4, z4, d4⟩ := fly4.there
          refine wpAny_mono ((hsu a o4 cls d (X.pn ++ pins) z4 ⟨_, d4⟩).run [] _ _ H1 _ (J4.suite e4 d4 na nL nF) (yes rfl a na)) ?_ fun _ _ z => False.elim z
          intro fl s6 z
          cases fl with
          | ret u => obtain ⟨v, σ6, H6, S6, r6, z⟩ := z; exact ⟨_, _, _, S6.unsuite ok, r6, z⟩
          | cont => obtain ⟨σ6, H6, S6, z⟩ := z; exact ⟨_, _, S6.unsuite ok, z⟩
          | brk => obtain ⟨σ6, H6, S6, z⟩ := z; exact ⟨_, _, S6.unsuite ok, z⟩
          | next => obtain ⟨σ6, H6, S6, z⟩ := z; exact ⟨_, _, S6.unsuite ok, z⟩
      | @named x n i c ts b0 su np pq hd2 w2 hN hi hln hc hsu r ih =>
        rintro ⟨b, hb1, yes, no⟩
        refine wpAny_handleBy_cons (codeAny_handlers_test (ask hc ((PySem.W.exm_one (M := model X.prog X.w) Jl.kIn LT hb1).here ?_))) (by intro z; cases z)
        cases b with
        | false => exact ih (no rfl)
        | true =>
          refine codeAny_handlers_suite_as (HandSPX.lands_againZ fly fun h4 fly4 up4 => ?_)
          have J4 : Inv X pins σ1 H1 { sx with heap := h4 } := J.landed nb fly4.1 ((up.trans upp).trans up4) os ag
          obtain ⟨o4, vs4, e4, z4, d4⟩ := fly4.there
          have S4 := J4.suite e4 d4 na nL nF
          refine store_ok (X := X.suite a ((a, o4) :: (X.pn ++ pins))) (v := .ref a) S4 hN hi (.inl hln) rfl (fun s5 S5 => ?_) (.inr hln)
          refine wpAny_mono ((hsu a o4 cls d (X.pn ++ pins) z4 ⟨_, d4⟩).run [] s5 _ H1 _ S5 (yes rfl a na)) ?_ fun _ _ z => False.elim z
          intro fl s6 z
          cases fl with
          | ret u => obtain ⟨v, σ6, H6, S6, r6, z⟩ := z; exact gone_ok (S6.unsuite ok) hN hi hln fun _ J7 => ⟨_, _, _, J7, r6, z⟩
          | cont => obtain ⟨σ6, H6, S6, z⟩ := z; exact gone_ok (S6.unsuite ok) hN hi hln fun _ J7 => ⟨_, _, J7, z⟩
          | brk => obtain ⟨σ6, H6, S6, z⟩ := z; exact gone_ok (S6.unsuite ok) hN hi hln fun _ J7 => ⟨_, _, J7, z⟩
          | next => obtain ⟨σ6, H6, S6, z⟩ := z; exact gone_ok (S6.unsuite ok) hN hi hln fun _ J7 => ⟨_, _, J7, z⟩
    exact go hh wish
end
theorem r_callS {σ : St} {H : Hp} {Q : VK} {sp : Sp} {E : St → XK} {t : TA} (q : t σ H fun vs H1 => sp vs H1 Q (E σ)) : tCallS sp E t σ H Q := q
/-! ### promises of defs that may raise: C is the class of the error -/
def spFracX (C : Addr) : Sp := fun vs H Q E => ∃ t b : Int, vs = [.int t, .int b] ∧ Sm 8000 b ∧ (b = 0 → E (.ref C) none H) ∧
  (b ≠ 0 → ∀ (p : Addr) (H' : Hp), Same H H' → H p = none → H' p = some (.tup [.int (lowT t b), .int (lowB t b)]) → Q (.ref p) H')
def spOverX (K : PySem.W.Frag) (C : Addr) : Sp := fun vs H Q E => ∃ (a b : Addr) (x y u v : Int), vs = [.ref a, .ref b] ∧ SqT K H a [.int x, .int y] ∧ SqT K H b [.int u, .int v] ∧ Sm 2000 x ∧ Sm 2000 y ∧ Sm 2000 u ∧ Sm 2000 v ∧
  (y * u = 0 → E (.ref C) none H) ∧ (y * u ≠ 0 → ∀ (p : Addr) (H' : Hp), Same H H' → H p = none → H' p = some (.tup [.int (lowT (x * v) (y * u)), .int (lowB (x * v) (y * u))]) → Q (.ref p) H')
/-! ### facts of the written part -/
def eqV (a b : Option Bool) : Bool := decide (a = b)
/-- what isinstance asks of an own error's class -/
def excCB (K : PySem.W.Frag) (x : Str) : Bool :=
  He.eqO (PySem.W.findIn K (.ref (He.ga K x)) "__getattribute__") (some (some (.builtin "BaseException.__getattribute__"))) && (He.eqO (PySem.W.findIn K (.ref (He.ga K x)) "__getattr__") (some none) &&
  (eqV (PySem.W.subIn K (.ref (He.ga K x)) (.type "BaseException")) (some true) && (PySem.W.hasDictIn K (He.ga K x) && (He.eqO (PySem.W.findIn K (.ref (He.ga K x)) "__class__") (some (some (.builtin "object.__class__"))) &&
  (He.eqO (PySem.W.specialIn K (.builtin "object.__class__") "__get__") (some (some (.builtin "getset_descriptor.__get__"))) && (eqV (PySem.W.takesIn K (.builtin "object.__class__")) (some true) && eqV (PySem.W.mroIn K (He.ga K x) (.type "object")) (some true)))))))
theorem excCB_ok {K : PySem.W.Frag} {x : Str} (h : excCB K x = true) : ExcC K (He.ga K x) := by
  obtain ⟨h1, h⟩ := He.ba h
  obtain ⟨h2, h⟩ := He.ba h
  obtain ⟨h3, h⟩ := He.ba h
  obtain ⟨h4, h⟩ := He.ba h
  obtain ⟨h5, h⟩ := He.ba h
  obtain ⟨h6, h⟩ := He.ba h
  obtain ⟨h7, h8⟩ := He.ba h
  exact ⟨He.eqO_ok h1, He.eqO_ok h2, of_decide_eq_true h3, h4, He.eqO_ok h5, He.eqO_ok h6, of_decide_eq_true h7, of_decide_eq_true h8⟩
/-- whether an error of the class x is one of the class y -/
def kitIs (K : PySem.W.Frag) (x y : Str) (b : Bool) : Bool := eqV (PySem.W.kitOne K (.ref (He.ga K x)) (.ref (He.ga K y))) (some b)
theorem kitIs_ok {K : PySem.W.Frag} {x y : Str} {b : Bool} (h : kitIs K x y b = true) : PySem.W.kitOne K (.ref (He.ga K x)) (.ref (He.ga K y)) = some b := of_decide_eq_true h
theorem xcls_of {K : PySem.W.Frag} {h : Heap} {mg : Str → Option Value} (X : K.In h) (G : h.Ns mainGlobals mg) {x : Str} (c : (He.Fa.exc x).ok K = true) (g : (He.Fa.glo x).ok K = true) : XCls K mg x (He.ga K x) := by
  obtain ⟨h1, h2, h3, h4⟩ := He.exc_ok c
  exact ⟨He.glo_ok X G g, h1, h2, h3, h4⟩
/-- the head's facts with some of one's own -/
def obsXG (n : Nat) (fa : List He.Fa) (fn : List He.DefD) (xb : PySem.W.Frag → Bool) (g : Addr → Option Obj) : He.AlD × Bool := (He.obsD fa fn (He.frG g (He.asD g n ++ [cStatics])), xb (He.frG g (He.asD g n ++ [cStatics])))
def hookX (n : Nat) (fa : List He.Fa) (fn : List He.DefD) (xb : PySem.W.Frag → Bool) : PySem.W.Hook where
  α := He.AlD × Bool
  obs := fun s => obsXG n fa fn xb s.heap.get?
  val := fun _ => (He.valD fn, true)
  says := fun _ h => ∃ K : PySem.W.Frag, K.In h ∧ He.SaysD fa fn K ∧ xb K = true
  of := fun _ _ e => ⟨_, He.frG_in, congrArg Prod.fst e, congrArg Prod.snd e⟩
  keeps := fun _ _ _ ⟨K, hK, c⟩ k => ⟨K, PySem.W.Frag.In.keeps hK k, c⟩
theorem obsXG_eq {n : Nat} {fa : List He.Fa} {fn : List He.DefD} {xb : PySem.W.Frag → Bool} {g : Addr → Option Obj} {s : Shared} (h : ∀ a, g a = s.heap.get? a) : obsXG n fa fn xb g = (hookX n fa fn xb).obs s := by
  have e : g = s.heap.get? := funext h
  subst e
  rfl
end Mb
namespace Mb
open PySem L2
/-! ### errors made and held as values -/
/-- what the written part says of an own class over ValueError whose __init__ is asked by the class's name -/
structure BeI (K : PySem.W.Frag) (B : Addr) : Prop where
  ga : PySem.W.specialIn K (.ref B) "__getattribute__" = some (some (.builtin "type.__getattribute__"))
  rd : PySem.W.readsIn K B (.type "type") = true
  fc : PySem.W.findCls K (.ref B) (.type "type") "__init__" = some (.val (.builtin "ValueError.__init__"))
/-- C(e, ..) as a value, C's own __init__ keeping sp -/
def tMkV (C : Addr) (sp : Sp) (ta : TA) : TE := fun σ H Q => ta σ H fun vs H1 => vs.length ≤ 1000 ∧ ∀ a, H1 a = none → sp (.ref a :: vs) (upd H1 a (exo a C none)) (fun v H2 => v = .non ∧ Q (.ref a) H2) (fun _ _ _ => False)
section
variable {X : Cx} {e : Expr} {es : List Expr} {te : TE} {ta : TA} {x : Str} {p p1 p2 pos : Pos} {B C : Addr}
theorem pe_beinit {pl : Sem Bool} (hg : Gl X x) (hm : X.mg x = some (.ref B)) (T : BeI X.K B) (ha : PA X (e :: es) ta) (hdb : (x == ("__debug__" : Str)) = false := by decide)
    (hc : eval (.Call (.Attribute (.Name x p1) "__init__" p2) (e :: es) [] pos) X.env = (do
        let ov ← eval (.Name x p1) X.env
        standAt p2.atName
        let (f, first) ← holding [ov] (getMethod ov "__init__" pl)
        callWith pos f first (backTo pos (starEach (e :: es) X.env)) (backToKw pos (keywordEach [] X.env))) := by rfl)
    (he : starEach (e :: es) X.env = (false, eval e X.env) :: starEach es X.env := by rfl) (hpl : (backTo pos (starEach es X.env)).any (·.1) = false := by rfl) :
    PE X (.Call (.Attribute (.Name x p1) "__init__" p2) (e :: es) [] pos) (tVeI X.K ta) := by
  constructor
  intro pins s σ H Q I h
  refine PySem.W.methodCall_KW (ld_glob I hg hm ?_ hdb) hc
  refine PySem.W.method_cls I.kIn T.ga (PySem.W.cls_value I.kIn T.rd T.fc (by decide +kernel) ?_)
  show wpAny _ _ (callWith pos (Value.builtin "ValueError.__init__") [] (backTo pos (starEach (e :: es) X.env)) []) _ _ _
  refine PyProof.Rows.callWith_method1 (thn (ha.run pos pins _ σ H _ (I.tok _) h) ?_) he hpl
  rintro us s1 ⟨vs, H1, I1, r1, a, C, ws, ev, hl, T, ea, q⟩
  subst ev
  cases r1 with
  | @cons _ u0 _ ur ra rr =>
    obtain rfl : u0 = Value.ref a := ra
    have hlen : ur.length ≤ sizeLine := Nat.le_of_lt (small1000 (by rw [← Paired.length rr]; exact hl))
    exact oinit_ok T I1 ea hlen fun s2 J => ⟨.non, H1, J, rfl, q⟩
theorem pe_mkO {fI : Addr} {k : Nat} {fd : FuncData} {ps : List Str} {sp : Sp} (T : OexC X.K C) (iC : PySem.W.findIn X.K (.ref C) "__init__" = some (some (.ref fI))) (tI : PySem.W.typeIn X.K (.ref fI) = some (.type "function"))
    (F1 : FnOk X.prog X.w X.K X.mg X.base CX0 k fI fd ps sp) (hr : Room (k + 1) X.A) (hb : Binds X.K fd ps []) (hg : Gl X x) (hm : X.mg x = some (.ref C)) (ha : PA X (e :: es) ta)
    (hdb : (x == ("__debug__" : Str)) = false := by decide) (he : starEach (e :: es) X.env = (false, eval e X.env) :: starEach es X.env := by rfl) (hpl : (backTo pos (starEach es X.env)).any (·.1) = false := by rfl) :
    PE X (.Call (.Name x p) (e :: es) [] pos) (tMkV C sp ta) := by
  constructor
  intro pins s σ H Q I h
  obtain ⟨nm, q, N, bs, bm, sn, sub, ab, col, dd, k0, k1, k2, k3, k5, hC, hbm⟩ := T.cls
  refine wpAny_Call_Name_kw (ld_glob I hg hm ?_ hdb)
  refine PySem.W.callWith_K (h₀ := X.base) I.ok.mod.kin T.kC (thn (ha.run pos pins s σ H _ I h) ?_) he hpl
  rintro us s1 ⟨vs, H1, I1, r1, hz, q1⟩
  refine ⟨I1.kIn, ?_⟩
  show wpAny _ _ (call (.ref C) us) _ _ _
  obtain ⟨hp, g, dr, tk, os⟩ := s1
  have hn : H1 (hp.objs.size + 1) = none := I1.hok.fresh (Nat.le_succ _)
  have hq := q1 (hp.objs.size + 1) hn
  generalize hh : (hp.push (PySem.W.kdv_tup us)).push (PySem.HandSPX.excO C hp.objs.size) = h2
  have kk : ∀ b o, hp.get? b = some o → h2.get? b = some o := fun b o z => by
    subst hh
    exact Heap.get?_push_of_some _ (Heap.get?_push_of_some _ z)
  have hget : h2.get? (hp.objs.size + 1) = some (PySem.HandSPX.excO C hp.objs.size) := by
    subst hh
    heap_get
  have I2 : Inv X pins σ (upd H1 (hp.objs.size + 1) (exo (hp.objs.size + 1) C none)) ⟨h2, g, dr, tk, os⟩ := I1.laid (t' := tk) (a := hp.objs.size + 1) (h' := h2) kk (Nat.le_succ _) (exo_ok hget)
  have r2 : Vals (V.ref (hp.objs.size + 1) :: vs) (Value.ref (hp.objs.size + 1) :: us) := .cons rfl r1
  have hl : (Value.ref (hp.objs.size + 1) :: us).length = ps.length := by
    rw [← r2.length]
    exact F1.len _ _ _ _ hq
  have hus : us.length ≤ sizeLine := Nat.le_of_lt (small1000 (by rw [← Paired.length r1]; exact hz))
  have bt := hb ⟨h2, g, dr, tk, os⟩ (Value.ref (hp.objs.size + 1) :: us) I2.kIn (by rw [List.append_nil]; exact hl)
  rw [List.append_nil] at bt
  have run := F1.run (X.A.under (.builtin "type.__call__" ⟨.ref C :: us, []⟩)) X.stack ⟨h2, g, dr, tk, os⟩ _ ⟨Value.ref (hp.objs.size + 1) :: us, []⟩ _ _ _ _ (hr.make C us []) (I2.env0.make C us []) bt r2 hq
  rw [← hh] at run
  refine wpAny_call (PySem.HandSPX.call_own F.excBase_ValueError (fun Y => PySem.HandSPX.refsVE_contains Y bm hbm) (I1.kIn _ _ hC) (PySem.W.looks_findIn I1.kIn iC) (fun self => PySem.W.bind_fn I1.kIn self tI) hus (codeAny_mono run ?_))
  intro r s2 z
  cases r with
  | error er => exact False.elim z
  | ok fl =>
    cases fl with
    | ret u =>
      obtain ⟨v, H2, os2, bare2, un2, hok2, rv, ev, q2⟩ := z
      subst ev
      rw [hh] at un2
      exact ⟨rv, .ref (hp.objs.size + 1), H2, I2.call' (ch := []) os2 un2 hok2 bare2 (fun b y => absurd y (by simp)), rfl, q2⟩
    | next => exact False.elim z
    | brk => exact False.elim z
    | cont => exact False.elim z
/-- C() as a value, C without own __init__ -/
theorem pe_exc0 (T : XCls X.K X.mg x C) (hg : Gl X x) (hdb : (x == ("__debug__" : Str)) = false := by decide) :
    PE X (.Call (.Name x p) [] [] pos) (fun _ H Q => ∀ a, H a = none → Q (.ref a) (upd H a (exo a C none))) := by
  constructor
  intro pins s σ H Q I h
  refine wpAny_Call_Name_kw (ld_glob I hg T.g ?_ hdb)
  obtain ⟨bm, N, nm, qn, bs, hdct, sn, sub, ab, col, dd, k0, k1, k2, k3, k5, mN, hC, hN, hni, TT⟩ := exc_obj I.kIn T.q
  obtain ⟨hp1, g1, d1, tk1, os1⟩ := s
  refine PySem.W.callWith_K0 I.kIn T.k (wpAny_call_exc_subT PySem.F.excBase_ValueError TT hC hN hni (fun h1 a mk => ?_) (Nat.zero_le _))
  have hn : H a = none := I.hok.gone mk.new
  obtain ⟨t, ht, _, _⟩ := mk.there
  exact ⟨.ref a, upd H a (exo a C none), I.laidN (t' := tk1) mk.keeps mk.new hn (exo_ok ht), rfl, h a hn⟩
end
/-- an error at a of the class at C, with its fields -/
def Er (H : Hp) (a C : Addr) (fs : List (Str × V)) : Prop := (fs = [] ∧ H a = some (exo a C none)) ∨ ∃ dx, H a = some (exo a C (some dx)) ∧ H dx = some (exd dx fs)
theorem Er.same {H H1 : Hp} {a C : Addr} {fs : List (Str × V)} (h : Er H a C fs) (s : Same H H1) : Er H1 a C fs := by
  rcases h with ⟨e, h⟩ | ⟨dx, h1, h2⟩
  · exact .inl ⟨e, s _ _ h⟩
  · exact .inr ⟨dx, s _ _ h1, s _ _ h2⟩
theorem Er.inst {X : Cx} {pins : List (Addr × Obj)} {σ : St} {H : Hp} {s : Shared} {a C : Addr} {fs : List (Str × V)} (I : Inv X pins σ H s) (h : Er H a C fs) :
    ∃ ox od, PySem.W.InstAt s.heap a ox C od ∧ ∀ (n : Str) (v : V), fs.lookup n = some v → ∃ o u, od = some o ∧ PySem.W.lookIn n o = some (some u) ∧ RelV v u := by
  rcases h with ⟨rfl, h⟩ | ⟨dx, h1, h2⟩
  · obtain ⟨t1, ho⟩ := exo_at I.hok h
    exact ⟨_, none, ⟨ho, rfl, rfl, trivial⟩, fun n v z => by cases z⟩
  · obtain ⟨t1, ho⟩ := exo_at I.hok h1
    obtain ⟨mA, hns, hr⟩ := exd_at I.hok h2
    obtain ⟨od, hod, hl⟩ := lookIn_ns hns
    refine ⟨_, some od, ⟨ho, rfl, rfl, hod⟩, fun n v z => ?_⟩
    obtain ⟨u, hu, ru⟩ := RelO.some_of (v := v) (o := mA n) (by rw [← z]; exact hr n)
    exact ⟨od, u, rfl, by rw [hl, hu], ru⟩
def rIsX (K : PySem.W.Frag) : List V → Hp → VK → Prop := fun xs H Q => ∃ (a C : Addr) (fs : List (Str × V)) (c : V) (cv : Value) (b : Bool), xs = [.ref a, c] ∧ Er H a C fs ∧ ExcC K C ∧ (∀ u, RelV c u → u = cv) ∧ PySem.W.kitOne K (.ref C) cv = some b ∧ Q (.bl b) H
theorem call_isX {X : Cx} : CallR X (.builtin "isinstance") (rIsX X.K) := by
  intro pins s σ H xs us Q I r h
  obtain ⟨a, C, fs, c, cv, b, rfl, er, T, hcv, e, q⟩ := h
  obtain ⟨u1, u2, rfl, rx, rt⟩ := vals2 r
  obtain rfl : u1 = Value.ref a := rx
  obtain rfl := hcv _ rt
  obtain ⟨ox, od, J, _⟩ := er.inst I
  have hcl : (PySem.W.clsIn X.K C).isSome = true := by
    obtain ⟨cd, hc, _⟩ := PySem.W.any_some T.hd
    rw [hc]
    rfl
  exact PySem.W.kia_one (PySem.W.kitx_exc hcl T.hg T.hk T.hs T.ha T.hn T.ht T.hm) I.kIn J e (fun z => nomatch z) fun tk => ⟨.bl b, H, I.tok tk, rfl, q⟩
def tXv (K : PySem.W.Frag) (n : Str) (te : TE) : TE := fun σ H Q => te σ H fun x H1 => ∃ (a C : Addr) (fs : List (Str × V)) (v : V), x = .ref a ∧ Er H1 a C fs ∧ ExcC K C ∧ PySem.W.findIn K (.ref C) n = some none ∧ fs.lookup n = some v ∧ Q v H1
theorem pe_xv {X : Cx} {e : Expr} {te : TE} {pos : Pos} {n : Str} (he : PE X e te) (hb : attributeBase e n X.env (eval e X.env) = eval e X.env := by rfl) : PE X (.Attribute e n pos) (tXv X.K n te) := by
  constructor
  intro pins s σ H Q I h
  refine attr_of hb (thn (he.run pins s σ H _ I h) ?_)
  rintro u s1 ⟨y, H1, I1, ry, a, C, fs, v, rfl, er, T, hno, l, q⟩
  obtain rfl : u = Value.ref a := ry
  obtain ⟨ox, od, J, fl⟩ := er.inst I1
  obtain ⟨o, w, rfl, ho, rw'⟩ := fl n v l
  exact HandSPX.exc_get I1.kIn J T.hg T.hk T.hs (PySem.W.findObj_own T.hd hno rfl ho) (handed_of rw') ⟨v, H1, I1.tok _, rw', q⟩
end Mb
namespace Mb
open PySem L2
/-! ### a class with its own __init__, as its callers take it -/
structure MkC (P : Program) (w : World) (K : PySem.W.Frag) (mg : Str → Option Value) (base : Heap) (k : Nat) (x : Str) (C : Addr) (sp : Sp) : Prop where
  ex : ∃ fI fd ps, OexC K C ∧ PySem.W.findIn K (.ref C) "__init__" = some (some (.ref fI)) ∧ PySem.W.typeIn K (.ref fI) = some (.type "function") ∧ FnOk P w K mg base CX0 k fI fd ps sp ∧ Binds K fd ps [] ∧ mg x = some (.ref C)
theorem pe_mkv {X : Cx} {k : Nat} {x : Str} {C : Addr} {sp : Sp} {e : Expr} {es : List Expr} {ta : TA} {p pos : Pos} (M : MkC X.prog X.w X.K X.mg X.base k x C sp) (hr : Room (k + 1) X.A) (hg : Gl X x) (ha : PA X (e :: es) ta)
    (hdb : (x == ("__debug__" : Str)) = false := by decide) (he : starEach (e :: es) X.env = (false, eval e X.env) :: starEach es X.env := by rfl) (hpl : (backTo pos (starEach es X.env)).any (·.1) = false := by rfl) :
    PE X (.Call (.Name x p) (e :: es) [] pos) (tMkV C sp ta) := by
  obtain ⟨fI, fd, ps, T, iC, tI, F, b, m⟩ := M.ex
  exact pe_mkO T iC tI F hr b hg m ha hdb he hpl
/-- the __init__ of a class, as it stands -/
structure FnI (K : PySem.W.Frag) (mg : Str → Option Value) (x qual : Str) (C : Addr) (st : Stmt) : Prop where
  ex : ∃ fI fd, FunD K "__init__" qual (defArgs st) (defBody st) (defScope st) [] [] fI fd ∧ OexC K C ∧ PySem.W.findIn K (.ref C) "__init__" = some (some (.ref fI)) ∧ PySem.W.typeIn K (.ref fI) = some (.type "function") ∧ mg x = some (.ref C)
theorem FnI.made {P : Program} {w : World} {K : PySem.W.Frag} {mg : Str → Option Value} {base : Heap} {k : Nat} {x qual : Str} {C : Addr} {st : Stmt} {N ps : List Str} {sp : Sp} (F : FnI K mg x qual C st) (S : FnScope N ps (defScope st)) (len : ∀ vs H Q E, sp vs H Q E → vs.length = ps.length)
    (hbody : ∀ (f : Addr) (cdv : Value) (A : Around) (outer : List Env) (s : Shared) (H : Hp) (vs : List V) (Q : VK) (E : XK), Room k (A.deeper (PyProof.Rows.envOfC qual (defScope st) s.heap.objs.size f cdv)) → sp vs H Q E → OexC K C →
      ∃ t, PSs (cxOf CX0 P w K mg base N qual (defScope st) f cdv A outer s H E).nox (defBody st) t ∧ t { nx := fun _ H' => Q .non H', rt := Q } (start N vs) H)
    (hb : ∀ (kV doc pm : Value) (an : Option Addr) (cdv ct : Value) (us : List Value), us.length = ps.length → bindArgs (PySem.W.fnOf "__init__" qual (defArgs st) (defBody st) (defScope st) .none kV doc pm an cdv ct) ⟨us, []⟩ = pure (ps.zip us)) :
    MkC P w K mg base (k + 1) x C sp := by
  obtain ⟨fI, fd, F, T, iC, tI, m⟩ := F.ex
  refine ⟨fI, fd, ps, T, iC, tI, F.ok S len fun cdv A outer s H vs Q E hr h => ?_, F.bindsN hb, m⟩
  obtain ⟨t, p, q⟩ := hbody fI cdv A outer s H vs Q E hr h T
  exact ⟨t, p.nox, q⟩
/-- __init__(self, v) keeps v as the field f -/
def spInit (C : Addr) (f : Str) (ok : V → Prop) : Sp := fun vs H Q _ => ∃ (a : Addr) (v : V), vs = [.ref a, v] ∧ ok v ∧ H a = some (exo a C none) ∧ ∀ H', But a H H' → Er H' a C [(f, v)] → Q .non H'
/-- __init__(self, l) keeps a new list with the items of l -/
def spInitL (K : PySem.W.Frag) (C : Addr) (f : Str) : Sp := fun vs H Q _ => ∃ (a h : Addr) (zs : List V), vs = [.ref a, .ref h] ∧ SqL K H h zs ∧ H a = some (exo a C none) ∧ ∀ (l : Addr) (H' : Hp), But a H H' → H l = none → l ≠ a → H' l = some (.lst zs) → Er H' a C [(f, .ref l)] → Q .non H'
def okStr (v : V) : Prop := ∃ z : Str, v = .str z ∧ z.length ≤ 1000
def okInt (v : V) : Prop := ∃ i : Int, v = .int i
theorem er_new {H : Hp} {a C dx : Addr} {f : Str} {v : V} (n : H dx = none) (ne : dx ≠ a) : Er (upd (upd H dx (exd dx [(f, v)])) a (exo a C (some dx))) a C [(f, v)] := .inr ⟨dx, upd_same, by rw [upd_ne ne, upd_same]⟩
theorem but_new {H : Hp} {a C dx : Addr} {fs : List (Str × V)} (n : H dx = none) : But a H (upd (upd H dx (exd dx fs)) a (exo a C (some dx))) := fun b o nb h => by
  rw [upd_ne nb, upd_ne (ne_of_none h n)]
  exact h
theorem but_made {H H' : Hp} {a : Addr} {o : HO} (b : But a (upd H a o) H') (n : H a = none) : Same H H' := fun c u h => b c u (ne_of_none h n) (by rw [upd_ne (ne_of_none h n)]; exact h)
/-! ### the nineteen refusals, by number -/
def nms : List Str := ["BadName", "Taken", "NoThing", "WrongSort", "NotFree", "Far", "TooHeavy", "Ring", "Locked", "NoGroup", "NoWatcher", "NoMark", "Rooted", "TooWide", "Hung", "BadText", "Nought", "NoNumber", "NoStep"]
def nm (i : Nat) : Str := nms.getD i ""
structure Cs (K : PySem.W.Frag) (mg : Str → Option Value) (c : Nat → Addr) (B : Addr) : Prop where
  g : ∀ i, i < 19 → mg (nm i) = some (.ref (c i))
  gB : mg "BookError" = some (.ref B)
  ex : ∀ i, i < 19 → ExcC K (c i)
  ki : ∀ i j, i < 19 → j < 19 → PySem.W.kitOne K (.ref (c i)) (.ref (c j)) = some (decide (((j : Nat) : Int) = ((i : Nat) : Int)))
  kB : ∀ i, i < 19 → PySem.W.kitOne K (.ref (c i)) (.ref B) = some true
  kV : ∀ i, i < 19 → PySem.W.kitOne K (.ref (c i)) (.type "ValueError") = some true
def bls (l : List Bool) : List V := l.map V.bl
theorem paired_flat {K : PySem.W.Frag} {H : Hp} : ∀ {xs : List V}, (∀ x ∈ xs, flatB x = true) → Paired (EqV K H 1) xs xs
  | [], _ => .nil
  | x :: xs, h => .cons (.inl ⟨rfl, h x List.mem_cons_self⟩) (paired_flat fun y hy => h y (List.mem_cons_of_mem _ hy))
theorem r_eqFlat {K : PySem.W.Frag} {H : Hp} {Q : VK} {a b : Addr} {xs : List V} (h1 : SqL K H a xs) (h2 : SqL K H b xs) (hf : ∀ x ∈ xs, flatB x = true) (q : Q (.bl true) H) : rEqV K (.ref a) (.ref b) H Q :=
  ⟨1, by decide, .inl ⟨a, b, xs, xs, rfl, rfl, h1, h2, paired_flat hf⟩, q⟩
section
variable {σ : St} {H : Hp} {Q : VK} {D : Ends} {K : PySem.W.Frag}
theorem r_vei {ta : TA} (q : ta σ H fun vs H1 => ∃ (a C : Addr) (ws : List V), vs = .ref a :: ws ∧ ws.length ≤ 1000 ∧ OexC K C ∧ H1 a = some (exo a C none) ∧ Q .non H1) : tVeI K ta σ H Q := q
theorem r_ost {f : Str} {to te : TE} (q : te σ H fun y H1 => to σ H1 fun x H2 => ∃ a C : Addr, x = .ref a ∧ OexC K C ∧ PySem.W.findIn K (.ref C) f = some none ∧
    ((H2 a = some (exo a C none) ∧ ∀ dx, H2 dx = none → dx ≠ a → D.nx σ (upd (upd H2 dx (exd dx [(f, y)])) a (exo a C (some dx)))) ∨ ∃ (dx : Addr) (fs : List (Str × V)), H2 a = some (exo a C (some dx)) ∧ H2 dx = some (exd dx fs) ∧ fs.length ≤ 900 ∧ D.nx σ (upd H2 dx (exd dx ((f, y) :: fs))))) : tOst K f to te D σ H := q
theorem r_js1 {t : TE} {ts : List TE} {acc : Str} {R : Str → Hp → Prop} (q : t σ H fun x H1 => ∃ y : Str, x = .str y ∧ (acc ++ y).length ≤ sizeLine ∧ tJs ts (acc ++ y) σ H1 R) : tJs (t :: ts) acc σ H R := q
theorem r_yes {R : Bool → Hp → Prop} (q : R true H) : tYes σ H R := q
theorem r_bm {T : String} {r : V → List V → Hp → VK → Prop} {to : TE} {t : TA} (q : to σ H fun x H1 => tyV K T x H1 ∧ t σ H1 fun xs H2 => r x xs H2 Q) : tBM K T r to t σ H Q := q
theorem r_forR {ta : TA} {g : TG} {tb : TS} (q : ta σ H fun vs H1 => ∃ j : Int, vs = [.int j] ∧ -(2 ^ 62) ≤ j ∧ j < 2 ^ 62 ∧ ∃ W : Nat → Nat → St → Hp → Prop, (∃ m, W 0 m σ H1) ∧ ∀ i m σ H, W i m σ H →
    ((Itr 0 j.toNat).stop i H ∧ D.nx σ H) ∨ ((Itr 0 j.toNat).go i H ∧ ∃ N : St → Hp → Prop, (∀ σ1 H1, N σ1 H1 → ∃ m1, m1 < m ∧ W (i + 1) m1 σ1 H1) ∧ ∀ x H1, (Itr 0 j.toNat).yld i H x H1 → g x σ H1 fun σ2 H2 => tb { D with nx := N, ct := N, bk := D.nx } σ2 H2)) : tFor (iRng1 ta) g tb D σ H := q
theorem r_js0 {acc : Str} {R : Str → Hp → Prop} (q : R acc H) : tJs [] acc σ H R := q
theorem r_fmt {te : TE} (q : te σ H fun x H1 => (∃ y : Str, x = .str y ∧ y.length ≤ sizeLine ∧ Q (.str y) H1) ∨ ∃ i : Int, x = .int i ∧ i.natAbs.log2 < 1920 ∧ Q (.str (toString i)) H1) : tFmt te σ H Q := q
theorem r_xv {n : Str} {te : TE} (q : te σ H fun x H1 => ∃ (a C : Addr) (fs : List (Str × V)) (v : V), x = .ref a ∧ Er H1 a C fs ∧ ExcC K C ∧ PySem.W.findIn K (.ref C) n = some none ∧ fs.lookup n = some v ∧ Q v H1) : tXv K n te σ H Q := q
theorem r_mkv {C : Addr} {sp : Sp} {ta : TA} (q : ta σ H fun vs H1 => vs.length ≤ 1000 ∧ ∀ a, H1 a = none → sp (.ref a :: vs) (upd H1 a (exo a C none)) (fun v H2 => v = .non ∧ Q (.ref a) H2) (fun _ _ _ => False)) : tMkV C sp ta σ H Q := q
end
theorem cat_len (a b : Str) : (a ++ b).length = a.length + b.length := by
  show (a.cps ++ b.cps).size = a.cps.size + b.cps.size
  exact Array.size_append
theorem at_strK {z : Str} {r : Int} {n : Nat} (hn : z.cps.toList.length = n) (r0 : 0 ≤ r) (r1 : r < n) : ∃ c, atI z.cps.toList r = some c := by
  have hk : r.toNat < z.cps.toList.length := by omega
  refine ⟨z.cps.toList[r.toNat], ?_⟩
  have e : r = ((r.toNat : Nat) : Int) := by omega
  have q : atI z.cps.toList ((r.toNat : Nat) : Int) = some z.cps.toList[r.toNat] := atI_nat (List.getElem?_eq_getElem hk)
  rw [← e] at q
  exact q
/-- a name drawn from the pool, unlike those had -/
def spName (K : PySem.W.Frag) : Sp := fun vs H Q _ => ∃ (p h : Addr) (b : Int) (zs : List Str), vs = [.ref p, .ref h] ∧ Pl H p b ∧ b ≤ 1900000 ∧ SqL K H h (zs.map V.str) ∧ h ≠ p ∧ zs.length ≤ 8 ∧ ∀ (z : Str) (H' : Hp), But p H H' → Pl H' p (b + 30) → z.length ≤ 40 → Q (.str z) H'
/-- an error of the class number w, with a name -/
def spMade (c : Nat → Addr) : Sp := fun vs H Q _ => ∃ (w : Nat) (z : Str), vs = [.int w, .str z] ∧ w < 14 ∧ z.length ≤ 1000 ∧ ∀ (a : Addr) (H' : Hp), Same H H' → Er H' a (c w) [("name", .str z)] → Q (.ref a) H'
/-- it is of its own class, of the base and of ValueError, and of none of the others -/
def spIs (c : Nat → Addr) : Sp := fun vs H Q _ => ∃ (w : Nat) (a : Addr) (fs : List (Str × V)), vs = [.int w, .ref a] ∧ w < 19 ∧ Er H a (c w) fs ∧ ∀ H', Same H H' → Q (.bl true) H'
theorem Er.set {H : Hp} {a C l : Addr} {fs : List (Str × V)} {xs ys : List V} (h : Er H a C fs) (hl : H l = some (.lst xs)) : Er (L2.upd H l (.lst ys)) a C fs := by
  have ne : ∀ {b : Addr} {φ : Heap → Prop}, H b = some (HO.ext φ) → b ≠ l := fun hb z => by
    rw [z, hl] at hb
    cases hb
  rcases h with ⟨e, h⟩ | ⟨dx, h1, h2⟩
  · exact .inl ⟨e, by rw [upd_ne (ne h)]; exact h⟩
  · exact .inr ⟨dx, by rw [upd_ne (ne h1)]; exact h1, by rw [upd_ne (ne h2)]; exact h2⟩
end Mb
namespace Mb
open PySem L2
/-! ### the drawing of rows: a fraction within the bounds, a place -/
/-- a fraction in lowest terms within the bounds of free points -/
structure Fb (t u : Int) : Prop where
  pos : 0 < u
  one : Int.gcd t u = 1
  tb : t.natAbs < 1000000000
  ub : u < 1000000000
def spFracB : Sp := fun vs H Q _ => ∃ (p : Addr) (b : Int), vs = [.ref p] ∧ Pl H p b ∧ b ≤ 1900000 ∧
  ∀ (o : Addr) (t u : Int) (H' : Hp), But p H H' → Pl H' p (b + 10) → H' o = some (.tup [.int t, .int u]) → Fb t u → Q (.ref o) H'
def spPlaceB (K : PySem.W.Frag) : Sp := fun vs H Q _ => ∃ (p : Addr) (b : Int), vs = [.ref p] ∧ Pl H p b ∧ b ≤ 1800000 ∧
  ∀ (o f g : Addr) (t u r s : Int) (H' : Hp), But p H H' → Pl H' p (b + 20) → H' o = some (.tup [.ref f, .ref g]) → SqT K H' f [.int t, .int u] → SqT K H' g [.int r, .int s] → Fb t u → Fb r s → Q (.ref o) H'
theorem fb_low {t b : Int} (hb : 0 < b) (h1 : t.natAbs < 1000000000) (h2 : b < 1000000000) : Fb (lowT t b) (lowB t b) := by
  have hb' : b ≠ 0 := by omega
  have a1 := lowT_le (t := t) hb'
  have a2 := lowB_le (t := t) hb'
  have a3 := lowB_pos (t := t) hb'
  exact ⟨a3, low_gcd hb', by omega, by omega⟩
theorem fb_int {t : Int} (h : t.natAbs < 1000000000) : Fb t 1 := ⟨by decide, by rw [Int.gcd_one], h, by decide⟩
/-! ### the table of the words -/
def wordsTab : List (Str × Str × List Str) := [("free", "point", []), ("middle", "point", ["point", "point"]), ("next", "point", ["point", "point"]), ("turn", "point", ["point", "point"]), ("share", "point", ["point", "point"]), ("foot", "point", ["point", "line"]), ("mirror", "point", ["point", "line"]), ("meet", "point", ["line", "line"]), ("cut", "point", ["curve", "circle"]), ("line", "line", ["point", "point"]), ("along", "line", ["point", "line"]), ("upright", "line", ["point", "line"]), ("circle", "circle", ["point", "point"]), ("inline", "claim", ["point", "point", "point"]), ("round", "claim", ["point", "point", "point", "point"]), ("alike", "claim", ["point", "point", "point", "point"]), ("beside", "claim", ["line", "line"]), ("square", "claim", ["line", "line"])]
/-- what the table at a tells -/
def Wt (K : PySem.W.Frag) (w : World) (a : Addr) : Prop := ∀ (x s : Str) (g : List Str), (x, s, g) ∈ wordsTab → ∃ t u : Addr, KDct K w a x (.ref t) ∧ (∀ H, SqT K H t [.str s, .ref u]) ∧ ∀ H, SqT K H u (g.map V.str)
theorem r_ixT0 {K : PySem.W.Frag} {H : Hp} {Q : VK} {a : Addr} {v : V} {r : List V} (h : SqT K H a (v :: r)) (k : Q v H) : rIxT K (.ref a) (.int 0) H Q := ⟨a, _, 0, _, rfl, rfl, h, by unfold atI ixN; rw [if_pos (by decide), if_pos (by simp only [List.length_cons]; omega)]; rfl, k⟩
def spSort (K : PySem.W.Frag) : Sp := fun vs H Q _ => ∃ (a : Addr) (x s : Str) (g : List Str) (r : List V), vs = [.ref a] ∧ SqT K H a (.str x :: r) ∧ (x, s, g) ∈ wordsTab ∧ Q (.str s) H
def spWanted (K : PySem.W.Frag) : Sp := fun vs H Q _ => ∃ (a : Addr) (x s : Str) (g : List Str) (r : List V), vs = [.ref a] ∧ SqT K H a (.str x :: r) ∧ (x, s, g) ∈ wordsTab ∧ ∀ u : Addr, SqT K H u (g.map V.str) → Q (.ref u) H
/-- the grounds of a making: names behind the word, as many as the table tells, and what follows them -/
def spGrounds (K : PySem.W.Frag) : Sp := fun vs H Q _ => ∃ (a : Addr) (x s : Str) (g ns : List Str) (r : List V), vs = [.ref a] ∧ SqT K H a (.str x :: (ns.map V.str ++ r)) ∧ (x, s, g) ∈ wordsTab ∧ ns.length = g.length ∧ ∀ (l : Addr) (H' : Hp), Same H H' → H l = none → H' l = some (.lst (ns.map V.str)) → Q (.ref l) H'
theorem r_slR {r : V → Option Int → Option Int → Hp → VK → Prop} {te : TE} {tl th : TO} {σ : St} {H : Hp} {Q : VK} (q : te σ H fun x H1 => tl σ H1 fun l H2 => th σ H2 fun u H3 => r x l u H3 Q) : L2.tSl r te tl th σ H Q := q
theorem r_partR {t : TE} {σ : St} {H : Hp} {Q : Option Int → Hp → Prop} (q : t σ H fun x H1 => ∃ i, x = .int i ∧ Q (some i) H1) : L2.tPart t σ H Q := q
theorem cut_names {x : V} {ns r : List V} {n : Int} (h : n = 1 + (ns.length : Int)) : cutV (x :: (ns ++ r)) (some 1) (some n) = ns := by
  subst h
  unfold cutV
  have e1 : HT.sIx (x :: (ns ++ r)).length 0 (some 1) = 1 := by
    have := HT.sIx_nat (x :: (ns ++ r)).length 0 1
    simp only [List.length_cons] at this ⊢
    rw [show (some (1 : Int)) = some (((1 : Nat) : Int)) from rfl, this]
    omega
  have e2 : HT.sIx (x :: (ns ++ r)).length (x :: (ns ++ r)).length (some (1 + (ns.length : Int))) = 1 + ns.length := by
    have := HT.sIx_nat (x :: (ns ++ r)).length (x :: (ns ++ r)).length (1 + ns.length)
    rw [show (some (1 + (ns.length : Int))) = some (((1 + ns.length : Nat) : Int)) by rw [Int.natCast_add]; rfl, this]
    simp only [List.length_cons, List.length_append]
    omega
  rw [e1, e2]
  simp
theorem cut_part {x : V} {ns : List V} {n : Option Int} : ¬ (HT.sIx (x :: ns).length 0 (some 1) = 0 ∧ HT.sIx (x :: ns).length (x :: ns).length n = (x :: ns).length) := by
  rintro ⟨h, _⟩
  have := HT.sIx_nat (x :: ns).length 0 1
  rw [show (some (1 : Int)) = some (((1 : Nat) : Int)) from rfl, this] at h
  simp only [List.length_cons] at h
  omega
/-! ### names -/
def isLw (c : Nat) : Bool := decide (97 ≤ c) && decide (c ≤ 122)
def isLf (c : Nat) : Bool := isLw c || (decide (48 ≤ c) && decide (c ≤ 57))
def gdL : List Nat → Bool
  | [] => false
  | c :: r => isLw c && r.all isLf
/-- a text of small letters and figures, the first a letter -/
def Gd (z : Str) : Prop := gdL z.cps.toList = true
def Sok (z : Str) : Prop := (z.length ≤ 12 ∧ Gd z) ∧ PyData.strOk z = true
theorem gdL_app : ∀ {a b : List Nat}, gdL a = true → b.all isLf = true → gdL (a ++ b) = true
  | c :: r, b, h, hb => by
    obtain ⟨h1, h2⟩ := Bool.and_eq_true_iff.mp (show (isLw c && r.all isLf) = true from h)
    show (isLw c && (r ++ b).all isLf) = true
    rw [List.all_append, h1, h2, hb]
    rfl
theorem gdL_take : ∀ {a : List Nat} {n : Nat}, 0 < n → gdL a = true → gdL (a.take n) = true
  | c :: r, n + 1, _, h => by
    obtain ⟨h1, h2⟩ := Bool.and_eq_true_iff.mp (show (isLw c && r.all isLf) = true from h)
    show (isLw c && (r.take n).all isLf) = true
    rw [h1, Bool.true_and]
    exact List.all_eq_true.mpr fun x hx => List.all_eq_true.mp h2 x (List.mem_of_mem_take hx)
theorem cps_cat (a b : Str) : (a ++ b).cps.toList = a.cps.toList ++ b.cps.toList := by
  show (a.cps ++ b.cps).toList = _
  exact Array.toList_append
theorem Gd.cat {a b : Str} (h : Gd a) (hb : b.cps.toList.all isLf = true) : Gd (a ++ b) := by
  unfold Gd
  rw [cps_cat]
  exact gdL_app h hb
theorem cut9 {z : Str} : (cutS z none (some 9)).cps.toList = z.cps.toList.take 9 := by
  unfold cutS
  have e := HT.sIx_nat z.length z.length 9
  rw [show (some (9 : Int)) = some (((9 : Nat) : Int)) from rfl, e]
  show ((z.cps.toList.drop 0).take (min 9 z.length - 0)) = _
  have e2 : z.length = z.cps.toList.length := Array.length_toList.symm
  rw [List.drop_zero, Nat.sub_zero, ← List.take_take, e2, List.take_length]
theorem Gd.cut9 {z : Str} (h : Gd z) : Gd (cutS z none (some 9)) := by
  unfold Gd
  rw [Mb.cut9]
  exact gdL_take (by decide) h
theorem cut9_len {z : Str} : (cutS z none (some 9)).length ≤ 9 := by
  have h : (cutS z none (some 9)).cps.toList.length ≤ 9 := by
    rw [cut9, List.length_take]
    exact Nat.min_le_left _ _
  rw [Array.length_toList] at h
  exact h
theorem all_one {z : Str} {r : Int} {c : Nat} {f : Nat → Bool} (h : z.cps.toList.all f = true) (hc : atI z.cps.toList r = some c) : f c = true := by
  unfold atI at hc
  obtain ⟨j, _, e⟩ := Option.bind_eq_some_iff.mp hc
  exact List.all_eq_true.mp h c (List.mem_of_getElem? e)
theorem gd1 {r : Int} {c : Nat} (hc : atI ("abcdefghijklmnopqrstuvwxyz" : Str).cps.toList r = some c) : Gd ⟨#[c]⟩ := by
  show (isLw c && true) = true
  rw [all_one (f := isLw) (by decide +kernel) hc]
  rfl
theorem not_Q {z : Str} (h : Gd z) : z ≠ "Q" := fun e => by
  rw [e] at h
  exact absurd (show gdL ("Q" : Str).cps.toList = true from h) (by decide +kernel)
theorem strOk_iff {z : Str} : PyData.strOk z = true ↔ ∀ c ∈ z.cps.toList, c < 0x110000 := by
  unfold PyData.strOk
  rw [Array.all_eq_true']
  constructor
  · intro h c hc
    exact of_decide_eq_true (h c (Array.mem_toList_iff.mp hc))
  · intro h c hc
    exact decide_eq_true (h c (Array.mem_toList_iff.mpr hc))
theorem strOk_cat {a b : Str} (ha : PyData.strOk a = true) (hb : PyData.strOk b = true) : PyData.strOk (a ++ b) = true := by
  rw [strOk_iff] at *
  intro c hc
  have e : (a ++ b).cps.toList = a.cps.toList ++ b.cps.toList := by
    show (a.cps ++ b.cps).toList = _
    exact Array.toList_append
  rw [e] at hc
  exact (List.mem_append.mp hc).elim (ha c) (hb c)
theorem strOk_cut {z : Str} {lo hi : Option Int} (h : PyData.strOk z = true) : PyData.strOk (cutS z lo hi) = true := by
  rw [strOk_iff] at *
  intro c hc
  unfold cutS at hc
  exact h c (List.mem_of_mem_drop (List.mem_of_mem_take hc))
theorem strOk_one {z : Str} {r : Int} {c : Nat} (h : PyData.strOk z = true) (hc : atI z.cps.toList r = some c) : PyData.strOk ⟨#[c]⟩ = true := by
  rw [strOk_iff] at *
  intro d hd
  have : d = c := by simpa using hd
  subst this
  refine h d ?_
  unfold atI at hc
  obtain ⟨j, _, e⟩ := Option.bind_eq_some_iff.mp hc
  exact List.mem_of_getElem? e
theorem inV_str {z : Str} {zs : List Str} : inV (.str z) (zs.map V.str) = decide (z ∈ zs) := by
  unfold inV
  rw [List.any_map]
  induction zs with
  | nil => rfl
  | cons a r ih =>
    rw [List.any_cons, ih]
    show ((a == z) || _) = _
    by_cases h : a = z
    · subst h; simp
    · have : ¬ z = a := fun e => h e.symm
      simp [h, this]
theorem pigeon {f : Nat → Str} : ∀ (n : Nat) (zs : List Str), (∀ i j, i < n → j < n → f i = f j → i = j) → (∀ i, i < n → f i ∈ zs) → n ≤ zs.length
  | 0, _, _, _ => Nat.zero_le _
  | n + 1, zs, inj, h => by
    have h1 := h n (Nat.lt_succ_self n)
    have h2 := pigeon n (zs.erase (f n)) (fun i j hi hj e => inj i j (by omega) (by omega) e) fun i hi => (List.mem_erase_of_ne (fun e => by have := inj i n (by omega) (by omega) e; omega)).mpr (h i (by omega))
    rw [List.length_erase_of_mem h1] at h2
    have := List.length_pos_of_mem h1
    omega
theorem num_figs : ∀ i : Nat, i < 70 → (Str.ofString (toString (0 + (i : Int)))).cps.toList.all isLf = true := by decide +kernel
theorem num_short : ∀ i : Nat, i < 70 → (Str.ofString (toString (0 + (i : Int)))).length ≤ 2 ∧ PyData.strOk (Str.ofString (toString (0 + (i : Int)))) = true ∧ (0 + (i : Int)).natAbs.log2 < 1920 := by decide +kernel
theorem num_apart : ∀ i : Nat, i < 70 → ∀ j : Nat, j < 70 → Str.ofString (toString (0 + (i : Int))) = Str.ofString (toString (0 + (j : Int))) → i = j := by decide +kernel
theorem cat_inj {a b c : Str} (h : a ++ b = a ++ c) : b = c := by
  have e : (a.cps ++ b.cps) = (a.cps ++ c.cps) := congrArg Str.cps h
  have e1 : a.cps.toList ++ b.cps.toList = a.cps.toList ++ c.cps.toList := by rw [← Array.toList_append, ← Array.toList_append, e]
  have e2 := List.append_cancel_left e1
  cases b
  cases c
  simpa using e2
def spNameR (K : PySem.W.Frag) : Sp := fun vs H Q _ => ∃ (p h : Addr) (b : Int) (zs : List Str), vs = [.ref p, .ref h] ∧ Pl H p b ∧ b ≤ 1900000 ∧ SqL K H h (zs.map V.str) ∧ h ≠ p ∧ zs.length ≤ 60 ∧ ∀ (z : Str) (H' : Hp), But p H H' → Pl H' p (b + 30) → Sok z → z ∉ zs → Q (.str z) H'
/-! ### any making -/
def wordsL : List Str := ["free", "middle", "share", "next", "turn", "foot", "mirror", "meet", "cut", "line", "along", "upright", "circle", "inline", "round", "alike", "beside", "square"]
def spAny (K : PySem.W.Frag) : Sp := fun vs H Q _ => ∃ (p : Addr) (b : Int), vs = [.ref p] ∧ Pl H p b ∧ b ≤ 1000000 ∧
  ∀ (o mk l : Addr) (way : Nat) (x s : Str) (g ns : List Str) (r : List V) (H' : Hp), But p H H' → SqT K H' o [.ref mk, .ref l, .int way] → SqT K H' mk (.str x :: (ns.map V.str ++ r)) → H' l = some (.lst (ns.map V.str)) → H l = none → wordsL[way]? = some x → (x, s, g) ∈ wordsTab → ns.length = g.length → (∀ z ∈ ns, Sok z) → Q (.ref o) H'
def rLenK (K : PySem.W.Frag) : List V → Hp → VK → Prop := fun xs H Q => ∃ p ys, xs = [.ref p] ∧ (SqL K H p ys ∨ SqT K H p ys) ∧ Q (.int (ys.length : Int)) H
theorem but_updR {p D : Addr} {H H' : Hp} {o : HO} (h : But p H H') (n : H D = none) : But p H (upd H' D o) := fun b o' ne hb => by
  have : b ≠ D := fun z => by rw [z, n] at hb; cases hb
  rw [upd_ne this]
  exact h b o' ne hb
theorem Pl.ne2 {H : Hp} {p q : Addr} {b : Int} (h : Pl H p b) (n : H q = none) : p ≠ q := fun z => by
  obtain ⟨_, _, _, h1, _⟩ := h
  rw [z, n] at h1
  cases h1
theorem Pl.updR {H : Hp} {p D : Addr} {b : Int} {o : HO} (h : Pl H p b) (n : p ≠ D) : Pl (L2.upd H D o) p b := h.but n (But.upd D H o)
theorem but_free {p D : Addr} {H H' : Hp} {b : Int} (h : But p H H') (hp : Pl H' p b) (n : H' D = none) : H D = none := by
  cases e : H D with
  | none => rfl
  | some o =>
    have ne : D ≠ p := fun z => hp.ne2 n z.symm
    rw [h D o ne e] at n
    cases n
theorem r_cat {K : PySem.W.Frag} {H : Hp} {Q : VK} {a b : Addr} {xs ys : List V} (ha : SqT K H a xs) (hb : SqT K H b ys) (ne : xs ≠ []) (hz : xs.length + ys.length ≤ sizeLine) (q : ∀ (p : Addr) (H' : Hp), Same H H' → SqT K H' p (xs ++ ys) → Q (.ref p) H') : rCatT K (.ref a) (.ref b) H Q := by
  refine ⟨a, b, xs, ys, rfl, rfl, ha, hb, ne, hz, fun h => ?_, fun _ p hp => ?_⟩
  · subst h
    exact q a H (Same.refl H) (by rw [List.append_nil]; exact ha)
  · exact q p _ (same_new hp _) (tupOf upd_same)
theorem r_then {ta : TE} {k : V → Hp → VK → Prop} {σ : St} {H : Hp} {Q : VK} (q : ta σ H fun x H1 => k x H1 Q) : tThen ta k σ H Q := q
theorem r_tupL {K : PySem.W.Frag} {H : Hp} {Q : VK} {a : Addr} {xs : List V} (h : SqL K H a xs) (q : ∀ (p : Addr) (H' : Hp), Same H H' → SqT K H' p xs → Q (.ref p) H') : kTup K (.ref a) H Q := .inl ⟨a, xs, rfl, h, fun p hp => q p _ (same_new hp _) (tupOf upd_same)⟩
theorem ways : ∀ way : Nat, way < 18 → ∃ (x s : Str) (g : List Str), atI (wordsL.map V.str) (way : Int) = some (.str x) ∧ wordsL[way]? = some x ∧ (x, s, g) ∈ wordsTab := by
  intro way h
  have : way = 0 ∨ way = 1 ∨ way = 2 ∨ way = 3 ∨ way = 4 ∨ way = 5 ∨ way = 6 ∨ way = 7 ∨ way = 8 ∨ way = 9 ∨ way = 10 ∨ way = 11 ∨ way = 12 ∨ way = 13 ∨ way = 14 ∨ way = 15 ∨ way = 16 ∨ way = 17 := by omega
  rcases this with rfl | rfl | rfl | rfl | rfl | rfl | rfl | rfl | rfl | rfl | rfl | rfl | rfl | rfl | rfl | rfl | rfl | rfl
  · exact ⟨"free", "point", [], rfl, rfl, by decide +kernel⟩
  · exact ⟨"middle", "point", ["point", "point"], rfl, rfl, by decide +kernel⟩
  · exact ⟨"share", "point", ["point", "point"], rfl, rfl, by decide +kernel⟩
  · exact ⟨"next", "point", ["point", "point"], rfl, rfl, by decide +kernel⟩
  · exact ⟨"turn", "point", ["point", "point"], rfl, rfl, by decide +kernel⟩
  · exact ⟨"foot", "point", ["point", "line"], rfl, rfl, by decide +kernel⟩
  · exact ⟨"mirror", "point", ["point", "line"], rfl, rfl, by decide +kernel⟩
  · exact ⟨"meet", "point", ["line", "line"], rfl, rfl, by decide +kernel⟩
  · exact ⟨"cut", "point", ["curve", "circle"], rfl, rfl, by decide +kernel⟩
  · exact ⟨"line", "line", ["point", "point"], rfl, rfl, by decide +kernel⟩
  · exact ⟨"along", "line", ["point", "line"], rfl, rfl, by decide +kernel⟩
  · exact ⟨"upright", "line", ["point", "line"], rfl, rfl, by decide +kernel⟩
  · exact ⟨"circle", "circle", ["point", "point"], rfl, rfl, by decide +kernel⟩
  · exact ⟨"inline", "claim", ["point", "point", "point"], rfl, rfl, by decide +kernel⟩
  · exact ⟨"round", "claim", ["point", "point", "point", "point"], rfl, rfl, by decide +kernel⟩
  · exact ⟨"alike", "claim", ["point", "point", "point", "point"], rfl, rfl, by decide +kernel⟩
  · exact ⟨"beside", "claim", ["line", "line"], rfl, rfl, by decide +kernel⟩
  · exact ⟨"square", "claim", ["line", "line"], rfl, rfl, by decide +kernel⟩
theorem many_of {x s : Str} {g : List Str} (h : (x, s, g) ∈ wordsTab) : (x = "free" → g.length = 0) ∧ (x = "inline" → g.length = 3) ∧ (x = "round" ∨ x = "alike" → g.length = 4) ∧ (x ≠ "free" → x ≠ "inline" → ¬ (x = "round" ∨ x = "alike") → g.length = 2) := by
  have all : ∀ q ∈ wordsTab, (q.1 = "free" → q.2.2.length = 0) ∧ (q.1 = "inline" → q.2.2.length = 3) ∧ (q.1 = "round" ∨ q.1 = "alike" → q.2.2.length = 4) ∧ (q.1 ≠ "free" → q.1 ≠ "inline" → ¬ (q.1 = "round" ∨ q.1 = "alike") → q.2.2.length = 2) := by decide +kernel
  exact all (x, s, g) h
theorem sz4 {n : Nat} (h : n ≤ 64) : n ≤ sizeLine := Nat.le_trans h (by decide)
theorem at_str {zs : List Str} {j : Nat} (hj : j < zs.length) : atI (zs.map V.str) (j : Int) = some (.str zs[j]) := by
  unfold atI ixN
  rw [if_pos (Int.natCast_nonneg j), if_pos (by rw [List.length_map]; omega), Int.toNat_natCast]
  simp [hj]
def dueOf (way : Nat) : Str := if 12 < way then "claim" else if way = 12 then "circle" else if 8 < way then "line" else "point"
theorem due_of {way : Nat} {x s : Str} {g : List Str} (h : wordsL[way]? = some x) (t : (x, s, g) ∈ wordsTab) : s = dueOf way := by
  have hw : way < 18 := by
    have := List.getElem?_eq_some_iff.mp h
    obtain ⟨h1, _⟩ := this
    exact h1
  have all : ∀ way : Nat, way < 18 → ∀ q ∈ wordsTab, wordsL[way]? = some q.1 → q.2.1 = dueOf way := by decide +kernel
  exact all way hw (x, s, g) t h
theorem same_updS {D : Addr} {H H' : Hp} {o : HO} (h : Same H H') (n : H D = none) : Same H (upd H' D o) := fun b o' hb => by
  have : b ≠ D := fun z => by rw [z, n] at hb; cases hb
  rw [upd_ne this]
  exact h b o' hb
theorem dpAll_strs {K : PySem.W.Frag} {H : Hp} : ∀ (ns : List Str), DpAll K H (ns.map V.str) (ns.map PyData.str)
  | [] => .nil
  | n :: r => .cons (.str n) (dpAll_strs r)
theorem dp_strs {K : PySem.W.Frag} {H : Hp} {a : Addr} {ns : List Str} (h : SqL K H a (ns.map V.str)) : Dp K H (.ref a) (.list (ns.map PyData.str)) := .lst h (dpAll_strs ns)
theorem lay_strs : ∀ ns : List Str, (∀ z ∈ ns, PyData.strOk z = true) → PyData.canLayAll0 (ns.map PyData.str) = true ∧ PyData.depthAll (ns.map PyData.str) ≤ 1
  | [], _ => ⟨rfl, by decide⟩
  | n :: r, h => by
    obtain ⟨h1, h2⟩ := lay_strs r fun z hz => h z (List.mem_cons_of_mem _ hz)
    have h3 := h n List.mem_cons_self
    rw [List.map_cons]
    refine ⟨?_, ?_⟩
    · unfold PyData.canLayAll0 PyData.canLay0
      rw [h3, h1]
      rfl
    · unfold PyData.depthAll PyData.depth
      omega
theorem lay_list {ns : List Str} (h : ∀ z ∈ ns, PyData.strOk z = true) : PyData.canLay0 (.list (ns.map PyData.str)) = true := by
  unfold PyData.canLay0
  exact (lay_strs ns h).1
theorem sh_strs {ns : List Str} (h : ∀ z ∈ ns, PyData.strOk z = true) : SeqAt.shaped (.list (ns.map PyData.str)) = true := by
  have h2 : PyData.depth (.list (ns.map PyData.str)) ≤ 64 := by
    unfold PyData.depth
    have := (lay_strs ns h).2
    omega
  unfold SeqAt.shaped
  rw [lay_list h, decide_eq_true h2]
  rfl
theorem r_eqSt {K : PySem.W.Frag} {H : Hp} {Q : VK} {a b : Addr} {ns : List Str} (h1 : SqL K H a (ns.map V.str)) (h2 : SqL K H b (ns.map V.str)) (ok : ∀ z ∈ ns, PyData.strOk z = true) (k : Q (.bl true) H) : rEqD K (.ref a) (.ref b) H Q := by
  refine ⟨_, _, dp_strs h1, dp_strs h2, sh_strs ok, sh_strs ok, ?_⟩
  rw [SeqAt.eqv_refl _ (lay_list ok)]
  exact k
theorem r_neSt {K : PySem.W.Frag} {H : Hp} {Q : VK} {a b : Addr} {ns : List Str} (h1 : SqL K H a (ns.map V.str)) (h2 : SqL K H b (ns.map V.str)) (ok : ∀ z ∈ ns, PyData.strOk z = true) (k : Q (.bl false) H) : rNeD K (.ref a) (.ref b) H Q := by
  refine ⟨_, _, dp_strs h1, dp_strs h2, sh_strs ok, sh_strs ok, ?_⟩
  rw [SeqAt.eqv_refl _ (lay_list ok)]
  exact k
theorem r_gT {K : PySem.W.Frag} {σ : St} {H : Hp} {Q : St → Hp → Prop} {t : TGs} {a : Addr} {xs : List V} {n : Nat} (h : SqT K H a xs) (l : xs.length = n) (q : t xs σ H Q) : gTup K n t (.ref a) σ H Q := ⟨a, xs, rfl, h, l, q⟩
theorem r_g3 {i j k : Nat} {u v w : V} {σ : St} {H : Hp} {Q : St → Hp → Prop} (q : Q (((σ.set i (some u)).set j (some v)).set k (some w)) H) : gCons (gName i) (gCons (gName j) (gCons (gName k) gNil)) [u, v, w] σ H Q := ⟨u, _, rfl, v, _, rfl, w, _, rfl, rfl, q⟩
theorem r_g2 {i j : Nat} {u v : V} {σ : St} {H : Hp} {Q : St → Hp → Prop} (q : Q ((σ.set i (some u)).set j (some v)) H) : gCons (gName i) (gCons (gName j) gNil) [u, v] σ H Q := ⟨u, _, rfl, v, _, rfl, rfl, q⟩
theorem few {x s : Str} {g : List Str} (h : (x, s, g) ∈ wordsTab) : g.length < 64 := by
  have all : ∀ q ∈ wordsTab, q.2.2.length < 64 := by decide +kernel
  exact all _ h
theorem r_neE {H : Hp} {Q : VK} {w w' : Str} (e : w = w') (k : Q (.bl false) H) : rNe (.str w) (.str w') H Q := ⟨rfl, by subst e; simpa using k⟩
theorem r_neX {H : Hp} {Q : VK} {w w' : Str} (k : Q (.bl (!decide (w = w'))) H) : rNe (.str w) (.str w') H Q := ⟨rfl, by rw [show decide (V.str w = V.str w') = decide (w = w') from by simp]; exact k⟩
end Mb
namespace Mb
open PySem L2
/-! ### the head's facts with a table of text keys -/
def obsWG (n : Nat) (fa : List He.Fa) (fn : List He.DefD) (ts : List He.Tab) (xb : PySem.W.Frag → Bool) (g : Addr → Option Obj) : He.AlT × Bool := (He.obsT fa fn ts (He.frG g (He.asD g n ++ [cStatics])), xb (He.frG g (He.asD g n ++ [cStatics])))
def hookW (n : Nat) (fa : List He.Fa) (fn : List He.DefD) (ts : List He.Tab) (xb : PySem.W.Frag → Bool) : PySem.W.Hook where
  α := He.AlT × Bool
  obs := fun s => obsWG n fa fn ts xb s.heap.get?
  val := fun w => (He.valT fn ts w, true)
  says := fun w h => ∃ K : PySem.W.Frag, K.In h ∧ He.SaysT fa fn ts w K ∧ xb K = true
  of := fun _ _ e => ⟨_, He.frG_in, congrArg Prod.fst e, congrArg Prod.snd e⟩
  keeps := fun _ _ _ ⟨K, hK, c⟩ k => ⟨K, PySem.W.Frag.In.keeps hK k, c⟩
theorem obsWG_eq {n : Nat} {fa : List He.Fa} {fn : List He.DefD} {ts : List He.Tab} {xb : PySem.W.Frag → Bool} {g : Addr → Option Obj} {s : Shared} (h : ∀ a, g a = s.heap.get? a) : obsWG n fa fn ts xb g = (hookW n fa fn ts xb).obs s := by
  have e : g = s.heap.get? := funext h
  subst e
  rfl
def tupV (K : PySem.W.Frag) (t : Addr) (vs : List V) : Bool := match K.lookup t with
  | some ⟨.type c, _, .seq its _, _⟩ => decide (c = "tuple") && (decide (its.size ≤ sizeLine) && He.relAll vs its.toList)
  | _ => false
theorem tupV_ok {K : PySem.W.Frag} {t : Addr} {vs : List V} (h : tupV K t vs = true) (H : Hp) : SqT K H t vs := by
  unfold tupV at h
  cases q : K.lookup t with
  | none =>
    rw [q] at h
    cases h
  | some o =>
    obtain ⟨oc, od, dt, osl⟩ := o
    rw [q] at h
    cases oc with
    | type c =>
      cases dt with
      | seq its n =>
        obtain ⟨h1, h2⟩ := He.ba (show (decide (c = "tuple") && (decide (its.size ≤ sizeLine) && He.relAll vs its.toList)) = true from h)
        obtain ⟨h3, h4⟩ := He.ba h2
        exact .inr ⟨_, its, n, q, congrArg Value.type (of_decide_eq_true h1), rfl, of_decide_eq_true h3, He.relAll_ok h4⟩
      | _ => cases h
    | _ => cases dt <;> cases h
def refAt (K : PySem.W.Frag) (a : Addr) (x : Str) : Addr := match PySem.W.nsIn K a x with
  | some (some (.ref t)) => t
  | _ => 0
def sndOf (K : PySem.W.Frag) (t : Addr) : Addr := match K.lookup t with
  | some ⟨_, _, .seq its _, _⟩ => (match its.getD 1 .none with
    | .ref u => u
    | _ => 0)
  | _ => 0
def wtB (K : PySem.W.Frag) (a : Addr) : Bool := wordsTab.all fun q => He.eqO (PySem.W.nsIn K a q.1) (some (some (.ref (refAt K a q.1)))) && (tupV K (refAt K a q.1) [.str q.2.1, .ref (sndOf K (refAt K a q.1))] && tupV K (sndOf K (refAt K a q.1)) (q.2.2.map V.str))
theorem wt_of {K : PySem.W.Frag} {w : World} {a : Addr} (h : wtB K a = true) (d : ∃ es n, KDict K w a es n) : Wt K w a := by
  intro x s g hx
  obtain ⟨h1, h2⟩ := He.ba (List.all_eq_true.mp h _ hx)
  obtain ⟨h3, h4⟩ := He.ba h2
  obtain ⟨es, n, D⟩ := d
  exact ⟨refAt K a x, sndOf K (refAt K a x), ⟨es, n, _, D.at_, D.lit, He.eqO_ok h1, rfl⟩, fun H => tupV_ok h3 H, fun H => tupV_ok h4 H⟩
def wordsKeys : List Str := wordsTab.map (·.1)
def wordsTs : List He.Tab := [(fun K => He.ga K "WORDS", wordsKeys)]
/-- a world with what it says of one row of the text written out -/
def wB (b : Bool) (w : World) : World := { w with params := { w.params with followText := fun s => bif s == "special-get-raises" then b else w.params.followText s } }
theorem wB_eq (w : World) : wB (w.params.followText "special-get-raises") w = w := by
  obtain ⟨d, p⟩ := w
  obtain ⟨p1, p2, p3, p4, p5, p6, p7⟩ := p
  have e : (fun s => bif s == "special-get-raises" then p6 "special-get-raises" else p6 s) = p6 := by
    funext s
    cases h : (s == "special-get-raises") with
    | true =>
      rw [beq_iff_eq.mp h]
      rfl
    | false => rfl
  unfold wB
  dsimp only
  rw [e]
end Mb
namespace Mb
open PySem PySem.Spec PyProof.Rows L2
/-! ### list(d.values()) -/
def rValsL : V → Hp → VK → Prop := fun x H Q => ∃ (d : Addr) (kvs : List (Key × V)), x = .ref d ∧ H d = some (.dK kvs) ∧ ∀ p, H p = none → Q (.ref p) (upd H p (.lst (kvs.map (·.2))))
def tListVals (te : TE) : TE := fun σ H Q => te σ H fun x H1 => rValsL x H1 Q
section
variable {X : Cx} {e : Expr} {te : TE} {p apos cpos pos : Pos}
theorem pe_listVals (hc : X.calm = true) (he : PE X e te) (hg : Gl X "list") (hm : X.mg "list" = none) (hv : bootBuiltins "list" = some (.type "list")) (hbase : attributeBase e "values" X.env (eval e X.env) = eval e X.env := by rfl) (hline : (apos.endLine == cpos.line) = true := by rfl)
    (hs : starEach [.Call (.Attribute e "values" apos) [] [] cpos] X.env = (false, eval (.Call (.Attribute e "values" apos) [] [] cpos) X.env) :: starEach [] X.env := by rfl) :
    PE X (.Call (.Name "list" p) [.Call (.Attribute e "values" apos) [] [] cpos] [] pos) (tListVals te) := by
  refine ⟨fun pins s σ H Q I hq => ?_⟩
  refine wpAny_Call_Name_kw (ld_blt I hg hm hv ?_)
  refine PyProof.Rows.callWith_type1 ?_ hs rfl
  rw [hs]
  show wpAny _ _ (spliced ((false, eval (.Call (.Attribute e "values" apos) [] [] cpos) X.env) :: backTo pos (starEach [] X.env))) _ _ s
  refine Calls.spliced_cons ?_
  refine wpAny_Call_method (T := "dict") (id := "dict.values") hbase rfl hline F.plainAttrs_dict F.slot_dict_values F.type_dict_values (thn (he.run pins s σ H _ I hq) fun u s1 ⟨x, H1, I1, rx, d, kvs, ex, hd, q⟩ => ?_)
  subst ex
  obtain rfl : u = Value.ref d := rx
  obtain ⟨hz, hs0, vs, kv, hdo⟩ := I1.hok d _ hd
  obtain ⟨ep, hat⟩ := hdo.dictAt
  have lk : kvs.length = vs.length := Paired.length kv
  have I2 : Inv X pins σ H1 { s1 with heap := s1.heap.push { cls := .type "dict_values", data := .fields #[.ref d] } } := I1.kept (t' := s1.toks) fun b ob q => Heap.get?_push_of_some _ q
  refine ⟨hdo.typeIs, hdo.mapOf.noDict, ?_⟩
  show wpAny _ _ (callWith cpos (.builtin "dict.values") [.ref d] [] []) _ X.xe s1
  refine method_meetsIn F.slot_dict_values F.entry_dict_values rfl (PySem.evalArgs_none ⟨rfl, hdo.typeIs, F.args_dict_values_1 _, _, meets_dict_values (mixKind X.prog X.w) d hs0, ⟨vs, hdo⟩, ?_⟩)
  refine Calls.spliced_nil ?_
  refine PySem.W.kdl_call (PySem.W.kdl_values (knd := mixKind X.prog X.w) (d := d) (kvs := vs) (ep := ep)) (I1.ok.hd hc) ⟨⟨_, Heap.get?_push_size _ rfl, rfl, rfl⟩, hat.push _⟩ (by rw [← lk]; exact hz) fun h' tk acc' c' hkeep hS hacc => ?_
  refine ⟨.ref _, upd H1 _ (.lst (kvs.map (·.2))), I2.laid hkeep (Nat.le_refl _) (show ObjOk X.prog X.w _ _ _ (.lst (kvs.map (·.2))) from ⟨?_, acc'.toList, c', ?_, ?_⟩), rfl, q _ (I2.hok.fresh (Nat.le_refl _))⟩
  · rw [List.length_map]; exact hz
  · have el : acc'.toList.length = acc'.size := by simp
    refine vals_of_at (by rw [List.length_map, el, hacc.1, lk]) fun j x w h1 h2 => ?_
    obtain ⟨k, hky⟩ := hacc.2 j w (by rw [← Array.getElem?_toList]; exact h2)
    obtain ⟨pk, g1, g2⟩ : ∃ pk, kvs[j]? = some pk ∧ x = pk.2 := by
      rw [List.getElem?_map] at h1
      cases hj : kvs[j]? with
      | none => rw [hj] at h1; cases h1
      | some pk =>
        rw [hj] at h1
        exact ⟨pk, rfl, (Option.some.inj h1).symm⟩
    obtain ⟨qv, f1, f2, f3⟩ := LiI.paired_get kv g1
    rw [hky] at f1
    cases f1
    rw [g2]
    exact f3
  · rw [Array.toArray_toList]; exact hS
theorem r_lv {te : TE} {σ : L2.St} {H : Hp} {Q : VK} (q : te σ H fun x H1 => rValsL x H1 Q) : tListVals te σ H Q := q
end
end Mb
namespace Mb
open PySem L2
/-! ### rows: things by name, sort, weight; dicts of them -/
theorem u1 {n : Nat} (h : n + 64 < cLine) : n + 1 < cLine := by omega
/-- what is known of the things so far: name, sort, weight -/
abbrev Env : Type := List (Str × Str × Int)
def sortsD (L : Env) : List (Key × V) := L.map fun e => (.inr e.1, .str e.2.1)
def loadsD (L : Env) : List (Key × V) := L.map fun e => (.inr e.1, .int e.2.2)
def nmsE (L : Env) : List Str := L.map (·.1)
def srtE (L : Env) (z : Str) : Str := ((L.find? fun e => decide (e.1 = z)).map (·.2.1)).getD ""
def wtE (L : Env) (z : Str) : Int := ((L.find? fun e => decide (e.1 = z)).map (·.2.2)).getD 0
theorem find_in {L : Env} {z : Str} (h : z ∈ nmsE L) : ∃ e, e ∈ L ∧ L.find? (fun e => decide (e.1 = z)) = some e := by
  induction L with
  | nil => simp [nmsE] at h
  | cons a r ih =>
    by_cases c : a.1 = z
    · exact ⟨a, List.mem_cons_self, by rw [List.find?_cons]; simp [c]⟩
    · have h2 : z ∈ nmsE r := by
        simp only [nmsE, List.map_cons, List.mem_cons] at h
        rcases h with h | h
        · exact absurd h.symm c
        · exact h
      obtain ⟨e, he, hf⟩ := ih h2
      exact ⟨e, List.mem_cons_of_mem _ he, by rw [List.find?_cons]; simp [c, hf]⟩
theorem val_map {L : Env} {z : Str} {f : Str × Str × Int → V} : valV (L.map fun e => ((.inr e.1 : Key), f e)) (.inr z) = (L.find? fun e => decide (e.1 = z)).map f := by
  unfold valV
  induction L with
  | nil => rfl
  | cons a r ih =>
    rw [List.map_cons, List.find?_cons, List.find?_cons]
    by_cases c : a.1 = z
    · simp [c]
    · have : ¬ ((.inr a.1 : Key) = .inr z) := fun h => c (Sum.inr.inj h)
      simp only [c, this, decide_false]
      exact ih
theorem get_sort {H : Hp} {S : Addr} {L : Env} {z : Str} (h : H S = some (.dK (sortsD L))) (hz : z ∈ nmsE L) : DGet H S (.str z) (some (.str (srtE L z))) := by
  obtain ⟨e, _, hf⟩ := find_in hz
  have := DGet.k (k := .inr z) h
  unfold sortsD at this
  rw [val_map (f := fun e => V.str e.2.1), hf] at this
  unfold srtE
  rw [hf]
  exact this
theorem get_load {H : Hp} {W : Addr} {L : Env} {z : Str} (h : H W = some (.dK (loadsD L))) (hz : z ∈ nmsE L) : DGet H W (.str z) (some (.int (wtE L z))) := by
  obtain ⟨e, _, hf⟩ := find_in hz
  have := DGet.k (k := .inr z) h
  unfold loadsD at this
  rw [val_map (f := fun e => V.int e.2.2), hf] at this
  unfold wtE
  rw [hf]
  exact this
theorem put_new {L : Env} {z : Str} {f : Str × Str × Int → V} {v : V} {e : Str × Str × Int} (h : z ∉ nmsE L) (he : e.1 = z) (hv : f e = v) : putK (L.map fun e => ((.inr e.1 : Key), f e)) (.inr z) v = (L ++ [e]).map fun e => ((.inr e.1 : Key), f e) := by
  unfold putK
  rw [if_neg]
  · rw [List.map_append, List.map_cons, List.map_nil, he, hv]
  · intro c
    obtain ⟨kv, hk, hd⟩ := List.any_eq_true.mp c
    obtain ⟨a, ha, rfl⟩ := List.mem_map.mp hk
    have e : a.1 = z := Sum.inr.inj (of_decide_eq_true hd)
    exact h (e ▸ List.mem_map.mpr ⟨a, ha, rfl⟩)
/-- bounds of the weights -/
def Light (L : Env) : Prop := ∀ e ∈ L, 0 ≤ e.2.2 ∧ e.2.2 ≤ 40
theorem Light.wt {L : Env} (h : Light L) (z : Str) : 0 ≤ wtE L z ∧ wtE L z ≤ 40 := by
  unfold wtE
  cases c : L.find? fun e => decide (e.1 = z) with
  | none => exact ⟨by decide, by decide⟩
  | some e => exact h e (List.mem_of_find?_eq_some c)
def wOf (x : Str) (ns : List Str) (L : Env) : Int :=
  if x = "free" then 1 else if x = "foot" ∨ x = "mirror" then wtE L (ns.getD 0 "") + 2 * wtE L (ns.getD 1 "") else
  if x = "cut" then (if srtE L (ns.getD 0 "") = "circle" then 5 * (wtE L (ns.getD 0 "") + wtE L (ns.getD 1 "")) else 2 * wtE L (ns.getD 0 "") + wtE L (ns.getD 1 "")) else
  if x = "round" ∨ x = "alike" then 2 * (ns.map (wtE L)).sum else (ns.map (wtE L)).sum
/-! ### tuples stay -/
def Kp (K : PySem.W.Frag) (H H' : Hp) : Prop := ∀ a xs, SqT K H a xs → SqT K H' a xs
theorem Kp.refl (K : PySem.W.Frag) (H : Hp) : Kp K H H := fun _ _ h => h
theorem Kp.trans {K : PySem.W.Frag} {H H1 H2 : Hp} (a : Kp K H H1) (b : Kp K H1 H2) : Kp K H H2 := fun x xs h => b x xs (a x xs h)
theorem Kp.same {K : PySem.W.Frag} {H H' : Hp} (s : Same H H') : Kp K H H' := fun _ _ h => s.tp h
theorem Kp.but {K : PySem.W.Frag} {H H' : Hp} {p : Addr} {b : Int} (s : But p H H') (h : Pl H p b) : Kp K H H' := fun _ _ t => h.tup s t
theorem kp_set {K : PySem.W.Frag} {H : Hp} {p : Addr} {o o' : HO} (h : H p = some o) (n1 : ∀ xs, o ≠ .tup xs) (n2 : ∀ u v, o ≠ .frz u v) : Kp K H (upd H p o') := fun a xs t => by
  rcases t with (t | ⟨u, t⟩) | t
  · refine .inl (.inl ?_)
    rw [upd_ne (fun z => by rw [z, h] at t; exact n1 _ (Option.some.inj t))]
    exact t
  · refine .inl (.inr ⟨u, ?_⟩)
    rw [upd_ne (fun z => by rw [z, h] at t; exact n2 _ _ (Option.some.inj t))]
    exact t
  · exact .inr t
theorem kp_list {K : PySem.W.Frag} {H : Hp} {p : Addr} {xs : List V} {o' : HO} (h : H p = some (.lst xs)) : Kp K H (upd H p o') := kp_set h (fun _ z => by cases z) (fun _ _ z => by cases z)
theorem kp_dict {K : PySem.W.Frag} {H : Hp} {p : Addr} {kvs : List (Key × V)} {o' : HO} (h : H p = some (.dK kvs)) : Kp K H (upd H p o') := kp_set h (fun _ z => by cases z) (fun _ _ z => by cases z)
/-! ### makings, things, rows -/
/-- what follows the names of a making -/
def Tl (K : PySem.W.Frag) (H : Hp) (x : Str) (r : List V) : Prop :=
  (x = "free" ∧ ∃ (f g : Addr) (t u t' u' : Int), r = [.ref f, .ref g] ∧ SqT K H f [.int t, .int u] ∧ SqT K H g [.int t', .int u']) ∨
  (x = "share" ∧ ∃ (f : Addr) (t u : Int), r = [.ref f] ∧ SqT K H f [.int t, .int u]) ∨ (x = "cut" ∧ ∃ n : Int, r = [.int n]) ∨ (x ≠ "free" ∧ x ≠ "share" ∧ x ≠ "cut" ∧ r = [])
def Mk (K : PySem.W.Frag) (H : Hp) (m : Addr) (x : Str) (ns : List Str) : Prop := ∃ r : List V, SqT K H m (.str x :: (ns.map V.str ++ r)) ∧ Tl K H x r
abbrev Thing : Type := Str × Str × List Str
def Th (K : PySem.W.Frag) (H : Hp) (v : V) (t : Thing) : Prop := ∃ a m : Addr, v = .ref a ∧ SqT K H a [.str t.1, .ref m] ∧ Mk K H m t.2.1 t.2.2
theorem Tl.kp {K : PySem.W.Frag} {H H' : Hp} {x : Str} {r : List V} (h : Tl K H x r) (k : Kp K H H') : Tl K H' x r := by
  rcases h with ⟨e, f, g, t, u, t', u', er, h1, h2⟩ | ⟨e, f, t, u, er, h1⟩ | h | h
  · exact .inl ⟨e, f, g, t, u, t', u', er, k _ _ h1, k _ _ h2⟩
  · exact .inr (.inl ⟨e, f, t, u, er, k _ _ h1⟩)
  · exact .inr (.inr (.inl h))
  · exact .inr (.inr (.inr h))
theorem Mk.kp {K : PySem.W.Frag} {H H' : Hp} {m : Addr} {x : Str} {ns : List Str} (h : Mk K H m x ns) (k : Kp K H H') : Mk K H' m x ns := by
  obtain ⟨r, h1, h2⟩ := h
  exact ⟨r, k _ _ h1, h2.kp k⟩
theorem Th.kp {K : PySem.W.Frag} {H H' : Hp} {v : V} {t : Thing} (h : Th K H v t) (k : Kp K H H') : Th K H' v t := by
  obtain ⟨a, m, e, h1, h2⟩ := h
  exact ⟨a, m, e, k _ _ h1, h2.kp k⟩
def Rws (K : PySem.W.Frag) (H : Hp) (vs : List V) (ts : List Thing) : Prop := Paired (Th K H) vs ts
theorem Rws.kp {K : PySem.W.Frag} {H H' : Hp} (k : Kp K H H') : ∀ {vs : List V} {ts : List Thing}, Rws K H vs ts → Rws K H' vs ts
  | _, _, .nil => .nil
  | _, _, .cons h t => .cons (h.kp k) (Rws.kp k t)
/-- the word is one of the table, with so many names; they are of the things so far -/
def Okm (x : Str) (ns : List Str) (L : Env) : Prop := (∃ (s : Str) (g : List Str), (x, s, g) ∈ wordsTab ∧ ns.length = g.length) ∧ ∀ z ∈ ns, z ∈ nmsE L ∧ Sok z
def sOf (x : Str) : Str := ((wordsTab.find? fun q => decide (q.1 = x)).map (·.2.1)).getD ""
theorem sOf_eq {x s : Str} {g : List Str} (h : (x, s, g) ∈ wordsTab) : sOf x = s := by
  have all : ∀ q ∈ wordsTab, sOf q.1 = q.2.1 := by decide +kernel
  exact all _ h
def envStep (L : Env) (t : Thing) : Env := L ++ [(t.1, sOf t.2.1, wOf t.2.1 t.2.2 L)]
def envOf : Env → List Thing → Env
  | L, [] => L
  | L, t :: r => envOf (envStep L t) r
def Vr : Env → List Thing → Prop
  | _, [] => True
  | L, t :: r => (t.1 ∉ nmsE L ∧ Sok t.1 ∧ Okm t.2.1 t.2.2 L ∧ 0 ≤ wOf t.2.1 t.2.2 L ∧ wOf t.2.1 t.2.2 L ≤ 40) ∧ Vr (envStep L t) r
/-- the two dicts of the things so far -/
structure Dc (H : Hp) (S W : Addr) (L : Env) : Prop where
  s : H S = some (.dK (sortsD L))
  w : H W = some (.dK (loadsD L))
  light : Light L
  few : L.length ≤ 100
  ne : S ≠ W
theorem Dc.same {H H' : Hp} {S W : Addr} {L : Env} (h : Dc H S W L) (k : Same H H') : Dc H' S W L := ⟨k _ _ h.s, k _ _ h.w, h.light, h.few, h.ne⟩
theorem Dc.but {H H' : Hp} {S W p : Addr} {L : Env} {b : Int} (h : Dc H S W L) (k : But p H H') (hp : Pl H p b) : Dc H' S W L := by
  obtain ⟨_, _, _, e, _⟩ := hp
  exact ⟨k _ _ (fun z => by have := h.s; rw [z, e] at this; cases this) h.s, k _ _ (fun z => by have := h.w; rw [z, e] at this; cases this) h.w, h.light, h.few, h.ne⟩
def spWeight (K : PySem.W.Frag) : Sp := fun vs H Q _ => ∃ (m S W : Addr) (x : Str) (ns : List Str) (L : Env), vs = [.ref m, .ref S, .ref W] ∧ Mk K H m x ns ∧ Okm x ns L ∧ Dc H S W L ∧ ∀ H', Same H H' → Q (.int (wOf x ns L)) H'
def spGroundsL (K : PySem.W.Frag) : Sp := fun vs H Q _ => ∃ (m : Addr) (x : Str) (ns : List Str) (L : Env), vs = [.ref m] ∧ Mk K H m x ns ∧ Okm x ns L ∧ ∀ (l : Addr) (H' : Hp), Same H H' → H l = none → H' l = some (.lst (ns.map V.str)) → Q (.ref l) H'
def spSortL (K : PySem.W.Frag) : Sp := fun vs H Q _ => ∃ (m : Addr) (x : Str) (ns : List Str) (L : Env), vs = [.ref m] ∧ Mk K H m x ns ∧ Okm x ns L ∧ ∀ H', Same H H' → Q (.str (sOf x)) H'
def spEnter (K : PySem.W.Frag) : Sp := fun vs H Q _ => ∃ (m S W : Addr) (z x : Str) (ns : List Str) (L : Env), vs = [.str z, .ref m, .ref S, .ref W] ∧ Mk K H m x ns ∧ Okm x ns L ∧ Dc H S W L ∧ z ∉ nmsE L ∧
  ∀ H', Kp K H H' → (∀ b o, b ≠ S → b ≠ W → H b = some o → H' b = some o) → H' S = some (.dK (sortsD (envStep L (z, x, ns)))) → H' W = some (.dK (loadsD (envStep L (z, x, ns)))) → Q .non H'
def weightsOf (L : Env) : List V := L.map fun e => .int e.2.2
def spWeights (K : PySem.W.Frag) : Sp := fun vs H Q _ => ∃ (l : Addr) (us : List V) (ts : List Thing), vs = [.ref l] ∧ SqL K H l us ∧ Rws K H us ts ∧ Vr [] ts ∧ ts.length ≤ 60 ∧ ∀ (p : Addr) (H' : Hp), Same H H' → H p = none → H' p = some (.lst (weightsOf (envOf [] ts))) → Q (.ref p) H'
/-- sums of the loads -/
theorem r_dg {td ty : TE} {σ : St} {H : Hp} {Q : VK} (q : td σ H fun x H1 => ty σ H1 fun y H2 => ∃ a v, x = .ref a ∧ DGet H2 a y (some v) ∧ Q v H2) : tDGet td ty σ H Q := q
theorem r_dput {td ty tv : TE} {σ : St} {H : Hp} {D : Ends} (q : tv σ H fun v H1 => td σ H1 fun x H2 => ty σ H2 fun y H3 => ∃ a H4, x = .ref a ∧ DPut H3 a y v H4 ∧ D.nx σ H4) : sDPut td ty tv D σ H := q
theorem r_dputS {td ty tv : TE} {σ : St} {H : Hp} {D : Ends} {u : TS} (q : tv σ H fun v H1 => td σ H1 fun x H2 => ty σ H2 fun y H3 => ∃ a H4, x = .ref a ∧ DPut H3 a y v H4 ∧ u D σ H4) : tSeq (sDPut td ty tv) u D σ H := q
theorem r_inS {K : PySem.W.Frag} {H : Hp} {Q : VK} {a : Addr} {z : Str} {zs : List Str} (h : SqT K H a (zs.map V.str)) (q : Q (.bl (decide (z ∈ zs))) H) : rIn K false (.str z) (.ref a) H Q :=
  ⟨a, _, rfl, .inr h, rfl, by rw [List.all_map]; exact List.all_eq_true.mpr (fun _ _ => rfl), by rw [inV_str]; exact q⟩
theorem r_inSL {K : PySem.W.Frag} {H : Hp} {Q : VK} {a : Addr} {z : Str} {zs : List Str} (h : SqL K H a (zs.map V.str)) (q : Q (.bl (decide (z ∈ zs))) H) : rIn K false (.str z) (.ref a) H Q :=
  ⟨a, _, rfl, .inl h, rfl, by rw [List.all_map]; exact List.all_eq_true.mpr (fun _ _ => rfl), by rw [inV_str]; exact q⟩
theorem at_1 {a b : V} {r : List V} : atI (a :: b :: r) 1 = some b := atI_nat (j := 1) rfl
theorem at_2 {a b c : V} {r : List V} : atI (a :: b :: c :: r) 2 = some c := atI_nat (j := 2) rfl
theorem at_0 {a : V} {r : List V} : atI (a :: r) 0 = some a := atI_nat (j := 0) rfl
theorem cut_tail {x : V} {ys : List V} : cutV (x :: ys) (some 1) none = ys := by
  unfold cutV
  have e1 : HT.sIx (x :: ys).length 0 (some 1) = 1 := by
    have := HT.sIx_nat (x :: ys).length 0 1
    rw [show (some (1 : Int)) = some (((1 : Nat) : Int)) from rfl, this]
    simp only [List.length_cons]
    omega
  have e2 : HT.sIx (x :: ys).length (x :: ys).length none = (x :: ys).length := rfl
  rw [e1, e2]
  simp
theorem Tl.nil {K : PySem.W.Frag} {H : Hp} {x : Str} {r : List V} (h : Tl K H x r) (h1 : x ≠ "free") (h2 : x ≠ "share") (h3 : x ≠ "cut") : r = [] := by
  rcases h with ⟨e, _⟩ | ⟨e, _⟩ | ⟨e, _⟩ | ⟨_, _, _, e⟩
  · exact absurd e h1
  · exact absurd e h2
  · exact absurd e h3
  · exact e
theorem two_of {x s : Str} {g : List Str} (h : (x, s, g) ∈ wordsTab) (c : x = "share" ∨ x = "cut" ∨ x = "foot" ∨ x = "mirror") : g.length = 2 := by
  have all : ∀ q ∈ wordsTab, (q.1 = "share" ∨ q.1 = "cut" ∨ q.1 = "foot" ∨ q.1 = "mirror") → q.2.2.length = 2 := by decide +kernel
  exact all _ h c
theorem pair_of {ns : List Str} (h : ns.length = 2) : ∃ a b, ns = [a, b] := by
  match ns, h with
  | [a, b], _ => exact ⟨a, b, rfl⟩
theorem sorts_of {x s : Str} {g : List Str} (h : (x, s, g) ∈ wordsTab) : (x ∈ (["line", "along", "upright"] : List Str) → s = "line") ∧ (x ∈ (["inline", "round", "alike", "beside", "square"] : List Str) → s = "claim") ∧ (x = "circle" → s = "circle") ∧ (x ∉ (["line", "along", "upright"] : List Str) → x ∉ (["inline", "round", "alike", "beside", "square"] : List Str) → x ≠ "circle" → s = "point") := by
  have all : ∀ q ∈ wordsTab, (q.1 ∈ (["line", "along", "upright"] : List Str) → q.2.1 = "line") ∧ (q.1 ∈ (["inline", "round", "alike", "beside", "square"] : List Str) → q.2.1 = "claim") ∧ (q.1 = "circle" → q.2.1 = "circle") ∧ (q.1 ∉ (["line", "along", "upright"] : List Str) → q.1 ∉ (["inline", "round", "alike", "beside", "square"] : List Str) → q.1 ≠ "circle" → q.2.1 = "point") := by decide +kernel
  exact all _ h
/-! ### comprehensions over a list -/
def lcL (K : PySem.W.Frag) (g : TG) (tt : TT) (te : TE) (vs : List Nat) (σ : St) (Q : VK) (x : V) (H1 : Hp) : Prop := ∃ a, x = .ref a ∧ (∃ xs, SqL K H1 a xs) ∧ ∀ D, H1 D = none → ∃ W : Nat → Nat → Hp → Prop, (∃ m, W 0 m (upd H1 D (.lst []))) ∧ ∀ i m H, W i m H →
  ((Itl K a).stop i H ∧ Q (.ref D) H) ∨ ((Itl K a).go i H ∧ ∃ Nx : Hp → Prop, (∀ H', Nx H' → ∃ m', m' < m ∧ W (i + 1) m' H') ∧ ∀ x H', (Itl K a).yld i H x H' → g x (wipe σ vs) H' fun σ2 H2 => wipe σ2 vs = wipe σ vs ∧ tt σ2 H2 fun b H3 =>
    if b = true then te σ2 H3 fun y H4 => ∃ acc, H4 D = some (.lst acc) ∧ acc.length < sizeLine ∧ Nx (upd H4 D (.lst (acc ++ [y]))) else Nx H3)
theorem r_lcM {K : PySem.W.Frag} {tl : TE} {g : TG} {tt : TT} {te : TE} {vs : List Nat} {σ : St} {H : Hp} {Q : VK} (q : tl σ H (lcL K g tt te vs σ Q)) : tLc (iList K tl) g tt te vs σ H Q := q
/-- a value of each item, nothing changed -/
theorem lc_map {K : PySem.W.Frag} {j : Nat} {te : TE} {σ : St} {Q : VK} {l : Addr} {xs : List V} {H : Hp} (F : V → V) (hl : SqL K H l xs) (few : xs.length ≤ 1000) (hσ : ∀ v, wipe ((wipe σ [j]).set j (some v)) [j] = wipe σ [j])
    (step : ∀ (i : Nat) (x : V) (H' : Hp), xs[i]? = some x → Same H H' → ∀ R : VK, (∀ H4, Same H' H4 → R (F x) H4) → te ((wipe σ [j]).set j (some x)) H' R)
    (fin : ∀ (D : Addr) (H' : Hp), Same H H' → H D = none → H' D = some (.lst (xs.map F)) → Q (.ref D) H') : lcL K (gName j) tYes te [j] σ Q (.ref l) H := by
  refine ⟨l, rfl, ⟨_, hl⟩, fun D hD => ?_⟩
  refine lc_list (xs := xs) (fun i H' => Same H H' ∧ H' D = some (.lst ((xs.take i).map F))) ⟨same_new hD _, by rw [List.take_zero]; exact upd_same⟩ (fun i H' _ h => h.1.seq hl) ?_ ?_
  · rintro i x H' hx ⟨g, d⟩
    have hi : i < xs.length := (List.getElem?_eq_some_iff.mp hx).1
    refine ⟨hσ x, ?_⟩
    refine r_yes ?_
    show te _ _ _
    refine step i x H' hx g _ fun H4 g4 => ?_
    refine ⟨_, g4 _ _ d, ?_, same_updS (g.trans g4) hD, ?_⟩
    · rw [List.length_map, List.length_take]
      exact Nat.lt_of_le_of_lt (Nat.min_le_left _ _) (Nat.lt_of_lt_of_le (show i < 1001 by omega) (by decide))
    · rw [List.take_succ, hx, Option.toList_some, List.map_append]
      exact upd_same
  · rintro H' ⟨g, d⟩
    rw [List.take_length] at d
    exact fin D H' g hD d
theorem r_lst0 {K : PySem.W.Frag} {H : Hp} {Q : VK} {p : Addr} {xs : List V} {v : V} {n : Nat} (h : SqL K H p xs) (e : xs[n]? = some v) (q : Q v H) : rIxL K (.ref p) (.int (n : Int)) H Q := r_ixL h (atI_nat e) q
theorem sm_small {i : Int} (h : i.natAbs < 1000000) : Sm 64 i := Nat.lt_of_lt_of_le h (by decide)
theorem cm_small {i j : Int} (h : i.natAbs < 1000000) (h' : j.natAbs < 1000000) : CMulW i j := Sm.cmul (sm_small h) (sm_small h')
theorem sum_small {L : Env} (hL : Light L) : ∀ ns : List Str, 0 ≤ (ns.map (wtE L)).sum ∧ (ns.map (wtE L)).sum ≤ 40 * (ns.length : Int)
  | [] => by simp
  | n :: r => by
    obtain ⟨h1, h2⟩ := sum_small hL r
    obtain ⟨h3, h4⟩ := hL.wt n
    simp only [List.map_cons, List.sum_cons, List.length_cons, Int.natCast_add]
    omega
theorem envOf_append : ∀ (a b : List Thing) (L : Env), envOf L (a ++ b) = envOf (envOf L a) b
  | [], _, _ => rfl
  | t :: a, b, L => envOf_append a b (envStep L t)
theorem envOf_len : ∀ (a : List Thing) (L : Env), (envOf L a).length = L.length + a.length
  | [], _ => rfl
  | t :: a, L => by
    show (envOf (envStep L t) a).length = _
    rw [envOf_len a]
    unfold envStep
    simp only [List.length_append, List.length_cons, List.length_nil]
    omega
theorem Vr.split : ∀ (a b : List Thing) (L : Env), Vr L (a ++ b) → Vr L a ∧ Vr (envOf L a) b
  | [], _, _, h => ⟨trivial, h⟩
  | t :: a, b, L, ⟨h1, h2⟩ => by
    obtain ⟨h3, h4⟩ := Vr.split a b _ h2
    exact ⟨⟨h1, h3⟩, h4⟩
theorem Vr.join : ∀ (a b : List Thing) (L : Env), Vr L a → Vr (envOf L a) b → Vr L (a ++ b)
  | [], _, _, _, h => h
  | t :: a, b, L, ⟨h1, h2⟩, h => ⟨h1, Vr.join a b _ h2 h⟩
theorem Vr.light : ∀ (a : List Thing) (L : Env), Light L → Vr L a → Light (envOf L a)
  | [], _, h, _ => h
  | t :: a, L, h, ⟨h1, h2⟩ => Vr.light a _ (fun e he => by
      rcases List.mem_append.mp he with h' | h'
      · exact h e h'
      · rw [List.mem_singleton.mp h']
        exact ⟨h1.2.2.2.1, h1.2.2.2.2⟩) h2
theorem light0 : Light [] := fun _ h => by cases h
/-- the i-th thing, with what was known ahead of it -/
theorem Vr.at {ts : List Thing} {i : Nat} {t : Thing} (h : Vr [] ts) (hi : ts[i]? = some t) : t.1 ∉ nmsE (envOf [] (ts.take i)) ∧ Sok t.1 ∧ Okm t.2.1 t.2.2 (envOf [] (ts.take i)) ∧ envOf [] (ts.take (i + 1)) = envStep (envOf [] (ts.take i)) t ∧ Light (envOf [] (ts.take i)) ∧ Light (envOf [] (ts.take (i + 1))) := by
  have hl := (List.getElem?_eq_some_iff.mp hi).1
  have e1 : ts.take (i + 1) = ts.take i ++ [t] := by rw [List.take_succ, hi, Option.toList_some]
  have e2 : envOf [] (ts.take (i + 1)) = envStep (envOf [] (ts.take i)) t := by rw [e1, envOf_append]; rfl
  have h1 : Vr [] (ts.take (i + 1) ++ ts.drop (i + 1)) := by rw [List.take_append_drop]; exact h
  obtain ⟨h2, _⟩ := Vr.split _ _ _ h1
  have h3 := h2
  rw [e1] at h3
  obtain ⟨h4, h5⟩ := Vr.split _ _ _ h3
  exact ⟨h5.1.1, h5.1.2.1, h5.1.2.2.1, e2, Vr.light _ _ light0 h4, Vr.light _ _ light0 h2⟩
theorem Rws.at {K : PySem.W.Frag} {H : Hp} {vs : List V} {ts : List Thing} {i : Nat} {v : V} (h : Rws K H vs ts) (hi : vs[i]? = some v) : ∃ t, ts[i]? = some t ∧ Th K H v t := LiI.paired_get h hi
theorem Rws.len {K : PySem.W.Frag} {H : Hp} {vs : List V} {ts : List Thing} (h : Rws K H vs ts) : vs.length = ts.length := Paired.length h
end Mb
namespace Mb
open PySem L2
/-! ### drawing a making: names by sort -/
structure By (H : Hp) (p B P Ln C Z : Addr) (pts lns crs cls : List Str) : Prop where
  b : H B = some (.dK [(.inr "point", .ref P), (.inr "line", .ref Ln), (.inr "circle", .ref C), (.inr "claim", .ref Z)])
  eP : H P = some (.lst (pts.map V.str))
  eL : H Ln = some (.lst (lns.map V.str))
  eC : H C = some (.lst (crs.map V.str))
  eZ : H Z = some (.lst (cls.map V.str))
  nP : P ≠ p
  nL : Ln ≠ p
  nC : C ≠ p
  nZ : Z ≠ p
  f : pts.length ≤ 100 ∧ lns.length ≤ 100 ∧ crs.length ≤ 100 ∧ cls.length ≤ 100
  nB : B ≠ p
theorem By.but {H H' : Hp} {p B P Ln C Z : Addr} {pts lns crs cls : List Str} (h : By H p B P Ln C Z pts lns crs cls) (k : But p H H') : By H' p B P Ln C Z pts lns crs cls :=
  ⟨k _ _ h.nB h.b, k _ _ h.nP h.eP, k _ _ h.nL h.eL, k _ _ h.nC h.eC, k _ _ h.nZ h.eZ, h.nP, h.nL, h.nC, h.nZ, h.f, h.nB⟩
def Fit (pts lns crs : List Str) (g z : Str) : Prop := (g = "point" ∧ z ∈ pts) ∨ (g = "line" ∧ z ∈ lns) ∨ (g = "circle" ∧ z ∈ crs) ∨ (g = "curve" ∧ (z ∈ lns ∨ z ∈ crs))
theorem fitP {pts lns crs : List Str} {z : Str} (h : z ∈ pts) : Fit pts lns crs "point" z := .inl ⟨rfl, h⟩
theorem fitL {pts lns crs : List Str} {z : Str} (h : z ∈ lns) : Fit pts lns crs "line" z := .inr (.inl ⟨rfl, h⟩)
theorem fitC {pts lns crs : List Str} {z : Str} (h : z ∈ crs) : Fit pts lns crs "circle" z := .inr (.inr (.inl ⟨rfl, h⟩))
theorem fitU {pts lns crs : List Str} {z : Str} (h : z ∈ lns ∨ z ∈ crs) : Fit pts lns crs "curve" z := .inr (.inr (.inr ⟨rfl, h⟩))
def spMaking (K : PySem.W.Frag) : Sp := fun vs H Q _ => ∃ (p B P Ln C Z : Addr) (pts lns crs cls : List Str) (b : Int), vs = [.ref p, .ref B] ∧ Pl H p b ∧ b ≤ 1700000 ∧ By H p B P Ln C Z pts lns crs cls ∧
  ∀ (m : Addr) (x s : Str) (g ns : List Str) (H' : Hp), But p H H' → Pl H' p (b + 100) → Mk K H' m x ns → (x, s, g) ∈ wordsTab → Paired (Fit pts lns crs) g ns → Q (.ref m) H'
theorem pick_str {zs : List Str} {r : Int} (l : 0 ≤ r) (u : r < (zs.length : Int)) : ∃ z, atI (zs.map V.str) r = some (.str z) ∧ z ∈ zs := by
  obtain ⟨j, rfl⟩ : ∃ n : Nat, r = (n : Int) := ⟨r.toNat, by omega⟩
  have hj : j < zs.length := by omega
  exact ⟨zs[j], at_str hj, List.getElem_mem hj⟩
theorem tl0 {K : PySem.W.Frag} {H : Hp} {x : Str} (h1 : x ≠ "free") (h2 : x ≠ "share") (h3 : x ≠ "cut") : Tl K H x [] := .inr (.inr (.inr ⟨h1, h2, h3, rfl⟩))
theorem word4 {i : Int} (h : i = 0 ∨ i = 2 ∨ i = 3) : ∃ x : Str, atI [V.str "middle", .str "share", .str "next", .str "turn"] i = some (.str x) ∧ (x, ("point" : Str), (["point", "point"] : List Str)) ∈ wordsTab ∧ x ≠ "free" ∧ x ≠ "share" ∧ x ≠ "cut" := by
  rcases h with rfl | rfl | rfl
  all_goals exact ⟨_, rfl, by decide +kernel, by decide +kernel, by decide +kernel, by decide +kernel⟩
theorem word4b {i : Int} (h : i = 0 ∨ i = 1 ∨ i = 2 ∨ i = 3) : ∃ x s : Str, atI [V.str "along", .str "upright", .str "foot", .str "mirror"] i = some (.str x) ∧ (x, s, (["point", "line"] : List Str)) ∈ wordsTab ∧ x ≠ "free" ∧ x ≠ "share" ∧ x ≠ "cut" := by
  rcases h with rfl | rfl | rfl | rfl
  · exact ⟨_, "line", rfl, by decide +kernel, by decide +kernel, by decide +kernel, by decide +kernel⟩
  · exact ⟨_, "line", rfl, by decide +kernel, by decide +kernel, by decide +kernel, by decide +kernel⟩
  · exact ⟨_, "point", rfl, by decide +kernel, by decide +kernel, by decide +kernel, by decide +kernel⟩
  · exact ⟨_, "point", rfl, by decide +kernel, by decide +kernel, by decide +kernel, by decide +kernel⟩
theorem word2 {i : Int} (h : i = 0 ∨ i = 1) : ∃ x : Str, atI [V.str "beside", .str "square"] i = some (.str x) ∧ (x, ("claim" : Str), (["line", "line"] : List Str)) ∈ wordsTab ∧ x ≠ "free" ∧ x ≠ "share" ∧ x ≠ "cut" := by
  rcases h with rfl | rfl
  all_goals exact ⟨_, rfl, by decide +kernel, by decide +kernel, by decide +kernel, by decide +kernel⟩
theorem word2b {i : Int} (h : i = 0 ∨ i = 1) : ∃ x : Str, atI [V.str "round", .str "alike"] i = some (.str x) ∧ (x, ("claim" : Str), (["point", "point", "point", "point"] : List Str)) ∈ wordsTab ∧ x ≠ "free" ∧ x ≠ "share" ∧ x ≠ "cut" := by
  rcases h with rfl | rfl
  all_goals exact ⟨_, rfl, by decide +kernel, by decide +kernel, by decide +kernel, by decide +kernel⟩
end Mb
namespace Mb
open PySem L2
/-! ### drawing a row -/
theorem fit_mem {pts lns crs : List Str} : ∀ {g ns : List Str}, Paired (Fit pts lns crs) g ns → ∀ z ∈ ns, z ∈ pts ∨ z ∈ lns ∨ z ∈ crs
  | _, _, .cons h t, z, hz => by
    rcases List.mem_cons.mp hz with rfl | hz
    · rcases h with ⟨_, h⟩ | ⟨_, h⟩ | ⟨_, h⟩ | ⟨_, h | h⟩
      · exact .inl h
      · exact .inr (.inl h)
      · exact .inr (.inr h)
      · exact .inr (.inl h)
      · exact .inr (.inr h)
    · exact fit_mem t z hz
theorem okm_of {pts lns crs : List Str} {x s : Str} {g ns : List Str} {L : Env} (tx : (x, s, g) ∈ wordsTab) (pr : Paired (Fit pts lns crs) g ns) (mem : ∀ z, (z ∈ pts ∨ z ∈ lns ∨ z ∈ crs) → z ∈ nmsE L ∧ Sok z) : Okm x ns L :=
  ⟨⟨s, g, tx, (Paired.length pr).symm⟩, fun z hz => mem z (fit_mem pr z hz)⟩
theorem okm_free {L : Env} : Okm "free" [] L := ⟨⟨"point", [], by decide +kernel, rfl⟩, fun _ h => by cases h⟩
theorem wOf_nonneg {L : Env} (h : Light L) (x : Str) (ns : List Str) : 0 ≤ wOf x ns L := by
  have w := fun z => (h.wt z).1
  have s := (sum_small h ns).1
  have w0 := w (ns.getD 0 "")
  have w1 := w (ns.getD 1 "")
  unfold wOf
  split
  · decide
  split
  · omega
  split
  · split <;> omega
  split <;> omega
theorem wOf_free {L : Env} {ns : List Str} : wOf "free" ns L = 1 := by unfold wOf; rw [if_pos rfl]
structure All (K : PySem.W.Frag) (H H' : Hp) (p R B S W P Ln C Z : Addr) (c : Int) (us : List V) (ts : List Thing) (pts lns crs cls : List Str) : Prop where
  bt : But p H H'
  pl : Pl H' p c
  eR : H' R = some (.lst us)
  rw : Rws K H' us ts
  bi : By H' p B P Ln C Z pts lns crs cls
  dc : Dc H' S W (envOf [] ts)
  vr : Vr [] ts
  mem : ∀ z, (z ∈ pts ∨ z ∈ lns ∨ z ∈ crs) → z ∈ nmsE (envOf [] ts) ∧ Sok z
  ln : pts.length ≤ ts.length ∧ lns.length ≤ ts.length ∧ crs.length ≤ ts.length ∧ cls.length ≤ ts.length
theorem All.but {K : PySem.W.Frag} {H H' H2 : Hp} {p R B S W P Ln C Z : Addr} {c c' : Int} {us : List V} {ts : List Thing} {pts lns crs cls : List Str} (h : All K H H' p R B S W P Ln C Z c us ts pts lns crs cls) (k : But p H' H2) (pl : Pl H2 p c') (nR : R ≠ p) : All K H H2 p R B S W P Ln C Z c' us ts pts lns crs cls :=
  ⟨h.bt.trans k, pl, k _ _ nR h.eR, h.rw.kp (Kp.but k h.pl), h.bi.but k, h.dc.but k h.pl, h.vr, h.mem, h.ln⟩
theorem All.same {K : PySem.W.Frag} {H H' H2 : Hp} {p R B S W P Ln C Z : Addr} {c : Int} {us : List V} {ts : List Thing} {pts lns crs cls : List Str} (h : All K H H' p R B S W P Ln C Z c us ts pts lns crs cls) (k : Same H' H2) (nR : R ≠ p) : All K H H2 p R B S W P Ln C Z c us ts pts lns crs cls := h.but (But.same k) (h.pl.same k) nR
theorem sort_keys {L : Env} : (sortsD L).map (fun kv => kV kv.1) = (nmsE L).map V.str := by
  unfold sortsD nmsE
  rw [List.map_map, List.map_map]
  rfl
theorem nms_len {L : Env} : (nmsE L).length = L.length := List.length_map _
theorem nms_step {L : Env} {t : Thing} : nmsE (envStep L t) = nmsE L ++ [t.1] := by
  unfold envStep nmsE
  rw [List.map_append]
  rfl
theorem srt_step {L : Env} {t : Thing} (h : t.1 ∉ nmsE L) : srtE (envStep L t) t.1 = sOf t.2.1 := by
  unfold srtE envStep
  rw [List.find?_append]
  have : L.find? (fun e => decide (e.1 = t.1)) = none := by
    rw [List.find?_eq_none]
    intro e he hd
    exact h (of_decide_eq_true hd ▸ List.mem_map.mpr ⟨e, he, rfl⟩)
  rw [this]
  simp
theorem sort4 {x s : Str} {g : List Str} (h : (x, s, g) ∈ wordsTab) : sOf x = "point" ∨ sOf x = "line" ∨ sOf x = "circle" ∨ sOf x = "claim" := by
  have all : ∀ q ∈ wordsTab, sOf q.1 = "point" ∨ sOf q.1 = "line" ∨ sOf q.1 = "circle" ∨ sOf q.1 = "claim" := by decide +kernel
  exact all _ h
def spRow (K : PySem.W.Frag) : Sp := fun vs H Q _ => ∃ (p : Addr) (n : Nat) (b : Int), vs = [.ref p, .int (n : Int)] ∧ n ≤ 60 ∧ Pl H p b ∧ b ≤ 1100000 ∧
  ∀ (l : Addr) (us : List V) (ts : List Thing) (H' : Hp), But p H H' → Pl H' p (b + 100000) → H l = none → H' l = some (.lst us) → Rws K H' us ts → Vr [] ts → ts.length = n → Q (.ref l) H'
theorem env_snoc {ts : List Thing} {t : Thing} : envOf [] (ts ++ [t]) = envStep (envOf [] ts) t := by rw [envOf_append]; rfl
theorem vr_snoc {ts : List Thing} {t : Thing} (h : Vr [] ts) (h1 : t.1 ∉ nmsE (envOf [] ts)) (h2 : Sok t.1) (h3 : Okm t.2.1 t.2.2 (envOf [] ts)) (h4 : 0 ≤ wOf t.2.1 t.2.2 (envOf [] ts)) (h5 : wOf t.2.1 t.2.2 (envOf [] ts) ≤ 40) : Vr [] (ts ++ [t]) := Vr.join _ _ _ h ⟨⟨h1, h2, h3, h4, h5⟩, trivial⟩
theorem rws_snoc {K : PySem.W.Frag} {H : Hp} {v : V} {t : Thing} : ∀ {us : List V} {ts : List Thing}, Rws K H us ts → Th K H v t → Rws K H (us ++ [v]) (ts ++ [t])
  | _, _, .nil, h => .cons h .nil
  | _, _, .cons a r, h => .cons a (rws_snoc r h)
theorem ne_kind {H : Hp} {a b : Addr} {xs : List V} {kvs : List (Key × V)} (h : H a = some (.lst xs)) (h' : H b = some (.dK kvs)) : a ≠ b := fun z => by rw [z, h'] at h; cases h
theorem r_prs {tk tv : TE} {r : List (TE × TE)} {σ : St} {H : Hp} {Q : List (V × V) → Hp → Prop} (q : tk σ H fun x H1 => tv σ H1 fun y H2 => tPairs r σ H2 fun ps H3 => Q ((x, y) :: ps) H3) : tPairs ((tk, tv) :: r) σ H Q := q
theorem r_prs0 {σ : St} {H : Hp} {Q : List (V × V) → Hp → Prop} (q : Q [] H) : tPairs [] σ H Q := q
theorem mmP {pts lns crs : List Str} {z : Str} : ∀ y, (y ∈ pts ++ [z] ∨ y ∈ lns ∨ y ∈ crs) → (y ∈ pts ∨ y ∈ lns ∨ y ∈ crs) ∨ y = z := by
  intro y h
  rcases h with h | h | h
  · rcases List.mem_append.mp h with h | h
    · exact .inl (.inl h)
    · exact .inr (List.mem_singleton.mp h)
  · exact .inl (.inr (.inl h))
  · exact .inl (.inr (.inr h))
theorem mmL {pts lns crs : List Str} {z : Str} : ∀ y, (y ∈ pts ∨ y ∈ lns ++ [z] ∨ y ∈ crs) → (y ∈ pts ∨ y ∈ lns ∨ y ∈ crs) ∨ y = z := by
  intro y h
  rcases h with h | h | h
  · exact .inl (.inl h)
  · rcases List.mem_append.mp h with h | h
    · exact .inl (.inr (.inl h))
    · exact .inr (List.mem_singleton.mp h)
  · exact .inl (.inr (.inr h))
theorem mmC {pts lns crs : List Str} {z : Str} : ∀ y, (y ∈ pts ∨ y ∈ lns ∨ y ∈ crs ++ [z]) → (y ∈ pts ∨ y ∈ lns ∨ y ∈ crs) ∨ y = z := by
  intro y h
  rcases h with h | h | h
  · exact .inl (.inl h)
  · exact .inl (.inr (.inl h))
  · rcases List.mem_append.mp h with h | h
    · exact .inl (.inr (.inr h))
    · exact .inr (List.mem_singleton.mp h)
end Mb
namespace Mb
open PySem L2
/-! ### rows as data; equality -/
theorem lay_app : ∀ {a b : List PyData}, PyData.canLayAll0 a = true → PyData.canLayAll0 b = true → PyData.canLayAll0 (a ++ b) = true
  | [], _, _, h => h
  | x :: a, b, h1, h2 => by
    unfold PyData.canLayAll0 at h1
    obtain ⟨h3, h4⟩ := Bool.and_eq_true_iff.mp h1
    show PyData.canLayAll0 (x :: (a ++ b)) = true
    unfold PyData.canLayAll0
    rw [h3, lay_app h4 h2]
    rfl
theorem dep_app : ∀ {a b : List PyData} {n : Nat}, PyData.depthAll a ≤ n → PyData.depthAll b ≤ n → PyData.depthAll (a ++ b) ≤ n
  | [], _, _, _, h => h
  | x :: a, b, n, h1, h2 => by
    unfold PyData.depthAll at h1
    show PyData.depthAll (x :: (a ++ b)) ≤ n
    unfold PyData.depthAll
    have := dep_app (a := a) (b := b) (n := n) (by omega) h2
    omega
theorem dpAll_app {K : PySem.W.Frag} {H : Hp} : ∀ {xs ys : List V} {ds es : List PyData}, DpAll K H xs ds → DpAll K H ys es → DpAll K H (xs ++ ys) (ds ++ es)
  | _, _, _, _, .nil, h => h
  | _, _, _, _, .cons a r, h => .cons a (dpAll_app r h)
theorem dp_two {K : PySem.W.Frag} {H : Hp} {f : Addr} {t u : Int} (h : SqT K H f [.int t, .int u]) : Dp K H (.ref f) (.tuple [.int t, .int u]) := .tup h (.cons (.int t) (.cons (.int u) .nil))
theorem Tl.dp {K : PySem.W.Frag} {H : Hp} {x : Str} {r : List V} (h : Tl K H x r) : ∃ ds, DpAll K H r ds ∧ PyData.canLayAll0 ds = true ∧ PyData.depthAll ds ≤ 10 := by
  rcases h with ⟨e, f, g, t, u, t', u', rfl, h1, h2⟩ | ⟨e, f, t, u, rfl, h1⟩ | ⟨_, n, rfl⟩ | ⟨_, _, _, rfl⟩
  · exact ⟨_, .cons (dp_two h1) (.cons (dp_two h2) .nil), rfl, by simp [PyData.depthAll, PyData.depth]⟩
  · exact ⟨_, .cons (dp_two h1) .nil, rfl, by simp [PyData.depthAll, PyData.depth]⟩
  · exact ⟨_, .cons (.int n) .nil, rfl, by simp [PyData.depthAll, PyData.depth]⟩
  · exact ⟨[], .nil, rfl, by decide⟩
theorem word_ok {x s : Str} {g : List Str} (h : (x, s, g) ∈ wordsTab) : PyData.strOk x = true := by
  have all : ∀ q ∈ wordsTab, PyData.strOk q.1 = true := by decide +kernel
  exact all _ h
theorem Th.dp {K : PySem.W.Frag} {H : Hp} {v : V} {t : Thing} {L : Env} (h : Th K H v t) (ok : Okm t.2.1 t.2.2 L) (sk : Sok t.1) : ∃ d, Dp K H v d ∧ PyData.canLay0 d = true ∧ PyData.depth d ≤ 20 := by
  obtain ⟨a, m, rfl, ta, r, tm, tl⟩ := h
  obtain ⟨⟨so, g, tx, _⟩, hz⟩ := ok
  obtain ⟨ds, d1, d2, d3⟩ := tl.dp
  obtain ⟨e1, e2⟩ := lay_strs t.2.2 fun z h => (hz z h).2.2
  have l1 := lay_app e1 d2
  have l2 : PyData.depthAll (t.2.2.map PyData.str ++ ds) ≤ 10 := dep_app (by omega) d3
  refine ⟨.tuple [.str t.1, .tuple (.str t.2.1 :: (t.2.2.map PyData.str ++ ds))], .tup ta (.cons (.str _) (.cons (.tup tm (.cons (.str _) (dpAll_app (dpAll_strs _) d1))) .nil)), ?_, ?_⟩
  · simp only [PyData.canLay0, PyData.canLayAll0, sk.2, word_ok tx, l1, Bool.and_self]
  · simp only [PyData.depth, PyData.depthAll]
    omega
theorem rows_dp {K : PySem.W.Frag} {H : Hp} : ∀ {us : List V} {ts : List Thing} {L : Env}, Rws K H us ts → Vr L ts → ∃ ds, DpAll K H us ds ∧ PyData.canLayAll0 ds = true ∧ PyData.depthAll ds ≤ 20
  | _, _, _, .nil, _ => ⟨[], .nil, rfl, by decide⟩
  | _, _, L, .cons h r, ⟨v1, v2⟩ => by
    obtain ⟨d, h1, h2, h3⟩ := h.dp v1.2.2.1 v1.2.1
    obtain ⟨ds, g1, g2, g3⟩ := rows_dp r v2
    refine ⟨d :: ds, .cons h1 g1, ?_, ?_⟩
    · unfold PyData.canLayAll0
      rw [h2, g2]
      rfl
    · unfold PyData.depthAll
      omega
theorem r_neRow {K : PySem.W.Frag} {H : Hp} {Q : VK} {a b : Addr} {us : List V} {ts : List Thing} (h1 : SqL K H a us) (h2 : SqL K H b us) (rw_ : Rws K H us ts) (vr : Vr [] ts) (k : Q (.bl false) H) : rNeD K (.ref a) (.ref b) H Q := by
  obtain ⟨ds, d1, d2, d3⟩ := rows_dp rw_ vr
  have sh : SeqAt.shaped (.list ds) = true := by
    have e1 : PyData.canLay0 (.list ds) = true := by unfold PyData.canLay0; exact d2
    have e2 : PyData.depth (.list ds) ≤ 64 := by unfold PyData.depth; omega
    unfold SeqAt.shaped
    rw [e1, decide_eq_true e2]
    rfl
  refine ⟨_, _, .lst h1 d1, .lst h2 d1, sh, sh, ?_⟩
  rw [SeqAt.eqv_refl _ (by unfold PyData.canLay0; exact d2)]
  exact k
theorem dpAll_ints {K : PySem.W.Frag} {H : Hp} : ∀ (ns : List Int), DpAll K H (ns.map V.int) (ns.map PyData.int)
  | [] => .nil
  | n :: r => .cons (.int n) (dpAll_ints r)
theorem lay_ints : ∀ ns : List Int, PyData.canLayAll0 (ns.map PyData.int) = true ∧ PyData.depthAll (ns.map PyData.int) ≤ 1
  | [] => ⟨rfl, by decide⟩
  | n :: r => by
    obtain ⟨h1, h2⟩ := lay_ints r
    rw [List.map_cons]
    refine ⟨?_, ?_⟩
    · unfold PyData.canLayAll0 PyData.canLay0
      rw [h1]
      rfl
    · unfold PyData.depthAll PyData.depth
      omega
theorem sh_ints (ns : List Int) : SeqAt.shaped (.list (ns.map PyData.int)) = true ∧ PyData.canLay0 (.list (ns.map PyData.int)) = true := by
  have e1 : PyData.canLay0 (.list (ns.map PyData.int)) = true := by unfold PyData.canLay0; exact (lay_ints ns).1
  have e2 : PyData.depth (.list (ns.map PyData.int)) ≤ 64 := by unfold PyData.depth; have := (lay_ints ns).2; omega
  refine ⟨?_, e1⟩
  unfold SeqAt.shaped
  rw [e1, decide_eq_true e2]
  rfl
theorem r_neInt {K : PySem.W.Frag} {H : Hp} {Q : VK} {a b : Addr} {ns : List Int} (h1 : SqL K H a (ns.map V.int)) (h2 : SqL K H b (ns.map V.int)) (k : Q (.bl false) H) : rNeD K (.ref a) (.ref b) H Q := by
  refine ⟨_, _, .lst h1 (dpAll_ints ns), .lst h2 (dpAll_ints ns), (sh_ints ns).1, (sh_ints ns).1, ?_⟩
  rw [SeqAt.eqv_refl _ (sh_ints ns).2]
  exact k
theorem r_eqInt {K : PySem.W.Frag} {H : Hp} {Q : VK} {a b : Addr} {ns : List Int} (h1 : SqL K H a (ns.map V.int)) (h2 : SqL K H b (ns.map V.int)) (k : Q (.bl true) H) : rEqD K (.ref a) (.ref b) H Q := by
  refine ⟨_, _, .lst h1 (dpAll_ints ns), .lst h2 (dpAll_ints ns), (sh_ints ns).1, (sh_ints ns).1, ?_⟩
  rw [SeqAt.eqv_refl _ (sh_ints ns).2]
  exact k
def wts (L : Env) : List Int := L.map (·.2.2)
theorem wts_of {L : Env} : weightsOf L = (wts L).map V.int := by
  unfold weightsOf wts
  rw [List.map_map]
  rfl
theorem wts_step {L : Env} {t : Thing} : wts (envStep L t) = wts L ++ [wOf t.2.1 t.2.2 L] := by
  unfold wts envStep
  rw [List.map_append]
  rfl
theorem at_last {xs : List V} {v : V} : atI (xs ++ [v]) (-1) = some v := by
  unfold atI ixN
  rw [if_neg (by decide), if_pos (by simp only [List.length_append, List.length_cons, List.length_nil]; omega)]
  have : ((-1 : Int) + ((xs ++ [v]).length : Int)).toNat = xs.length := by simp only [List.length_append, List.length_cons, List.length_nil]; omega
  rw [this]
  simp
theorem cut_init {xs : List V} {v : V} : cutV (xs ++ [v]) none (some (-1)) = xs := by
  unfold cutV
  have e1 : HT.sIx (xs ++ [v]).length 0 none = 0 := rfl
  have e2 : HT.sIx (xs ++ [v]).length (xs ++ [v]).length (some (-1)) = xs.length := by
    unfold HT.sIx
    dsimp only
    rw [if_pos (by decide)]
    simp only [List.length_append, List.length_cons, List.length_nil]
    omega
  rw [e1, e2]
  simp
theorem rws_split {K : PySem.W.Frag} {H : Hp} : ∀ (ts' : List Thing) {us : List V} {t : Thing}, Rws K H us (ts' ++ [t]) → ∃ us' v, us = us' ++ [v] ∧ Rws K H us' ts'
  | [], us, t, h => by
    unfold Rws at h
    cases h with
    | cons h1 h2 =>
      cases h2
      exact ⟨[], _, rfl, .nil⟩
  | a :: r, us, t, h => by
    unfold Rws at h
    cases h with
    | cons h1 h2 =>
      obtain ⟨us', v, e, q⟩ := rws_split r h2
      exact ⟨_ :: us', v, by rw [e]; rfl, .cons h1 q⟩
theorem rws_init {K : PySem.W.Frag} {H : Hp} {us : List V} {ts : List Thing} (h : Rws K H us ts) (hl : 1 ≤ ts.length) : ∃ us' v ts' t, us = us' ++ [v] ∧ ts = ts' ++ [t] ∧ Rws K H us' ts' := by
  have ne : ts ≠ [] := fun z => by rw [z] at hl; simp at hl
  have e := (List.dropLast_concat_getLast ne).symm
  rw [e] at h
  obtain ⟨us', v, e', q⟩ := rws_split _ h
  exact ⟨us', v, _, _, e', e, q⟩
theorem r_bmz {K : PySem.W.Frag} {T : String} {r : V → List V → Hp → VK → Prop} {to : TE} {σ : St} {H : Hp} {Q : VK} (q : to σ H fun x H1 => tyV K T x H1 ∧ r x [] H1 Q) : tBM0 K T r to σ H Q := q
theorem r_noPart {σ : St} {H : Hp} {Q : Option Int → Hp → Prop} (q : Q none H) : L2.tNoPart σ H Q := q
end Mb
namespace Mb
open PySem PySem.Spec PyProof.Rows L2
/-! ### sorted(d) of a dict with tuples of ints for keys, any number of them -/
def lexL : List Int → List Int → Bool
  | _, [] => false
  | [], _ :: _ => true
  | x :: xs, y :: ys => if x = y then lexL xs ys else decide (x < y)
theorem lexL_cons {x y : Int} {xs ys : List Int} : lexL (x :: xs) (y :: ys) = true ↔ x < y ∨ (x = y ∧ lexL xs ys = true) := by
  show (if x = y then lexL xs ys else decide (x < y)) = true ↔ _
  by_cases e : x = y
  · rw [if_pos e]
    constructor
    · exact fun h => .inr ⟨e, h⟩
    · rintro (h | h)
      · omega
      · exact h.2
  · rw [if_neg e, decide_eq_true_eq]
    constructor
    · exact .inl
    · rintro (h | h)
      · exact h
      · exact absurd h.1 e
theorem lexL_no {x y : Int} {xs ys : List Int} : lexL (x :: xs) (y :: ys) = false ↔ ¬ (x < y ∨ (x = y ∧ lexL xs ys = true)) := by
  rw [← lexL_cons]
  cases lexL (x :: xs) (y :: ys) <;> simp
theorem lexL_asym : ∀ xs ys : List Int, lexL xs ys = true → lexL ys xs = false
  | [], [], h => by cases h
  | [], _ :: _, _ => rfl
  | _ :: _, [], h => by cases h
  | x :: xs, y :: ys, h => by
    rw [lexL_no]
    rcases lexL_cons.mp h with h | ⟨e, h⟩
    · rintro (h' | ⟨e, _⟩)
      · omega
      · omega
    · rintro (h' | ⟨_, h'⟩)
      · omega
      · rw [lexL_asym xs ys h] at h'
        cases h'
theorem lexL_tr : ∀ xs ys zs : List Int, lexL ys xs = false → lexL zs ys = false → lexL zs xs = false
  | [], _, _, _, _ => by unfold lexL; rfl
  | _ :: _, [], _, h, _ => by cases h
  | _ :: _, _ :: _, [], _, h => by cases h
  | x :: xs, y :: ys, z :: zs, h1, h2 => by
    rw [lexL_no] at h1 h2 ⊢
    rintro (h | ⟨e, h⟩)
    · by_cases c : z < y
      · exact h2 (.inl c)
      · exact h1 (.inl (by omega))
    · by_cases c : z < y
      · exact h2 (.inl c)
      · by_cases c' : y < x
        · exact h1 (.inl c')
        · have e1 : y = x := by omega
          have e2 : z = y := by omega
          have a1 : lexL ys xs = false := by
            cases q : lexL ys xs with
            | false => rfl
            | true => exact absurd (.inr ⟨e1, q⟩) h1
          have a2 : lexL zs ys = false := by
            cases q : lexL zs ys with
            | false => rfl
            | true => exact absurd (.inr ⟨e2, q⟩) h2
          rw [lexL_tr xs ys zs a1 a2] at h
          cases h
theorem lexL_eq : ∀ xs ys : List Int, lexL xs ys = false → lexL ys xs = false → xs = ys
  | [], [], _, _ => rfl
  | [], _ :: _, h, _ => by cases h
  | _ :: _, [], _, h => by cases h
  | x :: xs, y :: ys, h1, h2 => by
    rw [lexL_no] at h1 h2
    have e : x = y := by
      rcases Int.lt_trichotomy x y with c | c | c
      · exact absurd (.inl c) h1
      · exact c
      · exact absurd (.inl c) h2
    have a1 : lexL xs ys = false := by
      cases q : lexL xs ys with
      | false => rfl
      | true => exact absurd (.inr ⟨e, q⟩) h1
    have a2 : lexL ys xs = false := by
      cases q : lexL ys xs with
      | false => rfl
      | true => exact absurd (.inr ⟨e.symm, q⟩) h2
    rw [e, lexL_eq xs ys a1 a2]
theorem swo_lexL (k : Value → List Int) : SrtO.Swo fun v u => lexL (k v) (k u) := ⟨fun x y => lexL_asym _ _, fun x y z => lexL_tr _ _ _⟩
section
variable {prog : Program} {w : World} {A : Around} {s : Shared}
theorem lex_run {b fin : Bool} {xs : List Value} {ns : List Int} (hx : IntsAre xs ns) : ∀ {ys : List Value} {ms : List Int} (i : Nat), IntsAre ys ms → fin = decide (xs.length < ys.length) → PySem.W.KatLex prog w A b fin (fun r s' => s' = s ∧ r = lexL ns ms) (xs.zip ys) i s := by
  induction hx with
  | nil =>
    intro ys ms i hy hf
    refine PySem.W.kat_nil ⟨rfl, ?_⟩
    rw [hf]
    cases hy with
    | nil => rfl
    | cons q u hy => simp [lexL]
  | @cons p t xs ns hx ih =>
    intro ys ms i hy hf
    cases hy with
    | nil =>
      refine PySem.W.kat_nil ⟨rfl, ?_⟩
      rw [hf]
      simp [lexL]
    | @cons q u ys ms hy =>
      show PySem.W.KatLex prog w A b fin _ ((Value.int p t, Value.int q u) :: xs.zip ys) i s
      refine PySem.W.kat_cons (wpAny_eqBool_int ?_)
      by_cases e : p = q
      · subst e
        rw [beq_self_eq_true]
        refine PySem.W.kat_yes ?_
        have := ih (i + 1) hy (by rw [hf]; simp)
        rw [show lexL (p :: ns) (p :: ms) = lexL ns ms from if_pos rfl]
        exact this
      · rw [show (p == q) = false from beq_eq_false_iff_ne.mpr e]
        refine PySem.W.kat_no (TS.oneLt_ints _ ⟨rfl, ?_⟩)
        exact (if_neg e : lexL (p :: ns) (q :: ms) = _).symm
theorem lex_cmp {vs : List Value} {k : Value → List Int} (hp : ∀ v ∈ vs, TS.TupInts s.heap v (k v)) : SrtO.Cmp prog w A s (tuples' true) (fun p => p.1 ∈ vs) (SrtO.lt2 fun v u => lexL (k v) (k u)) := by
  intro p q hm hm'
  obtain ⟨a, xs, e, ⟨o, ho, hc, n, hd⟩, i1⟩ := hp _ hm
  obtain ⟨a', xs', e', ⟨o', ho', hc', n', hd'⟩, i2⟩ := hp _ hm'
  show wpAny (model prog w) A (keyLt' (tuples' true) p.1 q.1) (fun r s' => s' = s ∧ r = lexL (k p.1) (k q.1)) (fun _ _ => False) s
  generalize k p.1 = K1 at *
  generalize k q.1 = K2 at *
  rw [e, e']
  refine PySem.W.kat_lt ho hd ho' hd' ?_
  exact lex_run i1 0 i2 (by simp)
theorem lex_firsts {h : Heap} {k : Value → List Int} : ∀ vs : List Value, (∀ v ∈ vs, TS.TupInts h v (k v) ∧ k v ≠ []) → ∃ fs, PySem.W.KatTups h vs fs ∧ fs.length = vs.length ∧ ∀ f ∈ fs, ∃ n t, f = Value.int n t
  | [], _ => ⟨[], PySem.W.KatTups.nil, rfl, fun f hf => by simp at hf⟩
  | v :: vs, x => by
    obtain ⟨fs, kt, hl, hi⟩ := lex_firsts vs fun u hu => x u (List.mem_cons_of_mem _ hu)
    obtain ⟨⟨a, xs, e0, ⟨o, ho, hc, n, hdt⟩, i⟩, hn⟩ := x v List.mem_cons_self
    obtain ⟨y, ys, e⟩ : ∃ y ys, xs.toList = y :: ys := by
      cases q : xs.toList with
      | nil =>
        rw [q] at i
        have l := i.length
        rw [List.length_nil] at l
        exact absurd (List.eq_nil_of_length_eq_zero (by omega)) hn
      | cons y ys => exact ⟨y, ys, rfl⟩
    obtain ⟨m, t, hy⟩ := i.all y (by rw [e]; exact List.mem_cons_self ..)
    rw [e0]
    refine ⟨y :: fs, PySem.W.KatTups.cons ho hc hdt ?_ kt, by simp [hl], ?_⟩
    · have z := congrArg (fun l : List Value => l[0]?) e
      simpa using z
    · intro f hf
      rcases List.mem_cons.mp hf with rfl | hf
      · exact ⟨m, t, hy⟩
      · exact hi f hf
theorem lex_sortable {a : Addr} {vs : List Value} {k : Value → List Int} (h0 : 0 < vs.length) (hp : ∀ v ∈ vs, TS.TupInts s.heap v (k v) ∧ k v ≠ []) (ha : ∀ o, s.heap.get? a = some o → o.cls ≠ .type "tuple") : SrtO.SortableO prog w A s a vs fun v u => lexL (k v) (k u) := by
  intro h' keep
  have hp' : ∀ v ∈ vs, TS.TupInts h' v (k v) ∧ k v ≠ [] := fun v hm => ⟨(hp v hm).1.keeps fun b o e c => keep b o (fun z => by subst z; exact ha o e c) e, (hp v hm).2⟩
  obtain ⟨fs, h1, h2, h3⟩ := lex_firsts vs hp'
  refine ⟨tuples' true, fun Q E hq => ?_, lex_cmp fun v hv => (hp' v hv).1⟩
  refine PySem.W.kat_kind (T := .type "int") h1 (by omega) (fun f hm => ?_) (by rfl) ?_
  · obtain ⟨x, t, rfl⟩ := h3 f hm
    exact PySem.W.Looks.of_pure rfl
  · have e : (Value.type "int" != Value.type "tuple") = true := by decide +kernel
    rw [e]
    exact hq
end
def rSortedDT (K : PySem.W.Frag) : List V → Hp → VK → Prop := fun vs H Q => ∃ (a : Addr) (kvs : List (List Key × V)) (ks : List (List Int)), vs = [.ref a] ∧ H a = some (.dT kvs) ∧ kvs.map (·.1) = ks.map (List.map Sum.inl) ∧ (2 ≤ ks.length → ∀ k ∈ ks, k ≠ []) ∧
  ∀ (ls : List (List Int)) (qs : List Addr) (p : Addr), ls.Perm ks → ls.Pairwise (fun x y => lexL y x = false) → H p = none → Paired (fun q k => H q = some (.tup (k.map V.int))) qs ls → Q (.ref p) (upd H p (.lst (qs.map V.ref)))
theorem ints_vals {xs : List Int} {its : List Value} (h : Vals (xs.map V.int) its) : IntsAre its xs := by
  induction xs generalizing its with
  | nil => cases h; exact .nil
  | cons x xs ih =>
    cases h with
    | cons r t =>
      obtain ⟨t', rfl⟩ := r
      exact .cons _ _ (ih t)
theorem paired_map {α β γ : Type} {R : α → β → Prop} {f : γ → α} {g : γ → β} : ∀ l : List γ, (∀ x ∈ l, R (f x) (g x)) → Paired R (l.map f) (l.map g)
  | [], _ => .nil
  | x :: r, h => .cons (h x List.mem_cons_self) (paired_map r fun y hy => h y (List.mem_cons_of_mem _ hy))
theorem cr_sortedDT {X : Cx} (hcalm : X.calm = true) : CallR X (.builtin "sorted") (rSortedDT X.K) := by
  intro pins s σ H xs us Q I r q
  obtain ⟨a, kvs, ks, ex, hd, hks, hne, q⟩ := q
  subst ex
  obtain ⟨u, eu, rx⟩ := vals1 r
  subst eu
  cases rx
  obtain ⟨z, lo, xs, pr, o, es, ep, ho, hx, hdt, he, nd⟩ := (show ObjOk X.prog X.w H s.heap a (.dT kvs) from I.hok a _ hd)
  have l1 : es.size = xs.length := size_of_entries he
  have l2 : kvs.length = xs.length := Paired.length pr
  have l3 : kvs.length = ks.length := by
    have e := congrArg List.length hks
    rw [List.length_map, List.length_map] at e
    exact e
  refine Calls.call_function_entry PyProof.Rows.kind_sorted PyProof.Rows.plain_sorted PyProof.Rows.entry_sorted (PyProof.Rows.args_sorted1 _) ?_
  unfold Builtin.«sorted»
  refine wpAny_bind (m := checkCount "sorted" 1 1 _) (wpAny_pure ?_)
  refine wpAny_bind (PySem.W.kdu_collect (A := X.A.in1) (kdl_raw lo hx hdt) (I.ok.hd hcalm) ho (by omega) fun h' tk acc hk hacc => ?_)
  have I1 : Inv X pins σ H { s with heap := h', toks := tk } := I.kept hk
  have hal : acc.toList.length = ks.length := by rw [Array.length_toList, hacc.1]; omega
  have each : ∀ (j : Nat) (v : Value), acc.toList[j]? = some v → ∃ (b : Addr) (k : List Int), v = .ref b ∧ ks[j]? = some k ∧ H b = some (.tup (k.map V.int)) := by
    intro j v e
    obtain ⟨en, he1, e2⟩ := hacc.2 j v (by rw [← Array.getElem?_toList]; exact e)
    have hj : j < kvs.length := by
      have := (Array.getElem?_eq_some_iff.mp he1).1
      omega
    have e3 : kvs[j]? = some kvs[j] := List.getElem?_eq_getElem hj
    obtain ⟨b, hb, f1, f2, _⟩ := L2.paired_get pr e3
    have g := entry_at he j
    rw [hb] at g
    have g' : es[j]? = some (entryOfKey (tupleKind (mixKind X.prog X.w)) b) := g
    rw [he1] at g'
    have hv : v = .ref b.2.1 := by rw [e2, Option.some.inj g']; rfl
    have e4 : (kvs.map (·.1))[j]? = some (kvs[j]).1 := by rw [List.getElem?_map, e3]; rfl
    rw [hks, List.getElem?_map] at e4
    obtain ⟨k, hk1, hk2⟩ := Option.map_eq_some_iff.mp e4
    refine ⟨b.2.1, k, hv, hk1, ?_⟩
    rw [f2, ← hk2, List.map_map]
    rfl
  have ti : ∀ (b : Addr) (k : List Int), H b = some (.tup (k.map V.int)) → TS.TupInts h' (.ref b) k := fun b k hb => by
    obtain ⟨_, its, rv, it⟩ := (show ObjOk X.prog X.w H h' b (.tup (k.map V.int)) from I1.hok b _ hb)
    exact ⟨b, its.toArray, rfl, it, by simpa using ints_vals rv⟩
  have key : ∀ v ∈ acc.toList, ∃ b, v = Value.ref b ∧ TS.intsOf h' v ∈ ks ∧ H b = some (.tup ((TS.intsOf h' v).map V.int)) ∧ TS.TupInts h' v (TS.intsOf h' v) := by
    intro v hv
    obtain ⟨j, hj⟩ := List.getElem?_of_mem hv
    obtain ⟨b, k, rfl, hk1, hb⟩ := each j v hj
    have t := ti b k hb
    rw [t.ints]
    exact ⟨b, rfl, List.mem_of_getElem? hk1, hb, t⟩
  have keys : acc.toList.map (TS.intsOf h') = ks := by
    refine List.ext_getElem? fun j => ?_
    rw [List.getElem?_map]
    cases e : acc.toList[j]? with
    | none =>
      have : ks.length ≤ j := by
        have := List.getElem?_eq_none_iff.mp e
        omega
      rw [List.getElem?_eq_none this]
      rfl
    | some v =>
      obtain ⟨b, k, rfl, hk1, hb⟩ := each j v e
      rw [hk1]
      show some (TS.intsOf h' (.ref b)) = _
      rw [(ti b k hb).ints]
  refine wpAny_bind (wpAny_newList ?_ (by rw [hal]; omega))
  have hoL : (h'.push (seqObj "list" acc.toList.toArray 0)).get? h'.objs.size = some (seqObj "list" acc.toList.toArray 0) := Heap.get?_push_size _ rfl
  show wpAny _ _ _ _ _ { s with heap := h'.push (seqObj "list" acc.toList.toArray 0), toks := tk }
  refine wpAny_bind (wpAny_holding (wpAny_call_entry PyProof.Rows.slot_list_sort ⟨_, hoL, rfl⟩ PyProof.Rows.entry_list_sort
    (SrtO.list_sort_ord (s := { s with heap := h'.push (seqObj "list" acc.toList.toArray 0), toks := tk }) (ltv := fun v u => lexL (TS.intsOf h' v) (TS.intsOf h' u)) (swo_lexL _) hoL (by rw [hal]; omega) (fun h2 => ?_) fun out g1 g2 => ⟨_, rfl, ?_⟩) (PyProof.Rows.args_list_sort _)))
  · refine lex_sortable (by omega) (fun v hv => ?_) (fun o e => ?_)
    · obtain ⟨b, e, hm, hb, t⟩ := key v hv
      exact ⟨t.keeps fun c u e _ => Heap.get?_push_of_some _ e, hne (by rw [← hal]; exact h2) _ hm⟩
    · have e' : some o = some (seqObj "list" acc.toList.toArray 0) := e.symm.trans hoL
      cases e'
      intro c
      exact absurd (Value.type.inj c) (by decide)
  · obtain ⟨e', he'⟩ := PyProof.Rows.sortedHeap_at (vs := acc.toList) (out := out.toArray) hoL
    have mem : ∀ v ∈ out, ∃ b, v = Value.ref b ∧ TS.intsOf h' v ∈ ks ∧ H b = some (.tup ((TS.intsOf h' v).map V.int)) ∧ TS.TupInts h' v (TS.intsOf h' v) := fun v hv => key v (g2.perm.mem_iff.mp hv)
    have hre : ∀ v ∈ out, ∃ b, v = Value.ref b := fun v hv => by
      obtain ⟨b, e, _⟩ := mem v hv
      exact ⟨b, e⟩
    have eb : out.map bkV = (out.map fun v => match v with | .ref b => b | _ => 0).map V.ref := by
      rw [List.map_map]
      refine List.map_congr_left fun v hv => ?_
      obtain ⟨b, rfl⟩ := hre v hv
      rfl
    have hlen : (out.map bkV).length ≤ sizeLine := by
      rw [List.length_map, g2.perm.length_eq, hal]
      omega
    refine wpAny_pure ⟨_, rfl, .ref h'.objs.size, upd H h'.objs.size (.lst (out.map bkV)), I1.laid (t' := tk) (fun b u e => ?_) (Nat.le_refl _)
      (show ObjOk X.prog X.w _ _ _ (.lst (out.map bkV)) from ⟨hlen, out, e', bkV_vals hre, he'⟩), rfl, ?_⟩
    · have hb : b < h'.objs.size := Heap.lt_size e
      rw [PyProof.Rows.sortedHeap_old (Nat.ne_of_lt hb) (by rw [size_push']; exact Nat.lt_succ_of_lt hb)]
      exact Heap.get?_push_of_some _ e
    · rw [eb]
      refine q (out.map (TS.intsOf h')) _ _ ?_ ?_ (I1.hok.fresh (Nat.le_refl _)) (paired_map out fun v hv => ?_)
      · rw [← keys]
        exact g2.perm.map _
      · exact List.pairwise_map.mpr g1
      · obtain ⟨b, rfl, _, hb, _⟩ := mem v hv
        exact hb
end Mb
namespace Mb
open PySem L2
def spTakeW : Sp := fun vs H Q _ => ∃ (p : Addr) (k b : Int), vs = [.ref p, .int k] ∧ Pl H p b ∧ b ≤ 2000000 ∧ 1 ≤ k ∧ k ≤ 1000000000 ∧
  ∀ (r : Int) (H' : Hp), But p H H' → Pl H' p (b + 1) → 0 ≤ r → r < k → Q (.int r) H'
theorem pw_le {k n : Nat} (h : k ≤ n) : (100000 : Int) ^ k ≤ 100000 ^ n := by
  have h1 : (100000 : Nat) ^ k ≤ 100000 ^ n := Nat.pow_le_pow_right (by decide) h
  have e : ∀ j : Nat, (100000 : Int) ^ j = ((100000 ^ j : Nat) : Int) := fun j => by rw [Int.natCast_pow]; rfl
  rw [e, e]
  exact Int.ofNat_le.mpr h1
end Mb
namespace Mb
open PySem L2
/-! ### forms: terms, sums by their powers -/
abbrev Trm : Type := List Int × Int
def sumK (ts : List Trm) (k : List Int) : Int := ((ts.filter fun t => decide (t.1 = k)).map (·.2)).sum
theorem sumK_nil {k : List Int} : sumK [] k = 0 := rfl
theorem sumK_app {a b : List Trm} {k : List Int} : sumK (a ++ b) k = sumK a k + sumK b k := by
  unfold sumK
  rw [List.filter_append, List.map_append, List.sum_append]
theorem sumK_one {t : Trm} {k : List Int} : sumK [t] k = if t.1 = k then t.2 else 0 := by
  unfold sumK
  by_cases h : t.1 = k
  · rw [if_pos h, List.filter_cons, decide_eq_true h]
    simp
  · rw [if_neg h, List.filter_cons, decide_eq_false h]
    simp
theorem sumK_cons {t : Trm} {b : List Trm} {k : List Int} : sumK (t :: b) k = (if t.1 = k then t.2 else 0) + sumK b k := by
  rw [show t :: b = [t] ++ b from rfl, sumK_app, sumK_one]
theorem sumK_none {ts : List Trm} {k : List Int} (h : k ∉ ts.map (·.1)) : sumK ts k = 0 := by
  unfold sumK
  rw [List.filter_eq_nil_iff.mpr]
  · rfl
  · intro t ht hd
    exact h (of_decide_eq_true hd ▸ List.mem_map.mpr ⟨t, ht, rfl⟩)
def keysD (M : List Trm) : List (List Key × V) := M.map fun m => (m.1.map Sum.inl, .int m.2)
def accM (M : List Trm) (t : Trm) : List Trm := if t.1 ∈ M.map (·.1) then M.map (fun m => if m.1 = t.1 then (m.1, m.2 + t.2) else m) else M ++ [t]
def accOf (ts : List Trm) : List Trm := ts.foldl accM []
theorem acc_snoc {ts : List Trm} {t : Trm} : accOf (ts ++ [t]) = accM (accOf ts) t := by
  unfold accOf
  rw [List.foldl_append]
  rfl
theorem acc_keys {M : List Trm} {t : Trm} : (accM M t).map (·.1) = if t.1 ∈ M.map (·.1) then M.map (·.1) else M.map (·.1) ++ [t.1] := by
  unfold accM
  split
  · rw [List.map_map]
    refine List.map_congr_left fun m _ => ?_
    show (if m.1 = t.1 then (m.1, m.2 + t.2) else m).1 = m.1
    split <;> rfl
  · rw [List.map_append]
    rfl
theorem acc_len {M : List Trm} {t : Trm} : (accM M t).length ≤ M.length + 1 := by
  unfold accM
  split
  · rw [List.length_map]; omega
  · simp
theorem accs_len : ∀ (ts M : List Trm), (ts.foldl accM M).length ≤ M.length + ts.length
  | [], _ => Nat.le_refl _
  | t :: r, M => by
    have h1 := accs_len r (accM M t)
    have h2 := acc_len (M := M) (t := t)
    simp only [List.foldl_cons, List.length_cons]
    omega
structure AccOk (M ts : List Trm) : Prop where
  nd : (M.map (·.1)).Nodup
  ks : ∀ k, k ∈ M.map (·.1) ↔ k ∈ ts.map (·.1)
  sm : ∀ m ∈ M, m.2 = sumK ts m.1
theorem acc_ok1 {M ts : List Trm} {t : Trm} (h : AccOk M ts) : AccOk (accM M t) (ts ++ [t]) := by
  refine ⟨?_, fun k => ?_, fun m hm => ?_⟩
  · rw [acc_keys]
    split
    · exact h.nd
    · rename_i c
      refine List.nodup_append.mpr ⟨h.nd, List.nodup_cons.mpr ⟨List.not_mem_nil, List.nodup_nil⟩, fun a ha b hb e => ?_⟩
      rw [List.mem_singleton.mp hb] at e
      exact c (by rw [← e]; exact ha)
  · rw [acc_keys, List.map_append, List.mem_append]
    show _ ↔ _ ∨ k ∈ [t.1]
    rw [List.mem_singleton]
    split
    · rename_i c
      rw [h.ks]
      constructor
      · exact .inl
      · rintro (x | rfl)
        · exact x
        · exact (h.ks _).mp c
    · rw [List.mem_append, h.ks, List.mem_singleton]
  · rw [sumK_app, sumK_one]
    unfold accM at hm
    split at hm
    · obtain ⟨m', hm', rfl⟩ := List.mem_map.mp hm
      by_cases e : m'.1 = t.1
      · rw [if_pos e]
        show m'.2 + t.2 = sumK ts m'.1 + if t.1 = m'.1 then t.2 else 0
        rw [if_pos e.symm, h.sm m' hm']
      · rw [if_neg e, if_neg (fun x => e x.symm), h.sm m' hm', Int.add_zero]
    · rename_i c
      rcases List.mem_append.mp hm with hm | hm
      · rw [if_neg (fun x => c (by rw [x]; exact List.mem_map.mpr ⟨m, hm, rfl⟩)), h.sm m hm, Int.add_zero]
      · rw [List.mem_singleton.mp hm, if_pos rfl, sumK_none (fun x => c ((h.ks _).mpr x)), Int.zero_add]
theorem acc_okS : ∀ (b a M : List Trm), AccOk M a → AccOk (b.foldl accM M) (a ++ b)
  | [], a, M, h => by rw [List.append_nil]; exact h
  | t :: b, a, M, h => by
    have := acc_okS b (a ++ [t]) _ (acc_ok1 (t := t) h)
    rw [List.append_assoc] at this
    exact this
theorem acc_ok (ts : List Trm) : AccOk (accOf ts) ts := acc_okS ts [] [] ⟨List.nodup_nil, fun k => Iff.rfl, fun m hm => by cases hm⟩
/-- the form of terms -/
structure Fm (ts F : List Trm) : Prop where
  up : F.Pairwise fun x y => lexL x.1 y.1 = true
  mem : ∀ x : Trm, x ∈ F ↔ x.2 ≠ 0 ∧ x.2 = sumK ts x.1
theorem lexL_irr : ∀ xs : List Int, lexL xs xs = false
  | [] => rfl
  | x :: r => by
    show (if x = x then lexL r r else _) = false
    rw [if_pos rfl]
    exact lexL_irr r
theorem fm_of {ts : List Trm} {ls : List (List Int)} (hp : ls.Perm ((accOf ts).map (·.1))) (hs : ls.Pairwise fun x y => lexL y x = false) : Fm ts ((ls.map fun k => (k, sumK ts k)).filter fun t => !decide (t.2 = 0)) := by
  have ok := acc_ok ts
  have nd : ls.Nodup := hp.nodup_iff.mpr ok.nd
  have st : ls.Pairwise fun x y => lexL x y = true := by
    refine (List.Pairwise.and hs nd).imp fun {x y} h => ?_
    cases q : lexL x y with
    | true => rfl
    | false => exact absurd (lexL_eq x y q h.1) h.2
  refine ⟨List.Pairwise.filter _ (List.pairwise_map.mpr st), fun x => ?_⟩
  rw [List.mem_filter, List.mem_map]
  constructor
  · rintro ⟨⟨k, hk, rfl⟩, h⟩
    exact ⟨by simpa using h, rfl⟩
  · rintro ⟨h1, h2⟩
    refine ⟨⟨x.1, ?_, by rw [← h2]⟩, by simpa using h1⟩
    rw [hp.mem_iff, ok.ks]
    by_cases c : x.1 ∈ ts.map (·.1)
    · exact c
    · rw [sumK_none c] at h2
      exact absurd h2 h1
theorem up_uniq : ∀ {F G : List Trm}, F.Pairwise (fun x y => lexL x.1 y.1 = true) → G.Pairwise (fun x y => lexL x.1 y.1 = true) → (∀ x, x ∈ F ↔ x ∈ G) → F = G
  | [], G, _, _, h => by
    cases G with
    | nil => rfl
    | cons y G => exact absurd ((h y).mpr List.mem_cons_self) List.not_mem_nil
  | x :: F, [], _, _, h => absurd ((h x).mp List.mem_cons_self) List.not_mem_nil
  | x :: F, y :: G, h1, h2, h => by
    obtain ⟨a1, a2⟩ := List.pairwise_cons.mp h1
    obtain ⟨b1, b2⟩ := List.pairwise_cons.mp h2
    have e : x = y := by
      rcases List.mem_cons.mp ((h x).mp List.mem_cons_self) with e | hx
      · exact e
      · rcases List.mem_cons.mp ((h y).mpr List.mem_cons_self) with e | hy
        · exact e.symm
        · have := lexL_asym _ _ (b1 x hx)
          rw [a1 y hy] at this
          cases this
    subst e
    congr 1
    refine up_uniq a2 b2 fun z => ?_
    have no : ∀ {L : List Trm}, (∀ y ∈ L, lexL x.1 y.1 = true) → x ∉ L := fun hl hx => by
      have := hl x hx
      rw [lexL_irr] at this
      cases this
    constructor
    · intro hz
      rcases List.mem_cons.mp ((h z).mp (List.mem_cons_of_mem _ hz)) with e | hz'
      · rw [e] at hz
        exact absurd hz (no a1)
      · exact hz'
    · intro hz
      rcases List.mem_cons.mp ((h z).mpr (List.mem_cons_of_mem _ hz)) with e | hz'
      · rw [e] at hz
        exact absurd hz (no b1)
      · exact hz'
theorem Fm.uniq {ts us F G : List Trm} (h1 : Fm ts F) (h2 : Fm us G) (h : ∀ k, sumK ts k = sumK us k) : F = G :=
  up_uniq h1.up h2.up fun x => by rw [h1.mem, h2.mem, h]
/-- powers in m unknowns, from 0 to c -/
def OkT (m : Nat) (c : Int) (ts : List Trm) : Prop := ∀ t ∈ ts, t.1.length = m ∧ ∀ p ∈ t.1, 0 ≤ p ∧ p ≤ c
theorem Fm.ok {ts F : List Trm} {m : Nat} {c : Int} (h : Fm ts F) (k : OkT m c ts) : OkT m c F := fun x hx => by
  obtain ⟨h1, h2⟩ := (h.mem x).mp hx
  by_cases e : x.1 ∈ ts.map (·.1)
  · obtain ⟨t, ht, e⟩ := List.mem_map.mp e
    rw [← e]
    exact k t ht
  · rw [sumK_none e] at h2
    exact absurd h2 h1
theorem Fm.len {ts F : List Trm} (h : Fm ts F) : F.length ≤ ts.length := by
  have nd : (F.map (·.1)).Nodup := List.pairwise_map.mpr (h.up.imp fun {x y} q e => by
    rw [e, lexL_irr] at q
    cases q)
  have sub : ∀ k ∈ F.map (·.1), k ∈ (accOf ts).map (·.1) := fun k hk => by
    obtain ⟨x, hx, rfl⟩ := List.mem_map.mp hk
    obtain ⟨h1, h2⟩ := (h.mem x).mp hx
    rw [(acc_ok ts).ks]
    by_cases e : x.1 ∈ ts.map (·.1)
    · exact e
    · rw [sumK_none e] at h2
      exact absurd h2 h1
  have le : ∀ {A B : List (List Int)}, A.Nodup → (∀ x ∈ A, x ∈ B) → A.length ≤ B.length := by
    intro A
    induction A with
    | nil => intro B _ _; exact Nat.zero_le _
    | cons a r ih =>
      intro B nd h
      obtain ⟨h1, h2⟩ := List.nodup_cons.mp nd
      have ha := h a List.mem_cons_self
      have := ih (B := B.erase a) h2 fun x hx => (List.mem_erase_of_ne (fun e => h1 (by rw [← e]; exact hx))).mpr (h x (List.mem_cons_of_mem _ hx))
      rw [List.length_erase_of_mem ha] at this
      have := List.length_pos_of_mem ha
      rw [List.length_cons]
      omega
  have l1 := le nd sub
  rw [List.length_map, List.length_map] at l1
  have l2 := accs_len ts []
  have : accOf ts = ts.foldl accM [] := rfl
  rw [← this] at l2
  simp only [List.length_nil] at l2
  omega
/-! ### in the heap -/
def Pw (H : Hp) (q : Addr) (k : List Int) : Prop := H q = some (.tup (k.map V.int))
def Tm (H : Hp) (v : V) (t : Trm) : Prop := ∃ a q, v = .ref a ∧ H a = some (.tup [.ref q, .int t.2]) ∧ Pw H q t.1
abbrev Tms (H : Hp) (us : List V) (ts : List Trm) : Prop := Paired (Tm H) us ts
def Kt (H H' : Hp) : Prop := ∀ q xs, H q = some (.tup xs) → H' q = some (.tup xs)
theorem Kt.refl (H : Hp) : Kt H H := fun _ _ h => h
theorem Kt.trans {H H1 H2 : Hp} (a : Kt H H1) (b : Kt H1 H2) : Kt H H2 := fun q xs h => b q xs (a q xs h)
theorem Kt.same {H H' : Hp} (s : Same H H') : Kt H H' := fun q xs h => s _ _ h
theorem Kt.but {H H' : Hp} {p : Addr} {b : Int} (k : But p H H') (h : Pl H p b) : Kt H H' := fun q xs hq => by
  obtain ⟨x, y, z, e, _⟩ := h
  exact k _ _ (fun z => by rw [z, e] at hq; cases hq) hq
theorem Kt.lst {H : Hp} {p : Addr} {xs : List V} {o : HO} (h : H p = some (.lst xs)) : Kt H (upd H p o) := fun q ys hq => by
  rw [upd_ne (fun z => by rw [z, h] at hq; cases hq)]
  exact hq
theorem Kt.dT {H : Hp} {p : Addr} {kvs : List (List Key × V)} {o : HO} (h : H p = some (.dT kvs)) : Kt H (upd H p o) := fun q ys hq => by
  rw [upd_ne (fun z => by rw [z, h] at hq; cases hq)]
  exact hq
theorem Tm.kt {H H' : Hp} (s : Kt H H') {v : V} {t : Trm} (h : Tm H v t) : Tm H' v t := by
  obtain ⟨a, q, e, h1, h2⟩ := h
  exact ⟨a, q, e, s _ _ h1, s _ _ h2⟩
theorem _root_.PySem.Paired.tmk {H H' : Hp} (s : Kt H H') {us : List V} {ts : List Trm} (h : Tms H us ts) : Tms H' us ts := Paired.mapP h fun _ _ h => Tm.kt s h
theorem Tms.at {H : Hp} {us : List V} {ts : List Trm} {i : Nat} {v : V} (h : Tms H us ts) (hi : us[i]? = some v) : ∃ t, ts[i]? = some t ∧ Tm H v t := LiI.paired_get h hi
theorem tms_snoc {H : Hp} {v : V} {t : Trm} : ∀ {us : List V} {ts : List Trm}, Tms H us ts → Tm H v t → Tms H (us ++ [v]) (ts ++ [t])
  | _, _, .nil, h => .cons h .nil
  | _, _, .cons a r, h => .cons a (tms_snoc r h)
def FmAt (H : Hp) (f : Addr) (F : List Trm) : Prop := ∃ us, H f = some (.tup us) ∧ Tms H us F
theorem FmAt.kt {H H' : Hp} {f : Addr} {F : List Trm} (s : Kt H H') (h : FmAt H f F) : FmAt H' f F := by
  obtain ⟨us, h1, h2⟩ := h
  exact ⟨us, s _ _ h1, h2.tmk s⟩
theorem inl_inj {a b : List Int} (h : a.map (Sum.inl : Int → Key) = b.map Sum.inl) : a = b := by
  induction a generalizing b with
  | nil => cases b with
    | nil => rfl
    | cons y b => cases h
  | cons x a ih => cases b with
    | nil => cases h
    | cons y b =>
      rw [List.map_cons, List.map_cons] at h
      obtain ⟨h1, h2⟩ := List.cons.inj h
      rw [Sum.inl.inj h1, ih h2]
theorem keysD_any {M : List Trm} {k : List Int} : ((keysD M).any fun kv => decide (kv.1 = k.map Sum.inl)) = decide (k ∈ M.map (·.1)) := by
  unfold keysD
  rw [List.any_map]
  induction M with
  | nil => rfl
  | cons m r ih =>
    rw [List.any_cons, ih]
    by_cases h : m.1 = k
    · subst h; simp
    · have h1 : ¬ (m.1.map (Sum.inl : Int → Key) = k.map Sum.inl) := fun e => h (inl_inj e)
      have h2 : ¬ k = m.1 := fun e => h e.symm
      simp [h1, h2]
theorem keysD_get {M : List Trm} {k : List Int} (nd : (M.map (·.1)).Nodup) (z : Int) : ((valV (keysD M) (k.map Sum.inl)).getD (.int z)) = .int (match M.find? (fun m => decide (m.1 = k)) with | some m => m.2 | none => z) := by
  unfold valV keysD
  induction M with
  | nil => rfl
  | cons m r ih =>
    rw [List.map_cons, List.find?_cons, List.find?_cons]
    by_cases h : m.1 = k
    · subst h; simp
    · have h1 : ¬ (m.1.map (Sum.inl : Int → Key) = k.map Sum.inl) := fun e => h (inl_inj e)
      simp only [h, h1, decide_false]
      exact ih (List.nodup_cons.mp nd).2
theorem find_none {M : List Trm} {k : List Int} (h : k ∉ M.map (·.1)) : M.find? (fun m => decide (m.1 = k)) = none := by
  rw [List.find?_eq_none]
  intro m hm hd
  exact h (of_decide_eq_true hd ▸ List.mem_map.mpr ⟨m, hm, rfl⟩)
theorem find_some {M : List Trm} {m : Trm} (nd : (M.map (·.1)).Nodup) (hm : m ∈ M) : M.find? (fun x => decide (x.1 = m.1)) = some m := by
  induction M with
  | nil => cases hm
  | cons a r ih =>
    rw [List.find?_cons]
    obtain ⟨h1, h2⟩ := List.nodup_cons.mp nd
    rcases List.mem_cons.mp hm with rfl | hm
    · rw [decide_eq_true rfl]
    · rw [decide_eq_false (fun e => h1 (List.mem_map.mpr ⟨m, hm, e.symm⟩))]
      exact ih h2 hm
/-- one term more in the dict -/
theorem keysD_put {M : List Trm} {t : Trm} (nd : (M.map (·.1)).Nodup) : putK (keysD M) (t.1.map Sum.inl) (.int ((match M.find? (fun m => decide (m.1 = t.1)) with | some m => m.2 | none => 0) + t.2)) = keysD (accM M t) := by
  unfold putK accM
  rw [keysD_any]
  by_cases h : t.1 ∈ M.map (·.1)
  · rw [if_pos (by simpa using h), if_pos h]
    obtain ⟨m0, hm0, e0⟩ := List.mem_map.mp h
    have hf := find_some nd hm0
    rw [e0] at hf
    rw [hf]
    unfold keysD
    rw [List.map_map, List.map_map]
    refine List.map_congr_left fun m hm => ?_
    show (if m.1.map (Sum.inl : Int → Key) = t.1.map Sum.inl then (m.1.map (Sum.inl : Int → Key), V.int (m0.2 + t.2)) else (m.1.map Sum.inl, .int m.2)) = _
    by_cases c : m.1 = t.1
    · rw [if_pos (by rw [c])]
      have : m = m0 := by
        have h1 := find_some nd hm
        rw [c, hf] at h1
        exact (Option.some.inj h1).symm
      show _ = ((if m.1 = t.1 then (m.1, m.2 + t.2) else m).1.map (Sum.inl : Int → Key), V.int (if m.1 = t.1 then (m.1, m.2 + t.2) else m).2)
      rw [if_pos c, this]
    · rw [if_neg (fun e => c (inl_inj e))]
      show _ = ((if m.1 = t.1 then (m.1, m.2 + t.2) else m).1.map (Sum.inl : Int → Key), V.int (if m.1 = t.1 then (m.1, m.2 + t.2) else m).2)
      rw [if_neg c]
  · rw [if_neg (by simpa using h), if_neg h, find_none h]
    unfold keysD
    rw [List.map_append, List.map_cons, List.map_nil, Int.zero_add]
theorem keysD_keys {M : List Trm} : (keysD M).map (·.1) = (M.map (·.1)).map (List.map Sum.inl) := by
  unfold keysD
  rw [List.map_map, List.map_map]
  rfl
def spSummed (K : PySem.W.Frag) : Sp := fun vs H Q _ => ∃ (l : Addr) (us : List V) (ts : List Trm) (m : Nat) (c : Int), vs = [.ref l] ∧ SqL K H l us ∧ Tms H us ts ∧ OkT m c ts ∧ ts.length ≤ 4000 ∧
  ∀ (f : Addr) (F : List Trm) (H' : Hp), Same H H' → H f = none → FmAt H' f F → Fm ts F → Q (.ref f) H'
theorem intV {a b : List Int} (h : a.map V.int = b.map V.int) : a = b := by
  induction a generalizing b with
  | nil => cases b with
    | nil => rfl
    | cons y b => cases h
  | cons x a ih => cases b with
    | nil => cases h
    | cons y b =>
      rw [List.map_cons, List.map_cons] at h
      obtain ⟨h1, h2⟩ := List.cons.inj h
      rw [V.int.inj h1, ih h2]
theorem pw_key {H : Hp} {q : Addr} {k : List Int} (h : Pw H q k) : H q = some (.tup ((k.map (Sum.inl : Int → Key)).map kV)) := by
  rw [h, List.map_map]
  rfl
theorem few_keys {ts : List Trm} {m : Nat} {c : Int} (ok : OkT m c ts) : 2 ≤ ((accOf ts).map (·.1)).length → ∀ k ∈ (accOf ts).map (·.1), k ≠ [] := by
  intro h2 k hk e
  have a := acc_ok ts
  have len : ∀ k ∈ (accOf ts).map (·.1), k.length = m := fun k hk => by
    obtain ⟨t, ht, e⟩ := List.mem_map.mp ((a.ks k).mp hk)
    rw [← e]
    exact (ok t ht).1
  have m0 : m = 0 := by rw [← len k hk, e]; rfl
  have all : ∀ k ∈ (accOf ts).map (·.1), k = [] := fun k hk => List.eq_nil_of_length_eq_zero (by rw [len k hk, m0])
  have nd := a.nd
  generalize (accOf ts).map (·.1) = L at *
  match L, h2, nd with
  | x :: y :: r, _, nd =>
    refine (List.nodup_cons.mp nd).1 ?_
    rw [all x List.mem_cons_self, all y (List.mem_cons_of_mem _ List.mem_cons_self)]
    exact List.mem_cons_self
end Mb
namespace Mb
open PySem L2
theorem u0 {n : Nat} (h : n + 64 < cLine) : n < cLine := by omega
theorem r_dget2 {td ty tx : TE} {σ : St} {H : Hp} {Q : VK} (q : td σ H fun x H1 => ∃ a, x = .ref a ∧ IsD H1 a ∧ ty σ H1 fun y H2 => tx σ H2 fun z H3 => ∃ o, DGet H3 a y o ∧ Q (o.getD z) H3) : tDGet2 td ty tx σ H Q := q
theorem keysD_val {ts : List Trm} {k : List Int} (h : k ∈ (accOf ts).map (·.1)) : valV (keysD (accOf ts)) (k.map Sum.inl) = some (.int (sumK ts k)) := by
  have a := acc_ok ts
  obtain ⟨m, hm, e⟩ := List.mem_map.mp h
  have e' : m.1 = k := e
  subst e'
  have g := keysD_get (M := accOf ts) (k := m.1) a.nd 0
  rw [find_some a.nd hm, show (match some m with | some m => m.2 | none => 0) = m.2 from rfl, a.sm m hm] at g
  cases v : valV (keysD (accOf ts)) (m.1.map Sum.inl) with
  | none =>
    unfold valV at v
    have hn : (keysD (accOf ts)).find? (fun kv => decide (kv.1 = m.1.map Sum.inl)) = none := by
      cases q : (keysD (accOf ts)).find? (fun kv => decide (kv.1 = m.1.map Sum.inl)) with
      | none => rfl
      | some x => rw [q] at v; cases v
    have := List.find?_eq_none.mp hn (m.1.map Sum.inl, .int m.2) (List.mem_map.mpr ⟨m, hm, rfl⟩)
    simp at this
  | some x =>
    rw [v] at g
    exact congrArg some g
theorem lc_form {K : PySem.W.Frag} {j : Nat} {tt : TT} {te : TE} {σ : St} {Q : VK} {l : Addr} {qs : List Addr} {ls : List (List Int)} {H : Hp} (val : List Int → Int) (hl : SqL K H l (qs.map V.ref)) (few : ls.length ≤ 10000) (hσ : ∀ v, wipe ((wipe σ [j]).set j (some v)) [j] = wipe σ [j])
    (hq : Paired (fun q k => Pw H q k) qs ls)
    (stT : ∀ (q : Addr) (k : List Int) (H' : Hp), k ∈ ls → Pw H' q k → Same H H' → ∀ R : Bool → Hp → Prop, (∀ H4, Same H' H4 → R (!decide (val k = 0)) H4) → tt ((wipe σ [j]).set j (some (.ref q))) H' R)
    (stE : ∀ (q : Addr) (k : List Int) (H' : Hp), k ∈ ls → Pw H' q k → Same H H' → ∀ R : VK, (∀ (a : Addr) (H4 : Hp), Same H' H4 → H4 a = some (.tup [.ref q, .int (val k)]) → R (.ref a) H4) → te ((wipe σ [j]).set j (some (.ref q))) H' R)
    (fin : ∀ (D : Addr) (us : List V) (H' : Hp), Same H H' → H D = none → H' D = some (.lst us) → Tms H' us ((ls.map fun k => (k, val k)).filter fun t => !decide (t.2 = 0)) → Q (.ref D) H') : lcL K (gName j) tt te [j] σ Q (.ref l) H := by
  refine ⟨l, rfl, ⟨_, hl⟩, fun D hD => ?_⟩
  have lq : qs.length = ls.length := Paired.length hq
  refine lc_list (xs := qs.map V.ref) (fun i H' => ∃ us : List V, Same H H' ∧ H' D = some (.lst us) ∧ us.length ≤ i ∧ Tms H' us (((ls.take i).map fun k => (k, val k)).filter fun t => !decide (t.2 = 0))) ⟨[], same_new hD _, upd_same, Nat.le_refl _, by rw [List.take_zero]; exact .nil⟩ (fun i H' _ h => by obtain ⟨_, h, _⟩ := h; exact h.seq hl) ?_ ?_
  · rintro i x H' hx ⟨us, g, d, lu, tm⟩
    rw [List.getElem?_map] at hx
    obtain ⟨q, hqi, rfl⟩ := Option.map_eq_some_iff.mp hx
    obtain ⟨k, hk, pw⟩ := LiI.paired_get hq hqi
    have hi : i < ls.length := (List.getElem?_eq_some_iff.mp hk).1
    have hm := List.mem_of_getElem? hk
    have e1 : ls.take (i + 1) = ls.take i ++ [k] := by rw [List.take_succ, hk, Option.toList_some]
    have pw' : Pw H' q k := g _ _ pw
    refine ⟨hσ _, ?_⟩
    refine stT q k H' hm pw' g _ fun H3 g3 => ?_
    rw [e1, List.map_append, List.filter_append, List.map_cons, List.map_nil, List.filter_cons]
    cases hk0 : decide (val k = 0) with
    | true =>
      simp only [Bool.not_true, Bool.false_eq_true, if_false, List.filter_nil, List.append_nil]
      exact ⟨us, g.trans g3, g3 _ _ d, by omega, tm.tmk (Kt.same g3)⟩
    | false =>
      simp only [Bool.not_false, if_true, List.filter_nil]
      refine stE q k H3 hm (g3 _ _ pw') (g.trans g3) _ fun a H4 g4 ta => ?_
      have d4 := g4 _ _ (g3 _ _ d)
      have kt : Kt H4 (upd H4 D (.lst (us ++ [.ref a]))) := Kt.lst d4
      refine ⟨_, d4, Nat.lt_of_le_of_lt (show us.length ≤ 10000 by omega) (by decide), us ++ [.ref a], same_updS ((g.trans g3).trans g4) hD, upd_same, by simp; omega, ?_⟩
      exact tms_snoc (((tm.tmk (Kt.same g3)).tmk (Kt.same g4)).tmk kt) ⟨a, q, rfl, kt _ _ ta, kt _ _ (g4 _ _ (g3 _ _ pw'))⟩
  · rintro H' ⟨us, g, d, _, tm⟩
    rw [List.length_map, lq, List.take_length] at tm
    exact fin D us H' g hD d tm
end Mb
namespace Mb
open PySem L2
def spGathered (K : PySem.W.Frag) : Sp := fun vs H Q _ => ∃ (i : Int) (l : Addr) (us : List V) (ts : List Trm) (m : Nat) (c : Int), vs = [.int i, .ref l] ∧ SqL K H l us ∧ Tms H us ts ∧ OkT m c ts ∧ ts.length ≤ 4000 ∧
  ∀ (f : Addr) (F : List Trm) (H' : Hp), Same H H' → H f = none → FmAt H' f F → Fm ts F → Q (.ref f) H'
def spNum : Sp := fun vs H Q _ => ∃ (p : Addr) (b : Int), vs = [.ref p] ∧ Pl H p b ∧ b ≤ 1900000 ∧
  ∀ (n : Int) (H' : Hp), But p H H' → Pl H' p (b + 14) → n.natAbs < 10 ^ 60 → Q (.int n) H'
def spTerms (K : PySem.W.Frag) : Sp := fun vs H Q _ => ∃ (p : Addr) (m most : Nat) (b : Int), vs = [.ref p, .int (m : Int), .int (most : Int)] ∧ Pl H p b ∧ b ≤ 1800000 ∧ m ≤ 7 ∧ most ≤ 60 ∧
  ∀ (l : Addr) (us : List V) (ts : List Trm) (H' : Hp), But p H H' → Pl H' p (b + 3000) → H l = none → H' l = some (.lst us) → Tms H' us ts → OkT m 12 ts → ts.length ≤ most → (∀ t ∈ ts, t.2.natAbs < 10 ^ 60) → Q (.ref l) H'
theorem pw_step {n : Int} {k : Nat} {r : Int} (h0 : 0 ≤ n) (h1 : n < 100000 ^ k) (r0 : 0 ≤ r) (r1 : r < 100000) : 0 ≤ n * 100000 + r ∧ n * 100000 + r < 100000 ^ (k + 1) := by
  rw [Int.pow_succ]
  constructor <;> omega
theorem lexLt_eq : ∀ xs ys : List Int, HT.lexLt xs ys = lexL xs ys
  | [], [] => rfl
  | [], _ :: _ => rfl
  | _ :: _, [] => rfl
  | x :: xs, y :: ys => by
    show (if x = y then HT.lexLt xs ys else decide (x < y)) = (if x = y then lexL xs ys else decide (x < y))
    rw [lexLt_eq xs ys]
/-- what the law asks of a form -/
structure Good (m : Nat) (F : List Trm) : Prop where
  up : F.Pairwise fun x y => lexL x.1 y.1 = true
  nz : ∀ x ∈ F, x.2 ≠ 0
  len : ∀ x ∈ F, x.1.length = m
  pos : ∀ x ∈ F, ∀ p ∈ x.1, 0 ≤ p
theorem Fm.good {ts F : List Trm} {m : Nat} {c : Int} (h : Fm ts F) (k : OkT m c ts) : Good m F :=
  ⟨h.up, fun x hx => ((h.mem x).mp hx).1, fun x hx => (h.ok k x hx).1, fun x hx p hp => ((h.ok k x hx).2 p hp).1⟩
def spFormG (K : PySem.W.Frag) : Sp := fun vs H Q _ => ∃ (f : Addr) (m : Nat) (F : List Trm), vs = [.ref f, .int (m : Int)] ∧ FmAt H f F ∧ Good m F ∧ F.length ≤ 4000 ∧ m ≤ 60 ∧ Q (.bl true) H
def spAlikeF (K : PySem.W.Frag) : Sp := fun vs H Q _ => ∃ (f g : Addr) (m : Nat) (F : List Trm), vs = [.ref f, .int (m : Int), .ref g] ∧ FmAt H f F ∧ FmAt H g F ∧ Good m F ∧ F.length ≤ 4000 ∧ m ≤ 60 ∧ Q (.bl true) H
theorem Tm.dp {K : PySem.W.Frag} {H : Hp} {v : V} {t : Trm} (h : Tm H v t) : Dp K H v (.tuple [.tuple (t.1.map PyData.int), .int t.2]) := by
  obtain ⟨a, q, rfl, h1, h2⟩ := h
  exact .tup (tupOf h1) (.cons (.tup (tupOf h2) (dpAll_ints _)) (.cons (.int _) .nil))
theorem _root_.PySem.Paired.tdp {K : PySem.W.Frag} {H : Hp} : ∀ {us : List V} {ts : List Trm}, Tms H us ts → DpAll K H us (ts.map fun t => .tuple [.tuple (t.1.map PyData.int), .int t.2])
  | _, _, .nil => .nil
  | _, _, .cons h r => .cons (Tm.dp h) (PySem.Paired.tdp r)
theorem tms_lay : ∀ ts : List Trm, PyData.canLayAll0 (ts.map fun t => .tuple [.tuple (t.1.map PyData.int), .int t.2]) = true ∧ PyData.depthAll (ts.map fun t => .tuple [.tuple (t.1.map PyData.int), .int t.2]) ≤ 10
  | [] => ⟨rfl, by decide⟩
  | t :: r => by
    obtain ⟨h1, h2⟩ := tms_lay r
    obtain ⟨g1, g2⟩ := lay_ints t.1
    rw [List.map_cons]
    refine ⟨?_, ?_⟩
    · unfold PyData.canLayAll0
      simp only [PyData.canLay0, PyData.canLayAll0, g1, h1, Bool.and_self]
    · unfold PyData.depthAll
      simp only [PyData.depth, PyData.depthAll]
      omega
theorem tms_sh (ts : List Trm) : (SeqAt.shaped (.list (ts.map fun t => .tuple [.tuple (t.1.map PyData.int), .int t.2])) = true ∧ SeqAt.shaped (.tuple (ts.map fun t => .tuple [.tuple (t.1.map PyData.int), .int t.2])) = true) ∧ PyData.canLay0 (.list (ts.map fun t => .tuple [.tuple (t.1.map PyData.int), .int t.2])) = true ∧ PyData.canLay0 (.tuple (ts.map fun t => .tuple [.tuple (t.1.map PyData.int), .int t.2])) = true := by
  obtain ⟨h1, h2⟩ := tms_lay ts
  have e1 : PyData.canLay0 (.list (ts.map fun t => .tuple [.tuple (t.1.map PyData.int), .int t.2])) = true := by unfold PyData.canLay0; exact h1
  have e2 : PyData.canLay0 (.tuple (ts.map fun t => .tuple [.tuple (t.1.map PyData.int), .int t.2])) = true := by unfold PyData.canLay0; exact h1
  have d1 : PyData.depth (.list (ts.map fun t => .tuple [.tuple (t.1.map PyData.int), .int t.2])) ≤ 64 := by unfold PyData.depth; omega
  have d2 : PyData.depth (.tuple (ts.map fun t => .tuple [.tuple (t.1.map PyData.int), .int t.2])) ≤ 64 := by unfold PyData.depth; omega
  refine ⟨⟨?_, ?_⟩, e1, e2⟩
  · unfold SeqAt.shaped
    rw [e1, decide_eq_true d1]
    rfl
  · unfold SeqAt.shaped
    rw [e2, decide_eq_true d2]
    rfl
theorem r_eqForm {K : PySem.W.Frag} {H : Hp} {Q : VK} {f g : Addr} {F : List Trm} (h1 : FmAt H f F) (h2 : FmAt H g F) (k : Q (.bl true) H) : rEqD K (.ref f) (.ref g) H Q := by
  obtain ⟨us, a1, a2⟩ := h1
  obtain ⟨vs, b1, b2⟩ := h2
  obtain ⟨⟨_, s⟩, _, c⟩ := tms_sh F
  refine ⟨_, _, .tup (tupOf a1) a2.tdp, .tup (tupOf b1) b2.tdp, s, s, ?_⟩
  rw [SeqAt.eqv_refl _ c]
  exact k
theorem r_neForm {K : PySem.W.Frag} {H : Hp} {Q : VK} {f g : Addr} {F : List Trm} (h1 : FmAt H f F) (h2 : FmAt H g F) (k : Q (.bl false) H) : rNeD K (.ref f) (.ref g) H Q := by
  obtain ⟨us, a1, a2⟩ := h1
  obtain ⟨vs, b1, b2⟩ := h2
  obtain ⟨⟨_, s⟩, _, c⟩ := tms_sh F
  refine ⟨_, _, .tup (tupOf a1) a2.tdp, .tup (tupOf b1) b2.tdp, s, s, ?_⟩
  rw [SeqAt.eqv_refl _ c]
  exact k
theorem r_neTms {K : PySem.W.Frag} {H : Hp} {Q : VK} {a b : Addr} {us : List V} {ts : List Trm} (h1 : SqL K H a us) (h2 : SqL K H b us) (tm : Tms H us ts) (k : Q (.bl false) H) : rNeD K (.ref a) (.ref b) H Q := by
  obtain ⟨⟨s, _⟩, c, _⟩ := tms_sh ts
  refine ⟨_, _, .lst h1 tm.tdp, .lst h2 tm.tdp, s, s, ?_⟩
  rw [SeqAt.eqv_refl _ c]
  exact k
end Mb
namespace Mb
open PySem PySem.Spec PyProof.Rows L2
/-! ### max(ints, default=d) -/
def maxOf (ns : List Int) (d : Int) : Int := match ns with
  | [] => d
  | y :: ys => ys.foldl max y
def rMaxDf (K : PySem.W.Frag) : List V → List V → Hp → VK → Prop := fun xs zs H Q => ∃ (a : Addr) (ns : List Int) (d : Int), xs = [.ref a] ∧ zs = [.int d] ∧ (SqL K H a (ns.map V.int) ∨ SqT K H a (ns.map V.int)) ∧ Q (.int (maxOf ns d)) H
theorem reads_ints {h : Heap} {vs : List Value} {ns : List Int} (x : IntsAre vs ns) : ∃ as, ReadsAll h vs (ns.map PyData.int) as := by
  induction x with
  | nil => exact ⟨[], .nil⟩
  | cons n t _ ih =>
    obtain ⟨as, r⟩ := ih
    exact ⟨[] ++ as, .cons (.int n t) r⟩
theorem alike_ints (ns : List Int) : PySem.W.AlikeAll (ns.map PyData.int) := by
  refine ⟨fun x hx y hy => ?_, fun x hx => ?_⟩
  · obtain ⟨i, _, rfl⟩ := List.mem_map.mp hx
    obtain ⟨j, _, rfl⟩ := List.mem_map.mp hy
    rfl
  · obtain ⟨i, _, rfl⟩ := List.mem_map.mp hx
    exact fun e => nomatch e
theorem ints_data {y : PyData} {ys : List PyData} {ns : List Int} (e : ns.map PyData.int = y :: ys) : ∃ n ms, ns = n :: ms ∧ y = .int n ∧ ys = ms.map PyData.int := by
  cases ns with
  | nil => cases e
  | cons n ms =>
    obtain ⟨h1, h2⟩ := List.cons.inj e
    exact ⟨n, ms, rfl, h1.symm, h2.symm⟩
theorem cr_maxDf {X : Cx} (hc : X.calm = true) (hu : X.A.units + 64 < cLine) : CallRK X (.builtin "max") ["default"] (rMaxDf X.K) := by
  intro pins s σ H xs zs us ws Q I r1 r2 h
  obtain ⟨a, ns, d, rfl, rfl, hs, q⟩ := h
  obtain ⟨u, rfl, ru⟩ := vals1 r1
  obtain ⟨w', rfl, rw'⟩ := vals1 r2
  obtain rfl : u = Value.ref a := ru
  obtain ⟨t, rfl⟩ := rw'
  have dd : X.A.units + 1 + PyData.depthAll (ns.map PyData.int) < cLine := by
    have := (lay_ints ns).2
    omega
  have hh := I.ok.hd hc
  have nil : ns.map PyData.int = [] → ∀ (h' : Heap) (tk : Nat), (∀ b o, s.heap.get? b = some o → h'.get? b = some o) → EP X pins σ Q (.int d t) { s with heap := h', toks := tk } := fun e h' tk hk => by
    have e0 : ns = [] := by
      cases ns with
      | nil => rfl
      | cons _ _ => cases e
    subst e0
    exact ⟨.int d, H, I.kept hk, ⟨_, rfl⟩, q⟩
  have some_ : ∀ (y : PyData) (ys : List PyData) (v : Value) (h' : Heap) (tk : Nat) (bs : List Addr), ns.map PyData.int = y :: ys → Reads h' v (PySem.W.maxD y ys) bs → (∀ b o, s.heap.get? b = some o → h'.get? b = some o) → EP X pins σ Q v { s with heap := h', toks := tk } := fun y ys v h' tk bs e r hk => by
    obtain ⟨n, ms, rfl, rfl, rfl⟩ := ints_data e
    rw [PySem.W.maxD_ints] at r
    cases r with
    | int i t' => exact ⟨.int _, H, I.kept hk, ⟨_, rfl⟩, q⟩
  rcases hs with hs | hs
  · obtain ⟨its, rv, hl, _⟩ := I.list hs
    obtain ⟨as, ra⟩ := reads_ints (h := s.heap) rv.ints
    exact PySem.W.max_list_default hh hl.isList ra (alike_ints ns) dd (fun e h' tk hk => nil e h' tk hk) fun y ys i v h' tk bs e _ r hk => some_ y ys v h' tk bs e r hk
  · obtain ⟨its, rv, hl, _⟩ := I.tuple hs
    obtain ⟨as, ra⟩ := reads_ints (h := s.heap) rv.ints
    exact PySem.W.max_tuple_default hh (show s.heap.IsTuple a its.toArray from hl) ra (alike_ints ns) dd (fun e h' tk hk => nil e h' tk hk) fun y ys i v h' tk bs e _ r hk => some_ y ys v h' tk bs e r hk
end Mb
namespace Mb
open PySem L2
/-! ### a number put in -/
/-- what the terms weigh by a measure of their powers -/
def wsum (φ : List Int → Int) (ts : List Trm) : Int := (ts.map fun t => t.2 * φ t.1).sum
theorem wsum_cons {φ : List Int → Int} {t : Trm} {ts : List Trm} : wsum φ (t :: ts) = t.2 * φ t.1 + wsum φ ts := rfl
theorem wsum_app {φ : List Int → Int} : ∀ (a b : List Trm), wsum φ (a ++ b) = wsum φ a + wsum φ b
  | [], b => by show wsum φ b = 0 + wsum φ b; omega
  | t :: a, b => by
    rw [List.cons_append, wsum_cons, wsum_cons, wsum_app a b]
    omega
theorem wsum_split {φ : List Int → Int} (k : List Int) : ∀ ts : List Trm, wsum φ ts = sumK ts k * φ k + wsum φ (ts.filter fun t => !decide (t.1 = k))
  | [] => by show (0 : Int) = 0 * φ k + 0; omega
  | t :: r => by
    rw [wsum_cons, wsum_split k r, sumK_cons, List.filter_cons]
    by_cases h : t.1 = k
    · rw [if_pos h, if_neg (by simp [h]), h, Int.add_mul]
      omega
    · rw [if_neg h, if_pos (by simp [h]), wsum_cons, Int.zero_add]
      omega
theorem sumK_filter {ts : List Trm} {k j : List Int} : sumK (ts.filter fun t => !decide (t.1 = k)) j = if j = k then 0 else sumK ts j := by
  by_cases h : j = k
  · rw [if_pos h]
    refine sumK_none fun hm => ?_
    obtain ⟨t, ht, e⟩ := List.mem_map.mp hm
    have := (List.mem_filter.mp ht).2
    have e' : t.1 = j := e
    rw [e', h] at this
    simp at this
  · rw [if_neg h]
    unfold sumK
    rw [List.filter_filter]
    congr 2
    refine List.filter_congr fun t _ => ?_
    by_cases c : t.1 = j
    · simp [c, h]
    · simp [c]
theorem wsum_zero (φ : List Int → Int) : ∀ (n : Nat) (ts : List Trm), ts.length ≤ n → (∀ k, sumK ts k = 0) → wsum φ ts = 0
  | _, [], _, _ => rfl
  | n + 1, t :: r, hn, h => by
    rw [wsum_split t.1, h t.1, Int.zero_mul, Int.zero_add]
    refine wsum_zero φ n _ ?_ fun k => by
      rw [sumK_filter]
      split
      · rfl
      · exact h k
    rw [List.filter_cons, if_neg (by simp)]
    have := List.length_filter_le (fun u : Trm => !decide (u.1 = t.1)) r
    simp only [List.length_cons] at hn
    omega
def negT (ts : List Trm) : List Trm := ts.map fun t => (t.1, -t.2)
theorem sumK_neg {ts : List Trm} {k : List Int} : sumK (negT ts) k = -sumK ts k := by
  induction ts with
  | nil => rfl
  | cons t r ih =>
    show sumK ((t.1, -t.2) :: negT r) k = _
    rw [sumK_cons, sumK_cons, ih]
    show (if t.1 = k then -t.2 else 0) + -sumK r k = _
    split <;> omega
theorem wsum_neg {φ : List Int → Int} {ts : List Trm} : wsum φ (negT ts) = -wsum φ ts := by
  induction ts with
  | nil => rfl
  | cons t r ih =>
    show wsum φ ((t.1, -t.2) :: negT r) = _
    rw [wsum_cons, wsum_cons, ih]
    show -t.2 * φ t.1 + _ = _
    rw [Int.neg_mul]
    omega
/-- it hangs on the sums alone -/
theorem wsum_same {φ : List Int → Int} {a b : List Trm} (h : ∀ k, sumK a k = sumK b k) : wsum φ a = wsum φ b := by
  have := wsum_zero φ _ (a ++ negT b) (Nat.le_refl _) fun k => by
    rw [sumK_app, sumK_neg, h k]
    omega
  rw [wsum_app, wsum_neg] at this
  omega
def putT (a : Nat) (n : Int) (ts : List Trm) : List Trm := ts.map fun t => (t.1.set a 0, t.2 * n ^ (t.1.getD a 0).toNat)
theorem sumK_put {a : Nat} {n : Int} {ts : List Trm} {k : List Int} : sumK (putT a n ts) k = wsum (fun p => if p.set a 0 = k then n ^ (p.getD a 0).toNat else 0) ts := by
  induction ts with
  | nil => rfl
  | cons t r ih =>
    show sumK ((t.1.set a 0, t.2 * n ^ (t.1.getD a 0).toNat) :: putT a n r) k = _
    rw [sumK_cons, wsum_cons, ih]
    show (if t.1.set a 0 = k then t.2 * n ^ (t.1.getD a 0).toNat else 0) + _ = t.2 * (if t.1.set a 0 = k then n ^ (t.1.getD a 0).toNat else 0) + _
    split
    · rfl
    · rw [Int.mul_zero]
theorem put_same {a : Nat} {n : Int} {A B : List Trm} (h : ∀ k, sumK A k = sumK B k) (k : List Int) : sumK (putT a n A) k = sumK (putT a n B) k := by
  rw [sumK_put, sumK_put, wsum_same h]
theorem uniq_sum {F : List Trm} (nd : (F.map (·.1)).Nodup) : ∀ x ∈ F, sumK F x.1 = x.2 := by
  induction F with
  | nil => intro x hx; cases hx
  | cons t r ih =>
    intro x hx
    obtain ⟨h1, h2⟩ := List.nodup_cons.mp nd
    rw [sumK_cons]
    rcases List.mem_cons.mp hx with rfl | hx
    · rw [if_pos rfl, sumK_none h1, Int.add_zero]
    · rw [if_neg (fun e => h1 (List.mem_map.mpr ⟨x, hx, e.symm⟩)), ih h2 x hx, Int.zero_add]
theorem up_nd {F : List Trm} (h : F.Pairwise fun x y => lexL x.1 y.1 = true) : (F.map (·.1)).Nodup := List.pairwise_map.mpr (h.imp fun {x y} q e => by
  rw [e, lexL_irr] at q
  cases q)
theorem Fm.sum {ts F : List Trm} (h : Fm ts F) (k : List Int) : sumK F k = sumK ts k := by
  by_cases c : k ∈ F.map (·.1)
  · obtain ⟨x, hx, e⟩ := List.mem_map.mp c
    have e' : x.1 = k := e
    rw [← e', uniq_sum (up_nd h.up) x hx]
    exact ((h.mem x).mp hx).2
  · rw [sumK_none c]
    by_cases z : sumK ts k = 0
    · exact z.symm
    · exact absurd (List.mem_map.mpr ⟨(k, sumK ts k), (h.mem _).mpr ⟨z, rfl⟩, rfl⟩) c
theorem fm_self {F : List Trm} (up : F.Pairwise fun x y => lexL x.1 y.1 = true) (nz : ∀ x ∈ F, x.2 ≠ 0) : Fm F F :=
  ⟨up, fun x => ⟨fun hx => ⟨nz x hx, (uniq_sum (up_nd up) x hx).symm⟩, fun ⟨h1, h2⟩ => by
    by_cases c : x.1 ∈ F.map (·.1)
    · obtain ⟨y, hy, e⟩ := List.mem_map.mp c
      have e' : y.1 = x.1 := e
      have := uniq_sum (up_nd up) y hy
      rw [e', ← h2] at this
      have : x = y := Prod.ext e'.symm this
      rw [this]
      exact hy
    · rw [sumK_none c] at h2
      exact absurd h2 h1⟩⟩
theorem put_put {a b : Nat} {n m : Int} {ts : List Trm} (ne : a ≠ b) : putT a n (putT b m ts) = putT b m (putT a n ts) := by
  unfold putT
  rw [List.map_map, List.map_map]
  refine List.map_congr_left fun t _ => ?_
  show ((t.1.set b 0).set a 0, t.2 * m ^ (t.1.getD b 0).toNat * n ^ ((t.1.set b 0).getD a 0).toNat) = ((t.1.set a 0).set b 0, t.2 * n ^ (t.1.getD a 0).toNat * m ^ ((t.1.set a 0).getD b 0).toNat)
  have e1 : (t.1.set b 0).getD a 0 = t.1.getD a 0 := by
    rw [List.getD_eq_getElem?_getD, List.getD_eq_getElem?_getD, List.getElem?_set_ne (Ne.symm ne)]
  have e2 : (t.1.set a 0).getD b 0 = t.1.getD b 0 := by
    rw [List.getD_eq_getElem?_getD, List.getD_eq_getElem?_getD, List.getElem?_set_ne ne]
  rw [e1, e2, List.set_comm _ _ ne, Int.mul_assoc, Int.mul_assoc, Int.mul_comm (m ^ _)]
theorem put_ok {a m : Nat} {c n : Int} {ts : List Trm} (hc : 0 ≤ c) (h : OkT m c ts) : OkT m c (putT a n ts) := fun x hx => by
  obtain ⟨t, ht, rfl⟩ := List.mem_map.mp hx
  obtain ⟨h1, h2⟩ := h t ht
  refine ⟨by rw [List.length_set]; exact h1, fun p hp => ?_⟩
  rcases List.mem_or_eq_of_mem_set hp with hp | hp
  · exact h2 p hp
  · rw [hp]
    omega
/-! sizes -/
theorem sum_sm {B : Nat} {ts : List Trm} (h : ∀ t ∈ ts, Sm B t.2) (k : List Int) : (sumK ts k).natAbs ≤ ts.length * 2 ^ B := by
  induction ts with
  | nil => exact Nat.zero_le _
  | cons t r ih =>
    have h1 := ih fun u hu => h u (List.mem_cons_of_mem _ hu)
    have h2 : t.2.natAbs < 2 ^ B := h t List.mem_cons_self
    rw [sumK_cons, List.length_cons, Nat.add_mul]
    generalize r.length * 2 ^ B = X at *
    generalize 2 ^ B = Y at *
    split <;> omega
theorem Fm.sm {B : Nat} {ts F : List Trm} (f : Fm ts F) (h : ∀ t ∈ ts, Sm B t.2) (l : ts.length ≤ 1000) : ∀ x ∈ F, Sm (B + 10) x.2 := fun x hx => by
  have h1 := sum_sm h x.1
  rw [← ((f.mem x).mp hx).2] at h1
  have h2 : ts.length * 2 ^ B ≤ 1000 * 2 ^ B := Nat.mul_le_mul_right _ l
  have h3 : 1000 * 2 ^ B < 2 ^ 10 * 2 ^ B := Nat.mul_lt_mul_of_pos_right (by decide) (Nat.pow_pos (by decide))
  show x.2.natAbs < 2 ^ (B + 10)
  rw [Nat.pow_add, Nat.mul_comm (2 ^ B)]
  omega
theorem Sm.pow {B : Nat} {n : Int} (h : Sm B n) : ∀ j : Nat, Sm (B * j + 1) (n ^ j)
  | 0 => by unfold Sm; simp
  | j + 1 => by
    rw [Int.pow_succ]
    have := (Sm.pow h j).mul h
    exact this.mono (by rw [Nat.mul_add]; omega)
theorem sm60 {n : Int} (h : n.natAbs < 10 ^ 60) : Sm 200 n := Nat.lt_trans h (by decide)
/-! promises -/
def spPows (K : PySem.W.Frag) : Sp := fun vs H Q _ => ∃ (n : Int) (k B : Nat), vs = [.int n, .int (k : Int)] ∧ Sm B n ∧ B ≤ 10000 ∧ 1 ≤ B ∧ k ≤ 50 ∧
  ∀ (l : Addr) (H' : Hp), Same H H' → H l = none → H' l = some (.lst (((List.range (k + 1)).map fun j => n ^ j).map V.int)) → Q (.ref l) H'
def spPow : Sp := fun vs H Q _ => ∃ (n : Int) (k B : Nat), vs = [.int n, .int (k : Int)] ∧ Sm B n ∧ B ≤ 10000 ∧ 1 ≤ B ∧ k ≤ 50 ∧ Q (.int (n ^ k)) H
def spGreatest (K : PySem.W.Frag) : Sp := fun vs H Q _ => ∃ (f : Addr) (F : List Trm) (m : Nat) (c : Int), vs = [.ref f] ∧ FmAt H f F ∧ OkT m c F ∧ 0 ≤ c ∧ F.length ≤ 4000 ∧
  ∀ (g : Int) (H' : Hp), Same H H' → 0 ≤ g → g ≤ c → (∀ t ∈ F, ∀ p ∈ t.1, p ≤ g) → Q (.int g) H'
def spPutIn (K : PySem.W.Frag) : Sp := fun vs H Q _ => ∃ (f : Addr) (F : List Trm) (a m B C : Nat) (c n : Int), vs = [.ref f, .int (a : Int), .int n] ∧ FmAt H f F ∧ OkT m c F ∧ 0 ≤ c ∧ c ≤ 40 ∧ a < m ∧ m ≤ 60 ∧ F.length ≤ 1000 ∧ Sm B n ∧ 1 ≤ B ∧ B ≤ 10000 ∧ (∀ t ∈ F, Sm C t.2) ∧ 1 ≤ C ∧ C ≤ 100000 ∧
  ∀ (g : Addr) (G : List Trm) (H' : Hp), Same H H' → H g = none → FmAt H' g G → Fm (putT a n F) G → Q (.ref g) H'
def spDrawn (K : PySem.W.Frag) : Sp := fun vs H Q _ => ∃ (p : Addr) (m most : Nat) (b : Int), vs = [.ref p, .int (m : Int), .int (most : Int)] ∧ Pl H p b ∧ b ≤ 1800000 ∧ m ≤ 7 ∧ most ≤ 60 ∧
  ∀ (f : Addr) (F : List Trm) (H' : Hp), But p H H' → Pl H' p (b + 3000) → H f = none → FmAt H' f F → Fm F F → OkT m 12 F → F.length ≤ most → (∀ t ∈ F, t.2.natAbs < 10 ^ 60) → Q (.ref f) H'
/-! ### comprehensions over a form's terms -/
def lcT (K : PySem.W.Frag) (g : TG) (tt : TT) (te : TE) (vs : List Nat) (σ : St) (Q : VK) (x : V) (H1 : Hp) : Prop := ∃ a, x = .ref a ∧ (∃ xs, SqT K H1 a xs) ∧ ∀ D, H1 D = none → ∃ W : Nat → Nat → Hp → Prop, (∃ m, W 0 m (upd H1 D (.lst []))) ∧ ∀ i m H, W i m H →
  ((Itt K a).stop i H ∧ Q (.ref D) H) ∨ ((Itt K a).go i H ∧ ∃ Nx : Hp → Prop, (∀ H', Nx H' → ∃ m', m' < m ∧ W (i + 1) m' H') ∧ ∀ x H', (Itt K a).yld i H x H' → g x (wipe σ vs) H' fun σ2 H2 => wipe σ2 vs = wipe σ vs ∧ tt σ2 H2 fun b H3 =>
    if b = true then te σ2 H3 fun y H4 => ∃ acc, H4 D = some (.lst acc) ∧ acc.length < sizeLine ∧ Nx (upd H4 D (.lst (acc ++ [y]))) else Nx H3)
theorem r_lcT {K : PySem.W.Frag} {tl : TE} {g : TG} {tt : TT} {te : TE} {vs : List Nat} {σ : St} {H : Hp} {Q : VK} (q : tl σ H (lcT K g tt te vs σ Q)) : tLc (iTup K tl) g tt te vs σ H Q := q
theorem paired_snoc' {α β : Type} {R : α → β → Prop} {a : α} {b : β} (h : R a b) : ∀ {xs : List α} {ys : List β}, Paired R xs ys → Paired R (xs ++ [a]) (ys ++ [b])
  | _, _, .nil => .cons h .nil
  | _, _, .cons k r => .cons k (paired_snoc' h r)
theorem lc_terms {K : PySem.W.Frag} {i j : Nat} {te : TE} {σ : St} {Q : VK} {f : Addr} {us : List V} {F : List Trm} {H : Hp} (R : Hp → V → Trm → Prop) (mono : ∀ {H H' : Hp} {v : V} {t : Trm}, Kt H H' → R H v t → R H' v t) (hf : H f = some (.tup us)) (tm : Tms H us F) (few : F.length ≤ 10000)
    (hσ : ∀ u v, wipe (((wipe σ [i, j]).set i (some u)).set j (some v)) [i, j] = wipe σ [i, j])
    (stE : ∀ (t : Trm) (q : Addr) (H' : Hp), t ∈ F → Same H H' → Pw H' q t.1 → ∀ S : VK, (∀ (v : V) (H4 : Hp), Same H' H4 → R H4 v t → S v H4) → te (((wipe σ [i, j]).set i (some (.ref q))).set j (some (.int t.2))) H' S)
    (fin : ∀ (D : Addr) (vs : List V) (H' : Hp), Same H H' → H D = none → H' D = some (.lst vs) → Paired (R H') vs F → Q (.ref D) H') : lcT K (gTup K 2 (gCons (gName i) (gCons (gName j) gNil))) tYes te [i, j] σ Q (.ref f) H := by
  refine ⟨f, rfl, ⟨_, tupOf hf⟩, fun D hD => ?_⟩
  have ln : us.length = F.length := Paired.length tm
  refine lc_it (walk_tup (K := K) (a := f) (xs := us)) (fun n H' => ∃ vs : List V, Same H H' ∧ H' D = some (.lst vs) ∧ vs.length = n ∧ Paired (R H') vs (F.take n)) ⟨[], same_new hD _, upd_same, rfl, by rw [List.take_zero]; exact .nil⟩ (fun n H' _ h => by obtain ⟨_, h, _⟩ := h; exact tupOf (h _ _ hf)) ?_ ?_
  · rintro n x H' H'' hn ⟨vs, g, d, lv, pr⟩ ⟨rfl, hx⟩
    obtain ⟨t, ht, a, q, rfl, ta, pw⟩ := tm.at hx
    have hm := List.mem_of_getElem? ht
    have e1 : F.take (n + 1) = F.take n ++ [t] := by rw [List.take_succ, ht, Option.toList_some]
    refine r_gT (tupOf (g _ _ ta)) rfl ?_
    refine r_g2 ?_
    refine ⟨hσ _ _, ?_⟩
    refine r_yes ?_
    rw [if_pos rfl]
    refine stE t q H'' hm g (g _ _ pw) _ fun v H4 g4 rv => ?_
    have d4 := g4 _ _ d
    have kt : Kt H4 (upd H4 D (.lst (vs ++ [v]))) := Kt.lst d4
    refine ⟨_, d4, Nat.lt_of_le_of_lt (show vs.length ≤ 10000 by omega) (by decide), vs ++ [v], same_updS (g.trans g4) hD, upd_same, by simp [lv], ?_⟩
    rw [e1]
    exact paired_snoc' (mono kt rv) (Paired.mapP pr fun _ _ h => mono kt (mono (Kt.same g4) h))
  · rintro H' ⟨vs, g, d, lv, pr⟩
    rw [ln, List.take_length] at pr
    exact fin D vs H' g hD d pr
end Mb
namespace Mb
open PySem L2
theorem r_ckw {r : List V → List V → Hp → VK → Prop} {t tk : TA} {σ : St} {H : Hp} {Q : VK} (q : t σ H fun vs H1 => tk σ H1 fun zs H2 => r vs zs H2 Q) : tCKw r t tk σ H Q := q
theorem fold_max : ∀ (ns : List Int) (m : Int), m ≤ ns.foldl max m ∧ (∀ x ∈ ns, x ≤ ns.foldl max m) ∧ (ns.foldl max m = m ∨ ns.foldl max m ∈ ns)
  | [], m => ⟨Int.le_refl _, (fun x hx => by cases hx), .inl rfl⟩
  | n :: r, m => by
    obtain ⟨h1, h2, h3⟩ := fold_max r (max m n)
    rw [List.foldl_cons]
    refine ⟨by omega, fun x hx => ?_, ?_⟩
    · rcases List.mem_cons.mp hx with rfl | hx
      · omega
      · exact h2 x hx
    · rcases h3 with h3 | h3
      · rw [h3]
        rcases Int.le_total m n with c | c
        · exact .inr (by rw [Int.max_eq_right c]; exact List.mem_cons_self)
        · exact .inl (Int.max_eq_left c)
      · exact .inr (List.mem_cons_of_mem _ h3)
theorem maxOf_le {ns : List Int} : ∀ x ∈ ns, x ≤ maxOf ns 0 := fun x hx => by
  cases ns with
  | nil => cases hx
  | cons n r =>
    obtain ⟨h1, h2, _⟩ := fold_max r n
    rcases List.mem_cons.mp hx with rfl | hx
    · exact h1
    · exact h2 x hx
theorem maxOf_in {ns : List Int} {c : Int} (h : ∀ p ∈ ns, 0 ≤ p ∧ p ≤ c) (hc : 0 ≤ c) : 0 ≤ maxOf ns 0 ∧ maxOf ns 0 ≤ c := by
  cases ns with
  | nil => exact ⟨Int.le_refl _, hc⟩
  | cons n r =>
    obtain ⟨_, _, h3⟩ := fold_max r n
    rcases h3 with h3 | h3
    · show 0 ≤ r.foldl max n ∧ r.foldl max n ≤ c
      rw [h3]
      exact h n List.mem_cons_self
    · exact h _ (List.mem_cons_of_mem _ h3)
/-- the powers with 0 at their a-th -/
theorem set_cut {k : List Int} {a : Nat} (h : a < k.length) : cutV (k.map V.int) none (some (a : Int)) ++ ([V.int 0] ++ cutV (k.map V.int) (some ((a : Int) + 1)) none) = (k.set a 0).map V.int := by
  unfold cutV
  have l : (k.map V.int).length = k.length := List.length_map _
  have e0 : HT.sIx (k.map V.int).length 0 none = 0 := rfl
  have e1 : HT.sIx (k.map V.int).length (k.map V.int).length none = (k.map V.int).length := rfl
  have e2 : HT.sIx (k.map V.int).length (k.map V.int).length (some (a : Int)) = a := by
    rw [HT.sIx_nat, l]
    omega
  have e3 : HT.sIx (k.map V.int).length 0 (some ((a : Int) + 1)) = a + 1 := by
    rw [show ((a : Int) + 1) = (((a + 1 : Nat)) : Int) by omega, HT.sIx_nat, l]
    omega
  rw [e0, e1, e2, e3, List.drop_zero, Nat.sub_zero, ← List.map_drop, ← List.map_take, l, ← List.map_take]
  rw [List.take_of_length_le (show (k.drop (a + 1)).length ≤ k.length - (a + 1) by rw [List.length_drop]; omega)]
  rw [List.set_eq_take_append_cons_drop, if_pos h, List.map_append, List.map_cons]
  rfl
theorem cutA {k : List Int} {a : Nat} (h : a < k.length) : ¬ (HT.sIx (k.map V.int).length 0 none = 0 ∧ HT.sIx (k.map V.int).length (k.map V.int).length (some (a : Int)) = (k.map V.int).length) := by
  rintro ⟨_, e⟩
  rw [HT.sIx_nat, List.length_map] at e
  omega
theorem cutB {k : List Int} {a : Nat} (h : a < k.length) : ¬ (HT.sIx (k.map V.int).length 0 (some ((a : Int) + 1)) = 0 ∧ HT.sIx (k.map V.int).length (k.map V.int).length none = (k.map V.int).length) := by
  rintro ⟨e, e2⟩
  rw [show ((a : Int) + 1) = (((a + 1 : Nat)) : Int) by omega, HT.sIx_nat, List.length_map] at e
  omega
theorem r_star {K : PySem.W.Frag} {te : TE} {t : TA} {σ : St} {H : Hp} {Q : List V → Hp → Prop} (q : te σ H fun x H1 => ∃ p xs, x = V.ref p ∧ (SqT K H1 p xs ∨ SqL K H1 p xs) ∧ t σ H1 fun ys H2 => Q (xs ++ ys) H2) : StX.tStar K te t σ H Q := q
theorem tmput {H : Hp} {a : Nat} {n : Int} : ∀ {vs : List V} {F : List Trm}, Paired (fun v t => Tm H v (t.1.set a 0, t.2 * n ^ (t.1.getD a 0).toNat)) vs F → Tms H vs (putT a n F)
  | _, _, .nil => .nil
  | _, _, .cons h r => .cons h (tmput r)
theorem getD_at {k : List Int} {a : Nat} (h : a < k.length) : k.getD a 0 ∈ k ∧ atI (k.map V.int) (a : Int) = some (.int (k.getD a 0)) := by
  have e : k[a]? = some k[a] := List.getElem?_eq_getElem h
  have g : k.getD a 0 = k[a] := by rw [List.getD_eq_getElem?_getD, e]; rfl
  rw [g]
  exact ⟨List.getElem_mem h, atI_nat (by rw [List.getElem?_map, e]; rfl)⟩
theorem pows_at {n : Int} {k j : Nat} (h : j ≤ k) : atI (((List.range (k + 1)).map fun j => n ^ j).map V.int) (j : Int) = some (.int (n ^ j)) :=
  atI_nat (by rw [List.getElem?_map, List.getElem?_map, List.getElem?_range (by omega)]; rfl)
end Mb
namespace Mb
open PySem L2
def clampI (M n : Int) : Int := if (if M < n then M else n) > -M then (if M < n then M else n) else -M
theorem clamp_nz {M n : Int} (hM : 0 < M) (h : n ≠ 0) : clampI M n ≠ 0 := by
  unfold clampI
  split
  · split <;> omega
  · omega
theorem clamp_le {M n : Int} (hM : 0 < M) : (clampI M n).natAbs ≤ M.natAbs := by
  unfold clampI
  split
  · split <;> omega
  · omega
def clampT (M : Int) (F : List Trm) : List Trm := F.map fun t => (t.1, clampI M t.2)
theorem tmclamp {H : Hp} {M : Int} : ∀ {vs : List V} {F : List Trm}, Paired (fun v t => Tm H v (t.1, clampI M t.2)) vs F → Tms H vs (clampT M F)
  | _, _, .nil => .nil
  | _, _, .cons h r => .cons h (tmclamp r)
def spLaid (K : PySem.W.Frag) : Sp := fun vs H Q _ => ∃ (f : Addr) (F : List Trm) (a m B C : Nat) (c n : Int), vs = [.ref f, .int (a : Int), .int n] ∧ FmAt H f F ∧ OkT m c F ∧ 0 ≤ c ∧ c ≤ 40 ∧ a < m ∧ m ≤ 60 ∧ F.length ≤ 1000 ∧ Sm B n ∧ 1 ≤ B ∧ B ≤ 10000 ∧ (∀ t ∈ F, Sm C t.2) ∧ 1 ≤ C ∧ C ≤ 100000 ∧
  ∀ (g : Addr) (G : List Trm) (H' : Hp), Same H H' → H g = none → FmAt H' g G → Fm (putT a n F) G → Q (.ref g) H'
theorem putT_snoc {a : Nat} {n : Int} {ts : List Trm} {t : Trm} : putT a n (ts ++ [t]) = putT a n ts ++ [(t.1.set a 0, t.2 * n ^ (t.1.getD a 0).toNat)] := by
  unfold putT
  rw [List.map_append]
  rfl
end Mb
namespace Mb
open PySem L2
theorem r_catA {K : PySem.W.Frag} {H : Hp} {Q : VK} {a b : Addr} {xs ys : List V} (ha : H a = some (.tup xs)) (hb : H b = some (.tup ys)) (hz : xs.length + ys.length ≤ sizeLine) (q : ∀ (p : Addr) (H' : Hp), Same H H' → H' p = some (.tup (xs ++ ys)) → Q (.ref p) H') : rCatA K (.ref a) (.ref b) H Q := by
  refine ⟨a, b, xs, ys, rfl, rfl, tupOf ha, tupOf hb, hz, fun h => ?_, fun _ h => ?_, fun _ _ p hp => ?_⟩
  · subst h
    exact q b H (Same.refl H) hb
  · subst h
    exact q a H (Same.refl H) (by rw [List.append_nil]; exact ha)
  · exact q p _ (same_new hp _) upd_same
end Mb
namespace Mb
open PySem PySem.Spec PyProof.Rows L2
/-! ### sorted(d) of a dict with whole numbers for keys, any number of them -/
def rSortedDIb (K : PySem.W.Frag) : List V → Hp → VK → Prop := fun vs H Q => ∃ (a : Addr) (kvs : List (Key × V)) (ks : List Int), vs = [.ref a] ∧ H a = some (.dK kvs) ∧ kvs.map (·.1) = ks.map Sum.inl ∧
  ∀ (ys : List Int) (p : Addr), ys.Perm ks → ys.Pairwise (· ≤ ·) → H p = none → Q (.ref p) (upd H p (.lst (ys.map V.int)))
theorem cr_sortedDIb {X : Cx} (hcalm : X.calm = true) : CallR X (.builtin "sorted") (rSortedDIb X.K) := by
  intro pins s σ H xs us Q I r q
  obtain ⟨a, kvs, ks, ex, hd, hks, q⟩ := q
  subst ex
  obtain ⟨u, eu, rx⟩ := vals1 r
  subst eu
  cases rx
  obtain ⟨z, lo, vs, rel, dd⟩ := (show ObjOk X.prog X.w H s.heap a (.dK kvs) from I.hok a _ hd)
  obtain ⟨ep, hat⟩ := dd.dictAt
  have hkeys : vs.map (·.1) = ks.map Sum.inl := rel.keys.symm.trans hks
  have hl : vs.length = ks.length := by
    have e := congrArg List.length hkeys
    rw [List.length_map, List.length_map] at e
    exact e
  have h16 : vs.length ≤ sizeLine := by
    rw [← Paired.length rel]
    exact z
  refine Calls.call_function_entry PyProof.Rows.kind_sorted PyProof.Rows.plain_sorted PyProof.Rows.entry_sorted (PyProof.Rows.args_sorted1 _) ?_
  unfold Builtin.«sorted»
  refine wpAny_bind (m := checkCount "sorted" 1 1 _) (wpAny_pure ?_)
  refine wpAny_bind (PySem.W.kdu_collect (A := X.A.in1) (PySem.W.kdl_dict (knd := mixKind X.prog X.w) (kvs := vs) (ep := ep) lo) (I.ok.hd hcalm) hat h16 fun h' tk acc hk hacc => ?_)
  have hal : acc.toList.length = ks.length := by rw [Array.length_toList, hacc.1, hl]
  have hS : IntsAre acc.toList ks := ints_each hal fun j v e => by
    obtain ⟨k, x, e1, e2⟩ := hacc.2 j v (by rw [← Array.getElem?_toList]; exact e)
    have e3 : (vs.map (·.1))[j]? = some k := by rw [List.getElem?_map, e1]; rfl
    rw [hkeys, List.getElem?_map] at e3
    cases e4 : ks[j]? with
    | none => rw [e4] at e3; cases e3
    | some y =>
      rw [e4] at e3
      have e5 : Sum.inl y = k := Option.some.inj e3
      subst e5
      rcases keyIs_shape (show keyIs (Sum.inl y) v = true from e2) with ⟨i, t, ek, ev⟩ | ⟨z, t, ek, ev⟩
      · cases ek
        exact ⟨y, t, rfl, ev⟩
      · cases ek
  have I1 : Inv X pins σ H { s with heap := h', toks := tk } := I.kept hk
  refine wpAny_bind (wpAny_newList ?_ (by rw [hal, ← hl]; exact h16))
  have hoL : (h'.push (seqObj "list" acc.toList.toArray 0)).get? h'.objs.size = some (seqObj "list" acc.toList.toArray 0) := Heap.get?_push_size _ rfl
  show wpAny _ _ _ _ _ { s with heap := h'.push (seqObj "list" acc.toList.toArray 0), toks := tk }
  refine wpAny_bind (wpAny_holding (wpAny_call_entry PyProof.Rows.slot_list_sort ⟨_, hoL, rfl⟩ PyProof.Rows.entry_list_sort
    (SrtO.list_sort_ord (s := { s with heap := h'.push (seqObj "list" acc.toList.toArray 0), toks := tk }) SrtO.swo_int hoL (by rw [hal, ← hl]; exact h16) (fun h2 => SrtO.ints_sortable hS h2) fun out g1 g2 => ⟨_, rfl, ?_⟩) (PyProof.Rows.args_list_sort _)))
  obtain ⟨k1, k2, k3⟩ := SrtO.ints_out hS g1 g2
  obtain ⟨e', he'⟩ := PyProof.Rows.sortedHeap_at (vs := acc.toList) (out := out.toArray) hoL
  have hlen : ((out.map SrtO.iv).map V.int).length ≤ sizeLine := by
    rw [List.length_map, k2.length_eq, ← hl]
    exact h16
  refine wpAny_pure ⟨_, rfl, .ref h'.objs.size, upd H h'.objs.size (.lst ((out.map SrtO.iv).map V.int)), I1.laid (t' := tk) (fun b u e => ?_) (Nat.le_refl _)
    (show ObjOk X.prog X.w _ _ _ (.lst ((out.map SrtO.iv).map V.int)) from ⟨hlen, out, e', vals_of_ints k1, he'⟩), rfl, q _ _ k2 k3 (I1.hok.fresh (Nat.le_refl _))⟩
  have hb : b < h'.objs.size := Heap.lt_size e
  rw [PyProof.Rows.sortedHeap_old (Nat.ne_of_lt hb) (by rw [size_push']; exact Nat.lt_succ_of_lt hb)]
  exact Heap.get?_push_of_some _ e
end Mb
namespace Mb
open PySem L2
/-! ### powers as the figures of one number -/
def joinL (b : Int) (acc : Int) : List Int → Int
  | [] => acc
  | p :: r => joinL b (acc * b + p) r
def unp (b : Int) : Nat → Int → List Int
  | 0, _ => []
  | n + 1, k => unp b n (k / b) ++ [k % b]
theorem joinL_snoc {b : Int} {p : Int} : ∀ (ps : List Int) (acc : Int), joinL b acc (ps ++ [p]) = joinL b acc ps * b + p
  | [], _ => rfl
  | q :: r, acc => joinL_snoc r (acc * b + q)
def Dg (b : Int) (ps : List Int) : Prop := ∀ p ∈ ps, 0 ≤ p ∧ p < b
theorem join_acc {b : Int} : ∀ (ps : List Int) (acc : Int), joinL b acc ps = acc * b ^ ps.length + joinL b 0 ps
  | [], acc => by show acc = acc * b ^ 0 + 0; rw [Int.pow_zero]; omega
  | q :: r, acc => by
    show joinL b (acc * b + q) r = acc * b ^ (r.length + 1) + joinL b (0 * b + q) r
    rw [join_acc r (acc * b + q), join_acc r (0 * b + q), Int.pow_succ, Int.add_mul, Int.add_mul, Int.mul_assoc, Int.mul_comm b]
    simp only [Int.zero_mul, Int.zero_add]
    omega
theorem join_cons {b q : Int} {r : List Int} : joinL b 0 (q :: r) = q * b ^ r.length + joinL b 0 r := by
  show joinL b (0 * b + q) r = _
  rw [Int.zero_mul, Int.zero_add, join_acc]
theorem join_bd {b : Int} (hb : 1 ≤ b) : ∀ ps : List Int, Dg b ps → 0 ≤ joinL b 0 ps ∧ joinL b 0 ps < b ^ ps.length
  | [], _ => by show (0 : Int) ≤ 0 ∧ (0 : Int) < b ^ 0; rw [Int.pow_zero]; omega
  | q :: r, h => by
    obtain ⟨h1, h2⟩ := join_bd hb r fun p hp => h p (List.mem_cons_of_mem _ hp)
    obtain ⟨q0, q1⟩ := h q List.mem_cons_self
    rw [join_cons, List.length_cons, Int.pow_succ]
    have := TS.num1 h1 h2 q0 q1
    exact this
theorem join_lt {b : Int} (hb : 1 ≤ b) : ∀ (xs ys : List Int), xs.length = ys.length → Dg b xs → Dg b ys → (lexL xs ys = true ↔ joinL b 0 xs < joinL b 0 ys)
  | [], [], _, _, _ => by
    show (false = true) ↔ (0 : Int) < 0
    constructor
    · intro h; cases h
    · intro h; omega
  | x :: xs, y :: ys, hl, hx, hy => by
    have hl' : xs.length = ys.length := by simpa using hl
    have dx : Dg b xs := fun p hp => hx p (List.mem_cons_of_mem _ hp)
    have dy : Dg b ys := fun p hp => hy p (List.mem_cons_of_mem _ hp)
    obtain ⟨a1, a2⟩ := join_bd hb xs dx
    obtain ⟨b1, b2⟩ := join_bd hb ys dy
    rw [lexL_cons, join_lt hb xs ys hl' dx dy, join_cons, join_cons, hl']
    rw [hl'] at a2
    rcases Int.lt_trichotomy x y with c | c | c
    · have := TS.num2 a1 a2 b1 c
      exact ⟨fun _ => this, fun _ => .inl c⟩
    · subst c
      constructor
      · rintro (h | h)
        · omega
        · omega
      · intro h
        exact .inr ⟨rfl, by omega⟩
    · have := TS.num2 b1 b2 a1 c
      constructor
      · rintro (h | h)
        · omega
        · omega
      · intro h
        omega
theorem join_inj {b : Int} (hb : 1 ≤ b) {xs ys : List Int} (hl : xs.length = ys.length) (hx : Dg b xs) (hy : Dg b ys) (e : joinL b 0 xs = joinL b 0 ys) : xs = ys := by
  refine lexL_eq _ _ ?_ ?_
  · cases q : lexL xs ys with
    | false => rfl
    | true => have := (join_lt hb xs ys hl hx hy).mp q; omega
  · cases q : lexL ys xs with
    | false => rfl
    | true => have := (join_lt hb ys xs hl.symm hy hx).mp q; omega
theorem unp_join {b : Int} (hb : 1 ≤ b) : ∀ (n : Nat) (ps : List Int), ps.length = n → Dg b ps → unp b n (joinL b 0 ps) = ps
  | 0, ps, hl, _ => by rw [List.eq_nil_of_length_eq_zero hl]; rfl
  | n + 1, ps, hl, h => by
    have ne : ps ≠ [] := fun e => by rw [e] at hl; cases hl
    have e := List.dropLast_concat_getLast ne
    generalize ps.dropLast = a at e
    generalize ps.getLast ne = q at e
    subst e
    have hq := h q (by simp)
    have ha : a.length = n := by simpa using hl
    rw [joinL_snoc]
    show unp b n ((joinL b 0 a * b + q) / b) ++ [(joinL b 0 a * b + q) % b] = a ++ [q]
    have e1 : (joinL b 0 a * b + q) / b = joinL b 0 a := by
      rw [Int.add_comm, Int.add_mul_ediv_right _ _ (by omega), Int.ediv_eq_zero_of_lt hq.1 hq.2, Int.zero_add]
    have e2 : (joinL b 0 a * b + q) % b = q := by
      rw [Int.add_comm, Int.add_mul_emod_self_right, Int.emod_eq_of_lt hq.1 hq.2]
    rw [e1, e2, unp_join hb n a ha fun p hp => h p (List.mem_append_left _ hp)]
theorem unp_len {b : Int} : ∀ (n : Nat) (k : Int), (unp b n k).length = n
  | 0, _ => rfl
  | n + 1, k => by
    show (unp b n (k / b) ++ [k % b]).length = n + 1
    rw [List.length_append, unp_len n]
    rfl
def addL (xs ys : List Int) : List Int := List.zipWith (· + ·) xs ys
theorem join_add {b : Int} : ∀ (xs ys : List Int), xs.length = ys.length → joinL b 0 (addL xs ys) = joinL b 0 xs + joinL b 0 ys
  | [], [], _ => rfl
  | x :: xs, y :: ys, hl => by
    have hl' : xs.length = ys.length := by simpa using hl
    show joinL b 0 ((x + y) :: addL xs ys) = _
    rw [join_cons, join_cons, join_cons, join_add xs ys hl', ← hl']
    have : (addL xs ys).length = xs.length := by
      unfold addL
      rw [List.length_zipWith, hl']
      omega
    rw [this, Int.add_mul]
    omega
/-- the product's terms -/
def mulT (F G : List Trm) : List Trm := F.flatMap fun t => G.map fun u => (addL t.1 u.1, t.2 * u.2)
theorem addL_len {xs ys : List Int} {m : Nat} (hx : xs.length = m) (hy : ys.length = m) : (addL xs ys).length = m := by
  unfold addL
  rw [List.length_zipWith, hx, hy]
  omega
theorem addL_in {c d : Int} : ∀ {xs ys : List Int}, (∀ p ∈ xs, 0 ≤ p ∧ p ≤ c) → (∀ p ∈ ys, 0 ≤ p ∧ p ≤ d) → ∀ p ∈ addL xs ys, 0 ≤ p ∧ p ≤ c + d
  | [], _, _, _, p, hp => by simp [addL] at hp
  | _ :: _, [], _, _, p, hp => by simp [addL] at hp
  | x :: xs, y :: ys, h1, h2, p, hp => by
    have a := h1 x List.mem_cons_self
    have b := h2 y List.mem_cons_self
    rcases List.mem_cons.mp (show p ∈ (x + y) :: addL xs ys from hp) with rfl | hp
    · omega
    · exact addL_in (fun q hq => h1 q (List.mem_cons_of_mem _ hq)) (fun q hq => h2 q (List.mem_cons_of_mem _ hq)) p hp
theorem mul_ok {m : Nat} {c d : Int} {F G : List Trm} (h1 : OkT m c F) (h2 : OkT m d G) : OkT m (c + d) (mulT F G) := fun x hx => by
  obtain ⟨t, ht, hx⟩ := List.mem_flatMap.mp hx
  obtain ⟨u, hu, rfl⟩ := List.mem_map.mp hx
  obtain ⟨a1, a2⟩ := h1 t ht
  obtain ⟨b1, b2⟩ := h2 u hu
  exact ⟨addL_len a1 b1, addL_in a2 b2⟩
theorem mul_len {F G : List Trm} : (mulT F G).length = F.length * G.length := by
  unfold mulT
  induction F with
  | nil => simp
  | cons t r ih =>
    rw [List.flatMap_cons, List.length_append, ih, List.length_map, List.length_cons, Nat.succ_mul]
    omega
/-- the same with packed powers -/
def packT (b : Int) (ts : List Trm) : List Trm := ts.map fun t => ([joinL b 0 t.1], t.2)
theorem sum_pack {b : Int} {m : Nat} {ts : List Trm} (hb : 1 ≤ b) (h : ∀ t ∈ ts, t.1.length = m ∧ Dg b t.1) {k : List Int} (hk : k.length = m) (dk : Dg b k) : sumK (packT b ts) [joinL b 0 k] = sumK ts k := by
  induction ts with
  | nil => rfl
  | cons t r ih =>
    show sumK (([joinL b 0 t.1], t.2) :: packT b r) _ = _
    rw [sumK_cons, sumK_cons, ih fun u hu => h u (List.mem_cons_of_mem _ hu)]
    obtain ⟨h1, h2⟩ := h t List.mem_cons_self
    congr 1
    by_cases c : t.1 = k
    · rw [if_pos c, if_pos (by rw [c])]
    · rw [if_neg c, if_neg fun e => c (join_inj hb (h1.trans hk.symm) h2 dk (List.cons.inj e).1)]
def keysI (M : List Trm) : List (Key × V) := M.map fun m => (.inl (m.1.headD 0), .int m.2)
/-- the form of packed sums -/
theorem fm_pack {b : Int} {m : Nat} {ts : List Trm} (hb : 1 ≤ b) (h : ∀ t ∈ ts, t.1.length = m ∧ Dg b t.1) {ks : List Int} (hp : (ks.map fun k => [k]).Perm ((accOf (packT b ts)).map (·.1))) (hs : ks.Pairwise (· ≤ ·)) :
    Fm ts ((ks.map fun k => (unp b m k, sumK (packT b ts) [k])).filter fun t => !decide (t.2 = 0)) := by
  have ok := acc_ok (packT b ts)
  have nd0 : (ks.map fun k => [k]).Nodup := hp.nodup_iff.mpr ok.nd
  have nd : ks.Nodup := by
    refine List.pairwise_map.mp nd0 |>.imp fun {x y} h e => h (by rw [e])
  have key : ∀ k ∈ ks, ∃ t ∈ ts, k = joinL b 0 t.1 := fun k hk => by
    have : [k] ∈ (accOf (packT b ts)).map (·.1) := hp.mem_iff.mp (List.mem_map.mpr ⟨k, hk, rfl⟩)
    obtain ⟨x, hx, e⟩ := List.mem_map.mp ((ok.ks _).mp this)
    obtain ⟨t, ht, rfl⟩ := List.mem_map.mp hx
    exact ⟨t, ht, ((List.cons.inj e).1).symm⟩
  have st : ks.Pairwise (· < ·) := (List.Pairwise.and hs nd).imp fun {x y} h => by
    have h1 := h.1
    have h2 : x ≠ y := h.2
    omega
  refine ⟨List.Pairwise.filter _ (List.pairwise_map.mpr ?_), fun x => ?_⟩
  · refine List.Pairwise.imp_of_mem (fun {x y} hx hy hlt => ?_) st
    obtain ⟨t, ht, rfl⟩ := key x hx
    obtain ⟨u, hu, rfl⟩ := key y hy
    obtain ⟨a1, a2⟩ := h t ht
    obtain ⟨b1, b2⟩ := h u hu
    show lexL (unp b m _) (unp b m _) = true
    rw [unp_join hb m _ a1 a2, unp_join hb m _ b1 b2]
    exact (join_lt hb _ _ (a1.trans b1.symm) a2 b2).mpr hlt
  · rw [List.mem_filter, List.mem_map]
    constructor
    · rintro ⟨⟨k, hk, rfl⟩, hz⟩
      obtain ⟨t, ht, rfl⟩ := key k hk
      obtain ⟨a1, a2⟩ := h t ht
      refine ⟨by simpa using hz, ?_⟩
      show sumK (packT b ts) [joinL b 0 t.1] = sumK ts (unp b m (joinL b 0 t.1))
      rw [unp_join hb m _ a1 a2, sum_pack hb h a1 a2]
    · rintro ⟨h1, h2⟩
      by_cases c : x.1 ∈ ts.map (·.1)
      · obtain ⟨t, ht, e⟩ := List.mem_map.mp c
        have e' : t.1 = x.1 := e
        obtain ⟨a1, a2⟩ := h t ht
        refine ⟨⟨joinL b 0 t.1, ?_, ?_⟩, by simpa using h1⟩
        · have : [joinL b 0 t.1] ∈ (ks.map fun k => [k]) := hp.mem_iff.mpr ((ok.ks _).mpr (List.mem_map.mpr ⟨([joinL b 0 t.1], t.2), List.mem_map.mpr ⟨t, ht, rfl⟩, rfl⟩))
          obtain ⟨k, hk, e⟩ := List.mem_map.mp this
          rw [← (List.cons.inj e).1]
          exact hk
        · rw [unp_join hb m _ a1 a2, sum_pack hb h a1 a2, e', ← h2]
      · rw [sumK_none c] at h2
        exact absurd h2 h1
end Mb
namespace Mb
open PySem L2
theorem small_join {b v : Int} {n : Nat} (b1 : 1 ≤ b) (b2 : b ≤ 400) (hn : n ≤ 7) (h : 0 ≤ v ∧ v < b ^ n) : Sm 64 v := by
  have h1 : b ^ n ≤ 400 ^ 7 := by
    obtain ⟨c, rfl⟩ : ∃ c : Nat, b = (c : Int) := ⟨b.toNat, by omega⟩
    have e1 : (c : Int) ^ n = ((c ^ n : Nat) : Int) := (Int.natCast_pow c n).symm
    rw [e1]
    have h2 : c ^ n ≤ 400 ^ n := Nat.pow_le_pow_left (by omega) n
    have h3 : 400 ^ n ≤ 400 ^ 7 := Nat.pow_le_pow_right (by decide) hn
    have h4 : ((400 : Int) ^ 7) = ((400 ^ 7 : Nat) : Int) := by decide
    rw [h4]
    exact Int.ofNat_le.mpr (Nat.le_trans h2 h3)
  have h5 : (400 : Int) ^ 7 < 2 ^ 64 := by decide
  unfold Sm
  omega
theorem unp_succ {b : Int} (hb : 1 ≤ b) : ∀ {n : Nat} {k : Int}, unp b (n + 1) k = [k / b ^ n % b] ++ unp b n k
  | 0, k => by
    show ([] : List Int) ++ [k % b] = [k / b ^ 0 % b] ++ []
    rw [Int.pow_zero, Int.ediv_one]
    rfl
  | n + 1, k => by
    show unp b (n + 1) (k / b) ++ [k % b] = [k / b ^ (n + 1) % b] ++ (unp b n (k / b) ++ [k % b])
    rw [unp_succ hb (n := n), Int.ediv_ediv_of_nonneg (by omega), Int.pow_succ, Int.mul_comm b, List.append_assoc]
def spJoined (K : PySem.W.Frag) : Sp := fun vs H Q _ => ∃ (q0 : Addr) (b : Int) (k : List Int), vs = [.ref q0, .int b] ∧ Pw H q0 k ∧ 1 ≤ b ∧ b ≤ 400 ∧ k.length ≤ 7 ∧ Dg b k ∧ Q (.int (joinL b 0 k)) H
def spUnpacked (K : PySem.W.Frag) : Sp := fun vs H Q _ => ∃ (k b : Int) (m : Nat), vs = [.int k, .int b, .int (m : Int)] ∧ 1 ≤ b ∧ b ≤ 400 ∧ m ≤ 7 ∧ ∀ (p : Addr) (H' : Hp), Same H H' → H p = none → Pw H' p (unp b m k) → Q (.ref p) H'
def Pk (b : Int) (H : Hp) (v : V) (t : Trm) : Prop := ∃ a, v = .ref a ∧ H a = some (.tup [.int (joinL b 0 t.1), .int t.2])
theorem Pk.kt {b : Int} {H H' : Hp} {v : V} {t : Trm} (k : Kt H H') (h : Pk b H v t) : Pk b H' v t := by
  obtain ⟨a, e, h⟩ := h
  exact ⟨a, e, k _ _ h⟩
def spPacked (K : PySem.W.Frag) : Sp := fun vs H Q _ => ∃ (f : Addr) (b : Int) (F : List Trm) (m : Nat), vs = [.ref f, .int b] ∧ FmAt H f F ∧ 1 ≤ b ∧ b ≤ 400 ∧ m ≤ 7 ∧ (∀ t ∈ F, t.1.length = m ∧ Dg b t.1) ∧ F.length ≤ 4000 ∧
  ∀ (l : Addr) (us : List V) (H' : Hp), Same H H' → H l = none → H' l = some (.lst us) → Paired (Pk b H') us F → Q (.ref l) H'
theorem r_rev2 {K : PySem.W.Frag} {te : TE} {σ : St} {H : Hp} {Q : VK} (q : te σ H fun x H1 => ∃ a xs, x = .ref a ∧ SqL K H1 a xs ∧ ∀ p, H1 p = none → Q (.ref p) (upd H1 p (.lst xs.reverse))) : tRevL K te σ H Q := q
/-! the int keys of the dict -/
def One (M : List Trm) : Prop := ∀ m ∈ M, ∃ x, m.1 = [x]
theorem one_acc {ts : List Trm} (h : One ts) : One (accOf ts) := fun m hm => by
  have : m.1 ∈ (accOf ts).map (·.1) := List.mem_map.mpr ⟨m, hm, rfl⟩
  obtain ⟨t, ht, e⟩ := List.mem_map.mp (((acc_ok ts).ks _).mp this)
  obtain ⟨x, hx⟩ := h t ht
  exact ⟨x, by rw [← e]; exact hx⟩
theorem keysI_any {M : List Trm} (h : One M) {k : Int} : ((keysI M).any fun kv => decide (kv.1 = (.inl k : Key))) = decide ([k] ∈ M.map (·.1)) := by
  unfold keysI
  rw [List.any_map]
  induction M with
  | nil => rfl
  | cons m r ih =>
    rw [List.any_cons, ih fun u hu => h u (List.mem_cons_of_mem _ hu)]
    obtain ⟨x, hx⟩ := h m List.mem_cons_self
    by_cases c : x = k
    · subst c
      simp [hx]
    · have h1 : ¬ ((.inl x : Key) = .inl k) := fun e => c (Sum.inl.inj e)
      have h2 : ¬ k = x := fun e => c e.symm
      simp [hx, h1, h2]
theorem keysI_find {M : List Trm} (h : One M) {k : Int} : valV (keysI M) (.inl k : Key) = (M.find? fun m => decide (m.1 = [k])).map fun m => .int m.2 := by
  unfold valV keysI
  induction M with
  | nil => rfl
  | cons m r ih =>
    rw [List.map_cons, List.find?_cons, List.find?_cons]
    obtain ⟨x, hx⟩ := h m List.mem_cons_self
    by_cases c : x = k
    · subst c
      simp [hx]
    · have h1 : ¬ ((.inl x : Key) = .inl k) := fun e => c (Sum.inl.inj e)
      simp only [hx, List.headD_cons, h1, decide_false, List.cons.injEq, c, false_and]
      exact ih fun u hu => h u (List.mem_cons_of_mem _ hu)
theorem keysI_put {M : List Trm} (h : One M) (nd : (M.map (·.1)).Nodup) {k n : Int} : putK (keysI M) (.inl k : Key) (.int ((match M.find? (fun m => decide (m.1 = [k])) with | some m => m.2 | none => 0) + n)) = keysI (accM M ([k], n)) := by
  unfold putK accM
  rw [keysI_any h]
  by_cases c : [k] ∈ M.map (·.1)
  · rw [if_pos (by simpa using c), if_pos c]
    obtain ⟨m0, hm0, e0⟩ := List.mem_map.mp c
    have hf := find_some nd hm0
    rw [e0] at hf
    rw [hf]
    unfold keysI
    rw [List.map_map, List.map_map]
    refine List.map_congr_left fun m hm => ?_
    obtain ⟨x, hx⟩ := h m hm
    show (if (.inl (m.1.headD 0) : Key) = .inl k then ((.inl (m.1.headD 0) : Key), V.int (m0.2 + n)) else (.inl (m.1.headD 0), .int m.2)) = ((.inl ((if m.1 = [k] then (m.1, m.2 + n) else m).1.headD 0) : Key), V.int (if m.1 = [k] then (m.1, m.2 + n) else m).2)
    by_cases e : x = k
    · have e1 : m.1 = [k] := by rw [hx, e]
      have : m = m0 := by
        have h1 := find_some nd hm
        rw [e1, hf] at h1
        exact (Option.some.inj h1).symm
      rw [if_pos e1, e1]
      simp [this]
    · have e1 : ¬ m.1 = [k] := by rw [hx]; simp [e]
      rw [if_neg e1, if_neg (by rw [hx]; simp [e])]
  · rw [if_neg (by simpa using c), if_neg c, find_none c]
    unfold keysI
    rw [List.map_append, List.map_cons, List.map_nil, Int.zero_add]
    rfl
theorem keysI_keys {M : List Trm} (h : One M) : ∃ ks : List Int, (keysI M).map (·.1) = ks.map Sum.inl ∧ M.map (·.1) = ks.map fun k => [k] := by
  refine ⟨M.map fun m => m.1.headD 0, ?_, ?_⟩
  · unfold keysI
    rw [List.map_map, List.map_map]
    rfl
  · rw [List.map_map]
    refine List.map_congr_left fun m hm => ?_
    obtain ⟨x, hx⟩ := h m hm
    show m.1 = [m.1.headD 0]
    rw [hx]
    rfl
theorem keysI_val {ts : List Trm} (h : One ts) {k : Int} (hk : [k] ∈ (accOf ts).map (·.1)) : valV (keysI (accOf ts)) (.inl k : Key) = some (.int (sumK ts [k])) := by
  rw [keysI_find (one_acc h)]
  obtain ⟨m, hm, e⟩ := List.mem_map.mp hk
  have e' : m.1 = [k] := e
  have := find_some (acc_ok ts).nd hm
  rw [e'] at this
  rw [this, Option.map_some, (acc_ok ts).sm m hm, e']
def scaleT (n : Int) (ts : List Trm) : List Trm := ts.map fun t => (t.1, n * t.2)
theorem sumK_scale {n : Int} {ts : List Trm} {k : List Int} : sumK (scaleT n ts) k = n * sumK ts k := by
  induction ts with
  | nil => show (0 : Int) = n * 0; omega
  | cons t r ih =>
    show sumK ((t.1, n * t.2) :: scaleT n r) k = _
    rw [sumK_cons, sumK_cons, ih, Int.mul_add]
    show (if t.1 = k then n * t.2 else 0) + _ = n * (if t.1 = k then t.2 else 0) + _
    split
    · rfl
    · rw [Int.mul_zero]
theorem scale_ok {m : Nat} {c n : Int} {ts : List Trm} (h : OkT m c ts) : OkT m c (scaleT n ts) := fun x hx => by
  obtain ⟨t, ht, rfl⟩ := List.mem_map.mp hx
  exact h t ht
theorem neg_ok {m : Nat} {c : Int} {ts : List Trm} (h : OkT m c ts) : OkT m c (negT ts) := fun x hx => by
  obtain ⟨t, ht, rfl⟩ := List.mem_map.mp hx
  exact h t ht
theorem app_ok {m : Nat} {c : Int} {a b : List Trm} (h : OkT m c a) (k : OkT m c b) : OkT m c (a ++ b) := fun x hx => (List.mem_append.mp hx).elim (h x) (k x)
theorem tms_app {H : Hp} : ∀ {us vs : List V} {F G : List Trm}, Tms H us F → Tms H vs G → Tms H (us ++ vs) (F ++ G)
  | _, _, _, _, .nil, h => h
  | _, _, _, _, .cons a r, h => .cons a (tms_app r h)
theorem tmscale {H : Hp} {n : Int} : ∀ {vs : List V} {F : List Trm}, Paired (fun v t => Tm H v (t.1, n * t.2)) vs F → Tms H vs (scaleT n F)
  | _, _, .nil => .nil
  | _, _, .cons h r => .cons h (tmscale r)
theorem tmneg {H : Hp} : ∀ {vs : List V} {F : List Trm}, Paired (fun v t => Tm H v (t.1, -t.2)) vs F → Tms H vs (negT F)
  | _, _, .nil => .nil
  | _, _, .cons h r => .cons h (tmneg r)
def spAdded (K : PySem.W.Frag) : Sp := fun vs H Q _ => ∃ (f g : Addr) (F G : List Trm) (m : Nat) (c : Int), vs = [.ref f, .ref g] ∧ FmAt H f F ∧ FmAt H g G ∧ OkT m c F ∧ OkT m c G ∧ F.length ≤ 2000 ∧ G.length ≤ 2000 ∧
  ∀ (r : Addr) (R : List Trm) (H' : Hp), Same H H' → H r = none → FmAt H' r R → Fm (F ++ G) R → Q (.ref r) H'
def spScaled (K : PySem.W.Frag) : Sp := fun vs H Q _ => ∃ (f : Addr) (n : Int) (F : List Trm) (m : Nat) (c : Int), vs = [.ref f, .int n] ∧ FmAt H f F ∧ OkT m c F ∧ F.length ≤ 2000 ∧ Sm 64 n ∧ (∀ t ∈ F, Sm 100000 t.2) ∧
  ∀ (r : Addr) (R : List Trm) (H' : Hp), Same H H' → H r = none → FmAt H' r R → Fm (scaleT n F) R → Q (.ref r) H'
def spTaken (K : PySem.W.Frag) : Sp := fun vs H Q _ => ∃ (f g : Addr) (F G : List Trm) (m : Nat) (c : Int), vs = [.ref f, .ref g] ∧ FmAt H f F ∧ FmAt H g G ∧ OkT m c F ∧ OkT m c G ∧ F.length ≤ 2000 ∧ G.length ≤ 2000 ∧ (∀ t ∈ G, Sm 100000 t.2) ∧
  ∀ (r : Addr) (R : List Trm) (H' : Hp), Same H H' → H r = none → FmAt H' r R → Fm (F ++ negT G) R → Q (.ref r) H'
/-- the product of two forms -/
def spMul (K : PySem.W.Frag) : Sp := fun vs H Q _ => ∃ (f g : Addr) (F G : List Trm) (m : Nat) (c : Int), vs = [.ref f, .ref g] ∧ FmAt H f F ∧ FmAt H g G ∧ OkT m c F ∧ OkT m c G ∧ 0 ≤ c ∧ c ≤ 150 ∧ m ≤ 7 ∧ F.length * G.length ≤ 4000 ∧ F.length ≤ 4000 ∧ G.length ≤ 4000 ∧ (∀ t ∈ F, Sm 100000 t.2) ∧ (∀ t ∈ G, Sm 100000 t.2) ∧
  ∀ (r : Addr) (R : List Trm) (H' : Hp), Same H H' → H r = none → FmAt H' r R → Fm (mulT F G) R → Q (.ref r) H'
theorem Fm.congr {a b F : List Trm} (h : Fm a F) (e : ∀ k, sumK a k = sumK b k) : Fm b F := ⟨h.up, fun x => by rw [h.mem, e]⟩
theorem one_pack {b : Int} {ts : List Trm} : One (packT b ts) := fun x hx => by
  obtain ⟨t, _, rfl⟩ := List.mem_map.mp hx
  exact ⟨_, rfl⟩
theorem pack_app {b : Int} {x y : List Trm} : packT b (x ++ y) = packT b x ++ packT b y := by unfold packT; rw [List.map_append]
theorem keysI_getD {M : List Trm} (h : One M) {k z : Int} : (valV (keysI M) (.inl k : Key)).getD (.int z) = .int (match M.find? (fun m => decide (m.1 = [k])) with | some m => m.2 | none => z) := by
  rw [keysI_find h]
  cases M.find? (fun m => decide (m.1 = [k])) <;> rfl
def pr1 (t : Trm) (G : List Trm) : List Trm := G.map fun u => (addL t.1 u.1, t.2 * u.2)
theorem mul_take {F G : List Trm} {i : Nat} {t : Trm} (h : F[i]? = some t) : mulT (F.take (i + 1)) G = mulT (F.take i) G ++ pr1 t G := by
  unfold mulT
  rw [List.take_succ, h, Option.toList_some, List.flatMap_append, List.flatMap_cons, List.flatMap_nil, List.append_nil]
  rfl
theorem pr1_take {t : Trm} {G : List Trm} {j : Nat} {u : Trm} (h : G[j]? = some u) : pr1 t (G.take (j + 1)) = pr1 t (G.take j) ++ [(addL t.1 u.1, t.2 * u.2)] := by
  unfold pr1
  rw [List.take_succ, h, Option.toList_some, List.map_append]
  rfl
theorem fm_nil {F : List Trm} (h : Fm [] F) : F = [] := List.eq_nil_of_length_eq_zero (by have := h.len; simpa using this)
theorem nil_fm : Fm [] [] := ⟨.nil, fun x => ⟨fun h => (by cases h), fun ⟨h1, h2⟩ => absurd h2 h1⟩⟩
theorem lc_ints {K : PySem.W.Frag} {j : Nat} {tt : TT} {te : TE} {σ : St} {Q : VK} {l : Addr} {ns : List Int} {H : Hp} (R : Hp → V → Int → Prop) (mono : ∀ {H H' : Hp} {v : V} {t : Int}, Kt H H' → R H v t → R H' v t) (keep : Int → Bool) (hl : SqL K H l (ns.map V.int)) (few : ns.length ≤ 10000) (hσ : ∀ v, wipe ((wipe σ [j]).set j (some v)) [j] = wipe σ [j])
    (stT : ∀ (n : Int) (H' : Hp), n ∈ ns → Same H H' → ∀ S : Bool → Hp → Prop, (∀ H4, Same H' H4 → S (keep n) H4) → tt ((wipe σ [j]).set j (some (.int n))) H' S)
    (stE : ∀ (n : Int) (H' : Hp), n ∈ ns → Same H H' → ∀ S : VK, (∀ (v : V) (H4 : Hp), Same H' H4 → R H4 v n → S v H4) → te ((wipe σ [j]).set j (some (.int n))) H' S)
    (fin : ∀ (D : Addr) (vs : List V) (H' : Hp), Same H H' → H D = none → H' D = some (.lst vs) → Paired (R H') vs (ns.filter keep) → Q (.ref D) H') : lcL K (gName j) tt te [j] σ Q (.ref l) H := by
  refine ⟨l, rfl, ⟨_, hl⟩, fun D hD => ?_⟩
  refine lc_list (xs := ns.map V.int) (fun i H' => ∃ vs : List V, Same H H' ∧ H' D = some (.lst vs) ∧ vs.length ≤ i ∧ Paired (R H') vs ((ns.take i).filter keep)) ⟨[], same_new hD _, upd_same, Nat.le_refl _, by rw [List.take_zero]; exact .nil⟩ (fun i H' _ h => by obtain ⟨_, h, _⟩ := h; exact h.seq hl) ?_ ?_
  · rintro i x H' hx ⟨vs, g, d, lv, pr⟩
    rw [List.getElem?_map] at hx
    obtain ⟨n, hn, rfl⟩ := Option.map_eq_some_iff.mp hx
    have hi : i < ns.length := (List.getElem?_eq_some_iff.mp hn).1
    have hm := List.mem_of_getElem? hn
    have e1 : ns.take (i + 1) = ns.take i ++ [n] := by rw [List.take_succ, hn, Option.toList_some]
    refine ⟨hσ _, ?_⟩
    refine stT n H' hm g _ fun H3 g3 => ?_
    rw [e1, List.filter_append, List.filter_cons]
    cases hk : keep n with
    | false =>
      simp only [Bool.false_eq_true, if_false, List.filter_nil, List.append_nil]
      exact ⟨vs, g.trans g3, g3 _ _ d, by omega, Paired.mapP pr fun _ _ h => mono (Kt.same g3) h⟩
    | true =>
      simp only [if_true, List.filter_nil]
      refine stE n H3 hm (g.trans g3) _ fun v H4 g4 rv => ?_
      have d4 := g4 _ _ (g3 _ _ d)
      have kt : Kt H4 (upd H4 D (.lst (vs ++ [v]))) := Kt.lst d4
      exact ⟨_, d4, Nat.lt_of_le_of_lt (show vs.length ≤ 10000 by omega) (by decide), vs ++ [v], same_updS ((g.trans g3).trans g4) hD, upd_same, by simp; omega, paired_snoc' (mono kt rv) (Paired.mapP pr fun _ _ h => mono kt (mono (Kt.same (g3.trans g4)) h))⟩
  · rintro H' ⟨vs, g, d, _, pr⟩
    rw [List.length_map, List.take_length] at pr
    exact fin D vs H' g hD d pr
theorem tms_of {α : Type} {H : Hp} {f : α → Trm} : ∀ {vs : List V} {l : List α}, Paired (fun v k => Tm H v (f k)) vs l → Tms H vs (l.map f)
  | _, _, .nil => .nil
  | _, _, .cons h r => .cons h (tms_of r)
theorem r_lcR {ta : TA} {g : TG} {tt : TT} {te : TE} {vs : List Nat} {σ : St} {H : Hp} {Q : VK} (q : ta σ H fun xs H1 => ∃ j : Int, xs = [.int j] ∧ -(2 ^ 62) ≤ j ∧ j < 2 ^ 62 ∧ ∀ D, H1 D = none → ∃ W : Nat → Nat → Hp → Prop, (∃ m, W 0 m (upd H1 D (.lst []))) ∧ ∀ i m H, W i m H →
  ((Itr 0 j.toNat).stop i H ∧ Q (.ref D) H) ∨ ((Itr 0 j.toNat).go i H ∧ ∃ Nx : Hp → Prop, (∀ H', Nx H' → ∃ m', m' < m ∧ W (i + 1) m' H') ∧ ∀ x H', (Itr 0 j.toNat).yld i H x H' → g x (wipe σ vs) H' fun σ2 H2 => wipe σ2 vs = wipe σ vs ∧ tt σ2 H2 fun b H3 =>
    if b = true then te σ2 H3 fun y H4 => ∃ acc, H4 D = some (.lst acc) ∧ acc.length < sizeLine ∧ Nx (upd H4 D (.lst (acc ++ [y]))) else Nx H3)) : tLc (iRng1 ta) g tt te vs σ H Q := q
theorem r_forL {K : PySem.W.Frag} {tl : TE} {g : TG} {tb : TS} {D : Ends} {σ : St} {H : Hp} (q : tl σ H fun x H1 => ∃ a, x = .ref a ∧ (∃ xs, SqL K H1 a xs) ∧ ∃ W : Nat → Nat → St → Hp → Prop, (∃ m, W 0 m σ H1) ∧ ∀ i m σ H, W i m σ H →
    ((Itl K a).stop i H ∧ D.nx σ H) ∨ ((Itl K a).go i H ∧ ∃ N : St → Hp → Prop, (∀ σ' H', N σ' H' → ∃ m', m' < m ∧ W (i + 1) m' σ' H') ∧ ∀ x H', (Itl K a).yld i H x H' → g x σ H' fun σ2 H2 => tb { D with nx := N, ct := N, bk := D.nx } σ2 H2)) : tFor (iList K tl) g tb D σ H := q
theorem lc_termsL {K : PySem.W.Frag} {i j : Nat} {te : TE} {σ : St} {Q : VK} {f : Addr} {us : List V} {F : List Trm} {H : Hp} (R : Hp → V → Trm → Prop) (mono : ∀ {H H' : Hp} {v : V} {t : Trm}, Kt H H' → R H v t → R H' v t) (hf : SqL K H f us) (tm : Tms H us F) (few : F.length ≤ 10000)
    (hσ : ∀ u v, wipe (((wipe σ [i, j]).set i (some u)).set j (some v)) [i, j] = wipe σ [i, j])
    (stE : ∀ (t : Trm) (q : Addr) (H' : Hp), t ∈ F → Same H H' → Pw H' q t.1 → ∀ S : VK, (∀ (v : V) (H4 : Hp), Same H' H4 → R H4 v t → S v H4) → te (((wipe σ [i, j]).set i (some (.ref q))).set j (some (.int t.2))) H' S)
    (fin : ∀ (D : Addr) (vs : List V) (H' : Hp), Same H H' → H D = none → H' D = some (.lst vs) → Paired (R H') vs F → Q (.ref D) H') : lcL K (gTup K 2 (gCons (gName i) (gCons (gName j) gNil))) tYes te [i, j] σ Q (.ref f) H := by
  refine ⟨f, rfl, ⟨_, hf⟩, fun D hD => ?_⟩
  have ln : us.length = F.length := Paired.length tm
  refine lc_list (xs := us) (fun n H' => ∃ vs : List V, Same H H' ∧ H' D = some (.lst vs) ∧ vs.length = n ∧ Paired (R H') vs (F.take n)) ⟨[], same_new hD _, upd_same, rfl, by rw [List.take_zero]; exact .nil⟩ (fun n H' _ h => by obtain ⟨_, h, _⟩ := h; exact h.seq hf) ?_ ?_
  · rintro n x H' hx ⟨vs, g, d, lv, pr⟩
    obtain ⟨t, ht, a, q, rfl, ta, pw⟩ := tm.at hx
    have hm := List.mem_of_getElem? ht
    have hn : n < F.length := (List.getElem?_eq_some_iff.mp ht).1
    have e1 : F.take (n + 1) = F.take n ++ [t] := by rw [List.take_succ, ht, Option.toList_some]
    refine r_gT (tupOf (g _ _ ta)) rfl ?_
    refine r_g2 ?_
    refine ⟨hσ _ _, ?_⟩
    refine r_yes ?_
    rw [if_pos rfl]
    refine stE t q H' hm g (g _ _ pw) _ fun v H4 g4 rv => ?_
    have d4 := g4 _ _ d
    have kt : Kt H4 (upd H4 D (.lst (vs ++ [v]))) := Kt.lst d4
    refine ⟨_, d4, Nat.lt_of_le_of_lt (show vs.length ≤ 10000 by omega) (by decide), vs ++ [v], same_updS (g.trans g4) hD, upd_same, by simp [lv], ?_⟩
    rw [e1]
    exact paired_snoc' (mono kt rv) (Paired.mapP pr fun _ _ h => mono kt (mono (Kt.same g4) h))
  · rintro H' ⟨vs, g, d, lv, pr⟩
    rw [ln, List.take_length] at pr
    exact fin D vs H' g hD d pr
theorem paired_take {α β : Type} {R : α → β → Prop} : ∀ {xs : List α} {ys : List β} (n : Nat), Paired R xs ys → Paired R (xs.take n) (ys.take n)
  | _, _, 0, _ => by rw [List.take_zero, List.take_zero]; exact .nil
  | _, _, _ + 1, .nil => .nil
  | _, _, n + 1, .cons h r => .cons h (paired_take n r)
theorem paired_drop {α β : Type} {R : α → β → Prop} : ∀ {xs : List α} {ys : List β} (n : Nat), Paired R xs ys → Paired R (xs.drop n) (ys.drop n)
  | _, _, 0, h => h
  | _, _, _ + 1, .nil => .nil
  | _, _, n + 1, .cons _ r => paired_drop n r
/-- a part of the terms -/
theorem tms_cut {H : Hp} {us : List V} {F : List Trm} (h : Tms H us F) (lo hi : Option Int) : ∃ G, Tms H (cutV us lo hi) G ∧ (∀ x ∈ G, x ∈ F) ∧ G.length ≤ F.length := by
  refine ⟨(F.drop _).take _, paired_take _ (paired_drop _ h), fun x hx => List.mem_of_mem_drop (List.mem_of_mem_take hx), ?_⟩
  rw [List.length_take, List.length_drop]
  omega
theorem addL_comm : ∀ xs ys : List Int, addL xs ys = addL ys xs
  | [], [] => rfl
  | [], _ :: _ => rfl
  | _ :: _, [] => rfl
  | x :: xs, y :: ys => by
    show (x + y) :: addL xs ys = (y + x) :: addL ys xs
    rw [addL_comm xs ys, Int.add_comm]
theorem mul_cons {t : Trm} {F G : List Trm} : mulT (t :: F) G = pr1 t G ++ mulT F G := rfl
theorem sum_mulR {t : Trm} {F : List Trm} {k : List Int} : ∀ G : List Trm, sumK (mulT G (t :: F)) k = sumK (pr1 t G) k + sumK (mulT G F) k
  | [] => rfl
  | u :: G => by
    rw [mul_cons, mul_cons, sumK_app, sumK_app, sum_mulR G]
    show sumK ((addL u.1 t.1, u.2 * t.2) :: pr1 u F) k + _ = sumK ((addL t.1 u.1, t.2 * u.2) :: pr1 t G) k + _
    rw [sumK_cons, sumK_cons, addL_comm u.1, Int.mul_comm u.2]
    omega
theorem mul_comm {k : List Int} : ∀ F G : List Trm, sumK (mulT F G) k = sumK (mulT G F) k
  | [], G => by
    have : mulT G [] = [] := List.eq_nil_of_length_eq_zero (by rw [mul_len]; rfl)
    rw [this]
    rfl
  | t :: F, G => by
    rw [mul_cons, sumK_app, sum_mulR, mul_comm F G]
theorem fm_zero {ts R : List Trm} (h : Fm ts R) (z : ∀ k, sumK ts k = 0) : R = [] := by
  cases R with
  | nil => rfl
  | cons x r =>
    obtain ⟨h1, h2⟩ := (h.mem x).mp List.mem_cons_self
    rw [z] at h2
    exact absurd h2 h1
def spOther70 (K : PySem.W.Frag) : Sp := fun vs H Q _ => ∃ (p f : Addr) (m : Nat) (F : List Trm) (b : Int), vs = [.ref p, .int (m : Int), .ref f] ∧ Pl H p b ∧ b ≤ 1700000 ∧ m ≤ 7 ∧ FmAt H f F ∧ Fm F F ∧ OkT m 12 F ∧ F.length ≤ 60 ∧ (∀ t ∈ F, Sm 200 t.2) ∧
  ∀ (g : Addr) (G : List Trm) (H' : Hp), But p H H' → FmAt H' g G → Fm G G → OkT m 12 G → G.length ≤ 61 → (∀ t ∈ G, Sm 210 t.2) → Q (.ref g) H'
theorem fm_fm {ts F : List Trm} (h : Fm ts F) : Fm F F := fm_self h.up fun x hx => ((h.mem x).mp hx).1
end Mb
namespace Mb
open PySem PySem.Spec PyProof.Rows L2
/-! ### zip of two lists and a tuple -/
def Itz3 (K : PySem.W.Frag) (a b c : Addr) : It :=
  ⟨fun i H => ∃ (xs ys zs : List V) (x y z : V), SqL K H a xs ∧ SqL K H b ys ∧ SqT K H c zs ∧ xs[i]? = some x ∧ ys[i]? = some y ∧ zs[i]? = some z,
    fun i H v H' => ∃ T x y z, v = .ref T ∧ H T = none ∧ H' = upd H T (.tup [x, y, z]) ∧ (∀ xs, SqL K H a xs → xs[i]? = some x) ∧ (∀ ys, SqL K H b ys → ys[i]? = some y) ∧ ∀ zs, SqT K H c zs → zs[i]? = some z,
    fun i H => ∃ xs ys zs : List V, SqL K H a xs ∧ SqL K H b ys ∧ SqT K H c zs ∧ xs.length = i ∧ ys.length = i ∧ zs.length = i⟩
theorem turn_zip3 {P : Program} {w : World} {K : PySem.W.Frag} {elts : List Expr} {kk : Nat} {tpos : Pos} {a b c z TI TO i1 i2 i3 : Addr} (D : ZipSep3 z TI TO i1 i2 i3 [i1, a] [i2, b] [i3, c]) (na : a ≠ i1) (nb : b ≠ i2) (nc : c ≠ i3) :
    Turn P w K (.Tuple elts kk tpos) (Itz3 K a b c) [z, TI, TO, i1, i2, i3] z (fun i h => IsZip h z TI TO .none ∧ IsTupOf3 h TI (.ref i1) (.ref i2) (.ref i3) ∧ (∃ x y u, IsTupOf3 h TO x y u) ∧ h.IsListIter i1 a i ∧ h.IsListIter i2 b i ∧ h.IsTupleIter i3 c i) where
  mem := by simp
  obj := fun i h st k hk => by
    obtain ⟨hz, hTI, ⟨x, y, u, hTO⟩, ⟨o1, e1, _, d1⟩, ⟨o2, e2, _, d2⟩, ⟨o3, e3, _, d3⟩⟩ := st
    have e' : k = z ∨ k = TI ∨ k = TO ∨ k = i1 ∨ k = i2 ∨ k = i3 := by simpa using hk
    rcases e' with q | q | q | q | q | q
    · rw [q]; exact ⟨_, hz, fun v q => nomatch q⟩
    · rw [q]; exact ⟨_, hTI, fun v q => nomatch q⟩
    · rw [q]; exact ⟨_, hTO, fun v q => nomatch q⟩
    · rw [q]; exact ⟨o1, e1, fun v q => by rw [d1] at q; cases q⟩
    · rw [q]; exact ⟨o2, e2, fun v q => by rw [d2] at q; cases q⟩
    · rw [q]; exact ⟨o3, e3, fun v q => by rw [d3] at q; cases q⟩
  keep := fun i h h' st k => by
    obtain ⟨hz, hTI, ⟨x, y, u, hTO⟩, h1, h2, h3⟩ := st
    exact ⟨k z (by simp) _ hz, k TI (by simp) _ hTI, ⟨x, y, u, k TO (by simp) _ hTO⟩, h1.at fun o q => k i1 (by simp) o q, h2.at fun o q => k i2 (by simp) o q, h3.at fun o q => k i3 (by simp) o q⟩
  item := by
    intro X hP hw hK hc i pins s σ H E I hf st hg
    subst hP hw hK
    obtain ⟨hz, hTI, ⟨x0, y0, u0, hTO⟩, h1, h2, h3⟩ := st
    obtain ⟨xs, ys, zs, x, y, t, hqx, hqy, hqz, hx, hy, ht⟩ := hg
    obtain ⟨its, rv, p, _⟩ := I.list hqx
    obtain ⟨its2, rv2, p2, _⟩ := I.list hqy
    obtain ⟨its3, rv3, p3, _⟩ := I.tuple hqz
    obtain ⟨u, hu, ru⟩ := rv.get hx
    obtain ⟨u2, hu2, ru2⟩ := rv2.get hy
    obtain ⟨u3, hu3, ru3⟩ := rv3.get ht
    have hzl : z < s.heap.objs.size := Heap.lt_size hz
    have hh : X.A.in1.handled = none := I.ok.hd hc
    have q1 := p.isList
    have q2 := p2.isList
    have l1 : i < its.toArray.size := by obtain ⟨q, _⟩ := List.getElem?_eq_some_iff.mp hu; simpa using q
    have l2 : i < its2.toArray.size := by obtain ⟨q, _⟩ := List.getElem?_eq_some_iff.mp hu2; simpa using q
    have l3 : i < its3.toArray.size := by obtain ⟨q, _⟩ := List.getElem?_eq_some_iff.mp hu3; simpa using q
    refine wpAny_pyNext_zipD3_item D (Draws.list hh i1 a na its.toArray) (Draws.list hh i2 b nb its2.toArray) (Draws.tuple hh i3 c nc its3.toArray) hz hTI hTO ⟨h1, q1⟩ ⟨h2, q2⟩ ⟨h3, p3⟩ l1 l2 l3 fun y1 y2 y3 h' tk e1 e2 e3 z' TO' s1' s2' s3' hT hsz hk => ?_
    obtain rfl : y1 = u := by
      have e : its.toArray[i]? = some y1 := e1
      simp only [List.getElem?_toArray] at e
      rw [hu] at e
      exact (Option.some.inj e).symm
    obtain rfl : y2 = u2 := by
      have e : its2.toArray[i]? = some y2 := e2
      simp only [List.getElem?_toArray] at e
      rw [hu2] at e
      exact (Option.some.inj e).symm
    obtain rfl : y3 = u3 := by
      have e : its3.toArray[i]? = some y3 := e3
      simp only [List.getElem?_toArray] at e
      rw [hu3] at e
      exact (Option.some.inj e).symm
    refine ⟨_, rfl, wpAny_letOwnedTupleGo_zip (s := { s with heap := h', toks := tk }) z' fun h'' z'' sb => ?_⟩
    have hT2 : h''.get? s.heap.objs.size = some { cls := .type "tuple", data := .seq #[y1, y2, y3] } := (sb.2 _ (Nat.ne_of_gt hzl)).trans hT
    have new : ObjOk X.prog X.w (upd H s.heap.objs.size (.tup [x, y, t])) h'' s.heap.objs.size (.tup [x, y, t]) :=
      ⟨by show 3 ≤ sizeLine; decide, [y1, y2, y3], .cons ru (.cons ru2 (.cons ru3 .nil)), ⟨_, hT2, rfl, _, rfl⟩⟩
    have I1 : Inv X pins σ (upd H s.heap.objs.size (.tup [x, y, t])) { s with heap := h'', toks := tk } :=
      I.turnedNew (t' := tk) (ch := [z, TI, TO, i1, i2, i3]) (fun k o hb q => (sb.2 k (fun q' => hb (by simp [q']))).trans (hk k o (fun q' => hb (by simp [q'])) (fun q' => hb (by simp [q'])) (fun q' => hb (by simp [q'])) (fun q' => hb (by simp [q'])) (fun q' => hb (by simp [q'])) q)) hf (Nat.le_refl _) new
    refine ⟨.ref s.heap.objs.size, _, I1, rfl, ⟨_, x, y, t, rfl, I.hok.fresh (Nat.le_refl _), rfl, fun l hl => by rw [I.list_inj hl hqx]; exact hx, fun l hl => by rw [I.list_inj hl hqy]; exact hy, fun l hl => by rw [I.tuple_inj hl hqz]; exact ht⟩, ⟨z'', ?_, ⟨y1, y2, y3, ?_⟩, ?_, ?_, ?_⟩, fun k hkm => ?_⟩
    · exact (sb.2 _ D.TIz).trans (hk _ _ D.TIz D.TITO D.TIi1 D.TIi2 D.TIi3 hTI)
    · exact (sb.2 _ D.TOz).trans TO'
    · exact s1'.1.at fun o q => (sb.2 _ D.zi1.symm).trans q
    · exact s2'.1.at fun o q => (sb.2 _ D.zi2.symm).trans q
    · exact s3'.1.at fun o q => (sb.2 _ D.zi3.symm).trans q
    · have hlt : k < s.heap.objs.size := by
        have e' : k = z ∨ k = TI ∨ k = TO ∨ k = i1 ∨ k = i2 ∨ k = i3 := by simpa using hkm
        rcases e' with q | q | q | q | q | q
        · rw [q]; exact hzl
        · rw [q]; exact Heap.lt_size hTI
        · rw [q]; exact Heap.lt_size hTO
        · rw [q]; obtain ⟨_, e1, _⟩ := h1; exact Heap.lt_size e1
        · rw [q]; obtain ⟨_, e1, _⟩ := h2; exact Heap.lt_size e1
        · rw [q]; obtain ⟨_, e1, _⟩ := h3; exact Heap.lt_size e1
      rw [upd_ne (Nat.ne_of_lt hlt)]
      exact (hf k hkm).1
  done := by
    intro X hP hw hK hc i pins s σ H E I hf st hg
    subst hP hw hK
    obtain ⟨hz, hTI, ⟨x0, y0, u0, hTO⟩, h1, h2, h3⟩ := st
    obtain ⟨xs, ys, zs, hqx, hqy, hqz, g1, g2, g3⟩ := hg
    obtain ⟨its, rv, p, _⟩ := I.list hqx
    obtain ⟨its2, rv2, p2, _⟩ := I.list hqy
    obtain ⟨its3, rv3, p3, _⟩ := I.tuple hqz
    have l1 := rv.length
    have l2 := rv2.length
    have l3 := rv3.length
    have hh : X.A.in1.handled = none := I.ok.hd hc
    have m1 : i = its.toArray.size := by simp; omega
    have m2 : i = its2.toArray.size := by simp; omega
    have m3 : i = its3.toArray.size := by simp; omega
    exact wpAny_pyNext_zipD3_end D (Draws.list hh i1 a na its.toArray) (Draws.list hh i2 b nb its2.toArray) (Draws.tuple hh i3 c nc its3.toArray) hz hTI hTO ⟨h1, p.isList⟩ ⟨h2, p2.isList⟩ ⟨h3, p3⟩ (by omega) (by omega) (by omega) (.inl m1) fun h' tk hk => ⟨rfl, I.turnedL (t' := tk) (ch := [z, TI, TO, i1, i2, i3]) (fun k o hb q =>
      hk k o (fun q' => hb (by simp [q'])) (fun q' => hb (by simp [q'])) (fun q' => hb (by simp [q'])) (fun q' => hb (by simp [q'])) (fun q' => hb (by simp [q'])) q) hf⟩
  self := fun A i s Q E st h => wpAny_pyIter_zip st.1 h
def iZip3 (K : PySem.W.Frag) (ta : TA) : TI := fun σ H R => ta σ H fun vs H1 => ∃ a b c xs ys zs, vs = [.ref a, .ref b, .ref c] ∧ SqL K H1 a xs ∧ SqL K H1 b ys ∧ SqT K H1 c zs ∧ R (Itz3 K a b c) H1
theorem pi_zip3 {X : Cx} {e e2 e3 : Expr} {ta : TA} {p pos tpos : Pos} {elts : List Expr} {kk : Nat} (hg : Gl X "zip") (hm : X.mg "zip" = none) (ha : PA X [e, e2, e3] ta)
    (hs : starEach [e, e2, e3] X.env = (false, eval e X.env) :: starEach [e2, e3] X.env := by rfl) (hpl : (backTo pos (starEach [e2, e3] X.env)).any (·.1) = false := by rfl) :
    PI X (.Tuple elts kk tpos) (.Call (.Name "zip" p) [e, e2, e3] [] pos) (iZip3 X.K ta) := by
  refine ⟨fun pins s σ H R I h => ?_⟩
  refine Call_ (ld_blt I hg hm PyProof.Rows.boot_zip (PyProof.Rows.callWith_type1 (thn (ha.run pos pins s σ H _ I h) fun us s1 ⟨vs, H1, I1, r1, q1⟩ => ?_) hs hpl))
  obtain ⟨a, b, c, xs, ys, zs, ex, hqx, hqy, hqz, q⟩ := q1
  subst ex
  cases r1 with
  | cons r rr =>
    cases rr with
    | cons r' rr =>
      cases rr with
      | cons r'' rr =>
        cases rr
        cases r
        cases r'
        cases r''
        have fresh6 : ∀ k, k ∈ [s1.heap.objs.size + 5, s1.heap.objs.size + 3, s1.heap.objs.size + 4, s1.heap.objs.size, s1.heap.objs.size + 1, s1.heap.objs.size + 2] → FpOk X pins H1 k := fun k hkm => by
          have e' : k = s1.heap.objs.size + 5 ∨ k = s1.heap.objs.size + 3 ∨ k = s1.heap.objs.size + 4 ∨ k = s1.heap.objs.size ∨ k = s1.heap.objs.size + 1 ∨ k = s1.heap.objs.size + 2 := by simpa using hkm
          have hle : s1.heap.objs.size ≤ k := by
            rcases e' with z | z | z | z | z | z
            · rw [z]; exact Nat.le_add_right _ _
            · rw [z]; exact Nat.le_add_right _ _
            · rw [z]; exact Nat.le_add_right _ _
            · rw [z]; exact Nat.le_refl _
            · rw [z]; exact Nat.le_add_right _ _
            · rw [z]; exact Nat.le_add_right _ _
          exact I1.fpOk hle (I1.hok.fresh hle)
        obtain ⟨its, rv, p1, _⟩ := I1.list hqx
        obtain ⟨its2, rv2, p2, _⟩ := I1.list hqy
        obtain ⟨its3, rv3, p3, _⟩ := I1.tuple hqz
        obtain ⟨o3, ho3, _⟩ := id p3
        have la : a < s1.heap.objs.size := p1.lt
        have lb : b < s1.heap.objs.size := p2.lt
        have lc : c < s1.heap.objs.size := Heap.lt_size ho3
        refine zip_begins3 (begins_list a its.toArray) (begins_list b its2.toArray) (begins_tuple c its3.toArray) p1.isList p2.isList p3 fun h' hz hTI hTO h1 h2 h3 hsz hk => wpAny_pyIter_zip hz ?_
        have I2 : Inv X pins σ H1 { s1 with heap := h' } := I1.kept (t' := s1.toks) hk
        exact ⟨s1.heap.objs.size + 5, [s1.heap.objs.size + 5, s1.heap.objs.size + 3, s1.heap.objs.size + 4, s1.heap.objs.size, s1.heap.objs.size + 1, s1.heap.objs.size + 2], _, _, H1, rfl, I2,
          turn_zip3 (zip_sep3 (N := s1.heap.objs.size) (fp1 := [a]) (fp2 := [b]) (fp3 := [c]) (fun k hkm => by simp at hkm; rw [hkm]; exact la) (fun k hkm => by simp at hkm; rw [hkm]; exact lb) (fun k hkm => by simp at hkm; rw [hkm]; exact lc)) (Nat.ne_of_lt la) (Nat.ne_of_lt (Nat.lt_succ_of_lt lb)) (Nat.ne_of_lt (Nat.lt_add_right 2 lc)),
          ⟨hz, hTI, ⟨_, _, _, hTO⟩, ⟨_, h1, rfl, rfl⟩, ⟨_, h2, rfl, rfl⟩, ⟨_, h3, rfl, rfl⟩⟩, fresh6, q⟩
/-- a loop over zip of two lists and a tuple of one length -/
theorem for_zip3 {K : PySem.W.Frag} {a b c : Addr} {xs ys zs : List V} {g : TG} {tb : TS} {D : Ends} {σ : L2.St} {H : Hp} (hl : xs.length = ys.length) (hl3 : xs.length = zs.length) (Pv : Nat → L2.St → Hp → Prop) (h0 : Pv 0 σ H) (hq : ∀ i σ H, Pv i σ H → SqL K H a xs ∧ SqL K H b ys ∧ SqT K H c zs)
    (hs : ∀ (i : Nat) (x y z : V) (T : Addr) (σ : L2.St) (H : Hp), xs[i]? = some x → ys[i]? = some y → zs[i]? = some z → Pv i σ H → H T = none → g (.ref T) σ (upd H T (.tup [x, y, z])) fun σ2 H2 => tb { D with nx := Pv (i + 1), ct := Pv (i + 1), bk := D.nx } σ2 H2) (hd : ∀ σ H, Pv xs.length σ H → D.nx σ H) :
    ∃ W : Nat → Nat → L2.St → Hp → Prop, (∃ m, W 0 m σ H) ∧ ∀ i m σ H, W i m σ H →
      ((Itz3 K a b c).stop i H ∧ D.nx σ H) ∨ ((Itz3 K a b c).go i H ∧ ∃ N : L2.St → Hp → Prop, (∀ σ' H', N σ' H' → ∃ m', m' < m ∧ W (i + 1) m' σ' H') ∧ ∀ v H', (Itz3 K a b c).yld i H v H' → g v σ H' fun σ2 H2 => tb { D with nx := N, ct := N, bk := D.nx } σ2 H2) := by
  refine ⟨fun i m σ H => m = xs.length - i ∧ i ≤ xs.length ∧ Pv i σ H, ⟨xs.length, rfl, Nat.zero_le _, h0⟩, ?_⟩
  rintro i m σ H ⟨rfl, hi, p⟩
  obtain ⟨qx, qy, qz⟩ := hq i σ H p
  by_cases hlt : i < xs.length
  · have hx : xs[i]? = some xs[i] := List.getElem?_eq_getElem hlt
    have hlt2 : i < ys.length := by omega
    have hlt3 : i < zs.length := by omega
    have hy : ys[i]? = some ys[i] := List.getElem?_eq_getElem hlt2
    have hz : zs[i]? = some zs[i] := List.getElem?_eq_getElem hlt3
    refine .inr ⟨⟨xs, ys, zs, _, _, _, qx, qy, qz, hx, hy, hz⟩, Pv (i + 1), fun σ' H' p' => ⟨xs.length - (i + 1), by omega, rfl, hlt, p'⟩, fun v H' y => ?_⟩
    obtain ⟨T, x', y', z', rfl, hT, rfl, f1, f2, f3⟩ := y
    exact hs i x' y' z' T σ H (f1 xs qx) (f2 ys qy) (f3 zs qz) p hT
  · have e : i = xs.length := by omega
    subst e
    exact .inl ⟨⟨xs, ys, zs, qx, qy, qz, rfl, by omega, by omega⟩, hd σ H p⟩
/-- name *= e, whole numbers -/
def ipMul : TIp := fun x y H Q => ∃ i j, x = .int i ∧ y = .int j ∧ CMulW i j ∧ Q (.int (i * j)) H
theorem ip_mult {X : Cx} : PIp X .Mult ipMul := by
  intro pins s σ H x y v u Q I r1 r2 h
  obtain ⟨i, j, e1, e2, hc, q⟩ := h
  subst e1; subst e2
  obtain ⟨t, rfl⟩ := r1
  obtain ⟨t', rfl⟩ := r2
  exact imul_int ⟨.int _, H, I.tok _, ⟨_, rfl⟩, q⟩ hc.ok
end Mb
namespace Mb
open PySem L2
/-! ### worths -/
def mon : List Nat → List Rat → List Int → Int
  | m :: ms, r :: rs, k :: ks => r.num ^ k.toNat * (r.den : Int) ^ (m - k.toNat) * mon ms rs ks
  | _, _, _ => 1
def bot : List Nat → List Rat → Int
  | m :: ms, r :: rs => (r.den : Int) ^ m * bot ms rs
  | _, _ => 1
def rmon : List Rat → List Int → Rat
  | r :: rs, k :: ks => r ^ k.toNat * rmon rs ks
  | _, _ => 1
def wR (rs : List Rat) (F : List Trm) : Rat := (F.map fun t => (t.2 : Rat) * rmon rs t.1).sum
theorem wR_nil {rs : List Rat} : wR rs [] = 0 := rfl
theorem wR_cons {rs : List Rat} {t : Trm} {F : List Trm} : wR rs (t :: F) = (t.2 : Rat) * rmon rs t.1 + wR rs F := rfl
theorem wR_app {rs : List Rat} : ∀ (F G : List Trm), wR rs (F ++ G) = wR rs F + wR rs G
  | [], G => by rw [List.nil_append, wR_nil, Rat.zero_add]
  | t :: F, G => by rw [List.cons_append, wR_cons, wR_cons, wR_app F G, Rat.add_assoc]
theorem wR_neg {rs : List Rat} : ∀ F : List Trm, wR rs (negT F) = -wR rs F
  | [] => rfl
  | t :: F => by
    show wR rs ((t.1, -t.2) :: negT F) = _
    rw [wR_cons, wR_cons, wR_neg F]
    show ((-t.2 : Int) : Rat) * rmon rs t.1 + _ = _
    rw [Rat.intCast_neg]
    grind
theorem rat_pow_add (x : Rat) (a : Nat) : ∀ b : Nat, x ^ (a + b) = x ^ a * x ^ b
  | 0 => by rw [Nat.add_zero, Rat.pow_zero, Rat.mul_one]
  | b + 1 => by rw [← Nat.add_assoc, Rat.pow_succ, Rat.pow_succ, rat_pow_add x a b, Rat.mul_assoc]
theorem rat_mul_pow (x y : Rat) : ∀ b : Nat, (x * y) ^ b = x ^ b * y ^ b
  | 0 => by rw [Rat.pow_zero, Rat.pow_zero, Rat.pow_zero, Rat.mul_one]
  | b + 1 => by
    rw [Rat.pow_succ, Rat.pow_succ, Rat.pow_succ, rat_mul_pow x y b]
    grind
theorem rmon_add {rs : List Rat} : ∀ {a b : List Int}, a.length = rs.length → b.length = rs.length → (∀ p ∈ a, 0 ≤ p) → (∀ p ∈ b, 0 ≤ p) → rmon rs (addL a b) = rmon rs a * rmon rs b := by
  induction rs with
  | nil => 
    intro a b ha hb _ _
    show (1 : Rat) = 1 * 1
    rw [Rat.mul_one]
  | cons r rs ih =>
    intro a b ha hb pa pb
    match a, b, ha, hb with
    | x :: a, y :: b, ha, hb =>
      show r ^ (x + y).toNat * rmon rs (addL a b) = r ^ x.toNat * rmon rs a * (r ^ y.toNat * rmon rs b)
      rw [ih (by simpa using ha) (by simpa using hb) (fun p hp => pa p (List.mem_cons_of_mem _ hp)) fun p hp => pb p (List.mem_cons_of_mem _ hp)]
      have h1 := pa x List.mem_cons_self
      have h2 := pb y List.mem_cons_self
      rw [show (x + y).toNat = x.toNat + y.toNat by omega, rat_pow_add]
      grind
theorem wR_pr {rs : List Rat} {t : Trm} (ht : t.1.length = rs.length) (pt : ∀ p ∈ t.1, 0 ≤ p) : ∀ {G : List Trm}, (∀ u ∈ G, u.1.length = rs.length ∧ ∀ p ∈ u.1, 0 ≤ p) → wR rs (pr1 t G) = (t.2 : Rat) * rmon rs t.1 * wR rs G
  | [], _ => by
    show (0 : Rat) = _ * 0
    rw [Rat.mul_zero]
  | u :: G, h => by
    obtain ⟨h1, h2⟩ := h u List.mem_cons_self
    show wR rs ((addL t.1 u.1, t.2 * u.2) :: pr1 t G) = _
    rw [wR_cons, wR_cons, wR_pr ht pt fun u hu => h u (List.mem_cons_of_mem _ hu), rmon_add ht h1 pt h2, Rat.intCast_mul]
    grind
theorem wR_mul {rs : List Rat} {G : List Trm} (hG : ∀ u ∈ G, u.1.length = rs.length ∧ ∀ p ∈ u.1, 0 ≤ p) : ∀ {F : List Trm}, (∀ u ∈ F, u.1.length = rs.length ∧ ∀ p ∈ u.1, 0 ≤ p) → wR rs (mulT F G) = wR rs F * wR rs G
  | [], _ => by
    show (0 : Rat) = 0 * _
    rw [Rat.zero_mul]
  | t :: F, h => by
    obtain ⟨h1, h2⟩ := h t List.mem_cons_self
    rw [mul_cons, wR_app, wR_cons, wR_mul hG fun u hu => h u (List.mem_cons_of_mem _ hu), wR_pr h1 h2 hG]
    grind
theorem rmon_put {n : Rat} : ∀ {rs : List Rat} {a : Nat} {ks : List Int}, ks.length = rs.length → a < rs.length → rmon (rs.set a n) ks = n ^ (ks.getD a 0).toNat * rmon rs (ks.set a 0)
  | r :: rs, 0, k :: ks, _, _ => by
    show n ^ k.toNat * rmon rs ks = n ^ k.toNat * (r ^ (0 : Int).toNat * rmon rs ks)
    rw [show (0 : Int).toNat = 0 from rfl, Rat.pow_zero, Rat.one_mul]
  | r :: rs, a + 1, k :: ks, hl, ha => by
    show r ^ k.toNat * rmon (rs.set a n) ks = n ^ (ks.getD a 0).toNat * (r ^ k.toNat * rmon rs (ks.set a 0))
    rw [rmon_put (by simpa using hl) (by simpa using ha)]
    grind
theorem wR_put {rs : List Rat} {a : Nat} {n : Int} (ha : a < rs.length) : ∀ {F : List Trm}, (∀ u ∈ F, u.1.length = rs.length) → wR rs (putT a n F) = wR (rs.set a (n : Rat)) F
  | [], _ => rfl
  | t :: F, h => by
    show wR rs ((t.1.set a 0, t.2 * n ^ (t.1.getD a 0).toNat) :: putT a n F) = _
    rw [wR_cons, wR_cons, wR_put ha fun u hu => h u (List.mem_cons_of_mem _ hu), rmon_put (h t List.mem_cons_self) ha, Rat.intCast_mul, Rat.intCast_pow]
    grind
/-- powers below ms, one for each -/
def Under : List Nat → List Int → Prop
  | m :: ms, k :: ks => 0 ≤ k ∧ k ≤ (m : Int) ∧ Under ms ks
  | [], [] => True
  | _, _ => False
theorem mon_rat : ∀ {ms : List Nat} {rs : List Rat} {ks : List Int}, ms.length = rs.length → Under ms ks → (mon ms rs ks : Rat) = rmon rs ks * (bot ms rs : Rat)
  | [], [], [], _, _ => by
    show ((1 : Int) : Rat) = 1 * ((1 : Int) : Rat)
    rw [Rat.one_mul]
  | m :: ms, r :: rs, k :: ks, hl, ⟨k0, km, u⟩ => by
    show ((r.num ^ k.toNat * (r.den : Int) ^ (m - k.toNat) * mon ms rs ks : Int) : Rat) = r ^ k.toNat * rmon rs ks * (((r.den : Int) ^ m * bot ms rs : Int) : Rat)
    rw [Rat.intCast_mul, Rat.intCast_mul, Rat.intCast_mul, Rat.intCast_pow, Rat.intCast_pow, Rat.intCast_pow, mon_rat (by simpa using hl) u]
    have e : ((r.num : Int) : Rat) = r * ((r.den : Int) : Rat) := by
      have := Rat.num_divInt_den r
      rw [Rat.divInt_eq_div] at this
      have nz : ((r.den : Int) : Rat) ≠ 0 := by
        have := den_ne r
        intro h
        exact this (by exact_mod_cast h)
      grind
    have e2 : ((r.den : Int) : Rat) ^ m = ((r.den : Int) : Rat) ^ k.toNat * ((r.den : Int) : Rat) ^ (m - k.toNat) := by
      rw [← rat_pow_add]
      congr 1
      omega
    rw [e, e2, rat_mul_pow]
    grind
theorem bot_pos : ∀ (ms : List Nat) (rs : List Rat), 0 < bot ms rs
  | [], _ => by unfold bot; decide
  | m :: ms, [] => by unfold bot; decide
  | m :: ms, r :: rs => by
    show 0 < (r.den : Int) ^ m * bot ms rs
    exact Int.mul_pos (Int.pow_pos (den_pos r)) (bot_pos ms rs)
theorem wsum_rat {ms : List Nat} {rs : List Rat} (hl : ms.length = rs.length) : ∀ {F : List Trm}, (∀ t ∈ F, Under ms t.1) → (wsum (mon ms rs) F : Rat) = wR rs F * (bot ms rs : Rat)
  | [], _ => by
    show ((0 : Int) : Rat) = 0 * _
    rw [Rat.zero_mul]
    rfl
  | t :: F, h => by
    rw [wsum_cons, wR_cons, Rat.intCast_add, Rat.intCast_mul, wsum_rat hl fun u hu => h u (List.mem_cons_of_mem _ hu), mon_rat hl (h t List.mem_cons_self)]
    grind
theorem worth_rat {ms : List Nat} {rs : List Rat} (hl : ms.length = rs.length) {F : List Trm} (h : ∀ t ∈ F, Under ms t.1) : wR rs F = Rat.divInt (wsum (mon ms rs) F) (bot ms rs) := by
  have e := wsum_rat hl h
  have p := bot_pos ms rs
  have nz : ((bot ms rs : Int) : Rat) ≠ 0 := by
    intro h
    have : bot ms rs = 0 := by exact_mod_cast h
    omega
  rw [Rat.divInt_eq_div, e]
  grind
theorem under_rep {m : Nat} {c : Int} {n : Nat} (hc : c ≤ (n : Int)) {k : List Int} (hl : k.length = m) (h : ∀ p ∈ k, 0 ≤ p ∧ p ≤ c) : Under (List.replicate m n) k := by
  induction k generalizing m with
  | nil =>
    obtain rfl : m = 0 := by simpa using hl.symm
    trivial
  | cons x k ih =>
    obtain ⟨m, rfl⟩ : ∃ j, m = j + 1 := ⟨k.length, by simpa using hl.symm⟩
    obtain ⟨h1, h2⟩ := h x List.mem_cons_self
    exact ⟨h1, by omega, ih (by simpa using hl) fun p hp => h p (List.mem_cons_of_mem _ hp)⟩
/-- the worth hangs on the sums alone -/
theorem wR_same {rs : List Rat} {m : Nat} {c d : Int} {A B : List Trm} (hm : m = rs.length) (hA : OkT m c A) (hB : OkT m d B) (e : ∀ k, sumK A k = sumK B k) : wR rs A = wR rs B := by
  have uA : ∀ t ∈ A, Under (List.replicate m (max c d).toNat) t.1 := fun t ht => under_rep (c := c) (by omega) (hA t ht).1 (hA t ht).2
  have uB : ∀ t ∈ B, Under (List.replicate m (max c d).toNat) t.1 := fun t ht => under_rep (c := d) (by omega) (hB t ht).1 (hB t ht).2
  have l : (List.replicate m (max c d).toNat).length = rs.length := by rw [List.length_replicate, hm]
  rw [worth_rat l uA, worth_rat l uB, wsum_same e]
theorem Fm.wR {rs : List Rat} {m : Nat} {c : Int} {A B : List Trm} (h : Fm A B) (hm : m = rs.length) (hA : OkT m c A) : wR rs B = wR rs A :=
  wR_same hm (h.ok hA) hA fun k => h.sum k
/-! sizes -/
/-- the bits of all the numbers together -/
def Bt : List Rat → Nat → Prop
  | [], _ => True
  | r :: rs, b => ∃ c, Sz c r ∧ c ≤ b ∧ Bt rs (b - c)
theorem Bt.mono : ∀ {rs : List Rat} {a b : Nat}, Bt rs a → a ≤ b → Bt rs b
  | [], _, _, _, _ => trivial
  | _ :: _, _, _, ⟨c, h1, h2, h3⟩, l => ⟨c, h1, by omega, h3.mono (by omega)⟩
theorem Bt.take : ∀ {rs : List Rat} {b : Nat} (i : Nat), Bt rs b → Bt (rs.take i) b
  | [], _, _, _ => by rw [List.take_nil]; trivial
  | _ :: _, _, 0, _ => trivial
  | _ :: _, _, i + 1, ⟨c, h1, h2, h3⟩ => ⟨c, h1, h2, h3.take i⟩
theorem Bt.at {r : Rat} : ∀ {rs : List Rat} {b : Nat}, Bt rs b → r ∈ rs → Sz b r
  | _ :: _, _, ⟨c, h1, h2, h3⟩, h => by
    rcases List.mem_cons.mp h with rfl | h
    · exact h1.mono h2
    · exact (h3.at h).mono (by omega)
theorem Bt.all {n : Nat} : ∀ {rs : List Rat}, (∀ r ∈ rs, Sz n r) → Bt rs (rs.length * n)
  | [], _ => trivial
  | r :: rs, h => ⟨n, h r List.mem_cons_self, by rw [List.length_cons, Nat.add_mul]; omega, (Bt.all fun x hx => h x (List.mem_cons_of_mem _ hx)).mono (by rw [List.length_cons, Nat.add_mul]; omega)⟩
theorem pow_le_of {x : Int} {c k : Nat} (h : Sm c x) : (x ^ k).natAbs ≤ 2 ^ (c * k) := by
  rw [Int.natAbs_pow, Nat.pow_mul]
  exact Nat.pow_le_pow_left (Nat.le_of_lt h) k
theorem mon_le {M : Nat} : ∀ {ms : List Nat} {rs : List Rat} {ks : List Int} {b : Nat}, Bt rs b → (∀ m ∈ ms, m ≤ M) → Under ms ks → (mon ms rs ks).natAbs ≤ 2 ^ (M * b)
  | [], _, _, _, _, _, _ => by unfold mon; exact Nat.one_le_two_pow
  | _ :: _, [], _, _, _, _, _ => by unfold mon; exact Nat.one_le_two_pow
  | _ :: _, _ :: _, [], _, _, _, u => by cases u
  | m :: ms, r :: rs, k :: ks, b, ⟨c, h1, h2, h3⟩, hm, ⟨k0, km, u⟩ => by
    have i := mon_le (M := M) h3 (fun x hx => hm x (List.mem_cons_of_mem _ hx)) u
    have m1 := hm m List.mem_cons_self
    show (r.num ^ k.toNat * (r.den : Int) ^ (m - k.toNat) * mon ms rs ks).natAbs ≤ _
    rw [Int.natAbs_mul, Int.natAbs_mul]
    refine Nat.le_trans (Nat.mul_le_mul (Nat.mul_le_mul (pow_le_of h1.t) (pow_le_of h1.b)) i) ?_
    rw [← Nat.pow_add, ← Nat.pow_add]
    refine Nat.pow_le_pow_right (by decide) ?_
    rw [← Nat.mul_add]
    have e1 : c * (k.toNat + (m - k.toNat)) ≤ c * M := Nat.mul_le_mul_left _ (by omega)
    have e2 : M * b = c * M + M * (b - c) := by rw [Nat.mul_comm c, ← Nat.mul_add]; congr 1; omega
    omega
theorem bot_le {M : Nat} : ∀ {ms : List Nat} {rs : List Rat} {b : Nat}, Bt rs b → (∀ m ∈ ms, m ≤ M) → (bot ms rs).natAbs ≤ 2 ^ (M * b)
  | [], _, _, _, _ => by unfold bot; exact Nat.one_le_two_pow
  | _ :: _, [], _, _, _ => by unfold bot; exact Nat.one_le_two_pow
  | m :: ms, r :: rs, b, ⟨c, h1, h2, h3⟩, hm => by
    have i := bot_le (M := M) h3 (fun x hx => hm x (List.mem_cons_of_mem _ hx))
    have m1 := hm m List.mem_cons_self
    show ((r.den : Int) ^ m * bot ms rs).natAbs ≤ _
    rw [Int.natAbs_mul]
    refine Nat.le_trans (Nat.mul_le_mul (pow_le_of h1.b) i) ?_
    rw [← Nat.pow_add]
    refine Nat.pow_le_pow_right (by decide) ?_
    have e1 : c * m ≤ c * M := Nat.mul_le_mul_left _ (by omega)
    have e2 : M * b = c * M + M * (b - c) := by rw [Nat.mul_comm c, ← Nat.mul_add]; congr 1; omega
    omega
theorem sm_of_le {x : Int} {n : Nat} (h : x.natAbs ≤ 2 ^ n) : Sm (n + 1) x := Nat.lt_of_le_of_lt h (by rw [Nat.pow_succ]; have := Nat.two_pow_pos n; omega)
theorem wsum_le {M S : Nat} {ms : List Nat} {rs : List Rat} {b : Nat} (hb : Bt rs b) (hm : ∀ m ∈ ms, m ≤ M) : ∀ {F : List Trm}, (∀ t ∈ F, Under ms t.1 ∧ Sm S t.2) → (wsum (mon ms rs) F).natAbs ≤ F.length * 2 ^ (S + M * b)
  | [], _ => Nat.zero_le _
  | t :: F, h => by
    obtain ⟨u, st⟩ := h t List.mem_cons_self
    have i := wsum_le hb hm fun x hx => h x (List.mem_cons_of_mem _ hx)
    rw [wsum_cons, List.length_cons, Nat.add_mul]
    have e : (t.2 * mon ms rs t.1).natAbs ≤ 2 ^ (S + M * b) := by
      rw [Int.natAbs_mul, Nat.pow_add]
      exact Nat.mul_le_mul (Nat.le_of_lt st) (mon_le hb hm u)
    have := Int.natAbs_add_le (t.2 * mon ms rs t.1) (wsum (mon ms rs) F)
    omega
theorem wsum_sm {M S : Nat} {ms : List Nat} {rs : List Rat} {b : Nat} {F : List Trm} (hb : Bt rs b) (hm : ∀ m ∈ ms, m ≤ M) (h : ∀ t ∈ F, Under ms t.1 ∧ Sm S t.2) (l : F.length ≤ 4000) : Sm (S + M * b + 12) (wsum (mon ms rs) F) := by
  have i := wsum_le hb hm h
  show (wsum (mon ms rs) F).natAbs < 2 ^ (S + M * b + 12)
  rw [Nat.pow_add _ (S + M * b) 12]
  have h1 : F.length * 2 ^ (S + M * b) ≤ 4000 * 2 ^ (S + M * b) := Nat.mul_le_mul_right _ l
  have h2 := Nat.two_pow_pos (S + M * b)
  omega
/-- one more of a product -/
theorem mon_take {ms : List Nat} {rs : List Rat} {ks : List Int} {i : Nat} {m : Nat} {r : Rat} {k : Int} (hm : ms[i]? = some m) (hr : rs[i]? = some r) (hk : ks[i]? = some k) : mon (ms.take (i + 1)) (rs.take (i + 1)) (ks.take (i + 1)) = mon (ms.take i) (rs.take i) (ks.take i) * (r.num ^ k.toNat * (r.den : Int) ^ (m - k.toNat)) := by
  induction i generalizing ms rs ks with
  | zero =>
    match ms, rs, ks, hm, hr, hk with
    | m' :: ms, r' :: rs, k' :: ks, hm, hr, hk =>
      simp only [List.getElem?_cons_zero, Option.some.injEq] at hm hr hk
      subst hm hr hk
      show r'.num ^ k'.toNat * (r'.den : Int) ^ (m' - k'.toNat) * mon (ms.take 0) (rs.take 0) (ks.take 0) = 1 * _
      rw [show mon (ms.take 0) (rs.take 0) (ks.take 0) = 1 by rw [List.take_zero]; rfl, Int.mul_one, Int.one_mul]
  | succ i ih =>
    match ms, rs, ks, hm, hr, hk with
    | m' :: ms, r' :: rs, k' :: ks, hm, hr, hk =>
      have e := ih (ms := ms) (rs := rs) (ks := ks) (by simpa using hm) (by simpa using hr) (by simpa using hk)
      show r'.num ^ k'.toNat * (r'.den : Int) ^ (m' - k'.toNat) * mon (ms.take (i + 1)) (rs.take (i + 1)) (ks.take (i + 1)) = r'.num ^ k'.toNat * (r'.den : Int) ^ (m' - k'.toNat) * mon (ms.take i) (rs.take i) (ks.take i) * _
      rw [e]
      exact (Int.mul_assoc _ _ _).symm
theorem bot_take {ms : List Nat} {rs : List Rat} {i : Nat} {m : Nat} {r : Rat} (hm : ms[i]? = some m) (hr : rs[i]? = some r) : bot (ms.take (i + 1)) (rs.take (i + 1)) = bot (ms.take i) (rs.take i) * (r.den : Int) ^ m := by
  induction i generalizing ms rs with
  | zero =>
    match ms, rs, hm, hr with
    | m' :: ms, r' :: rs, hm, hr =>
      simp only [List.getElem?_cons_zero, Option.some.injEq] at hm hr
      subst hm hr
      show (r'.den : Int) ^ m' * bot (ms.take 0) (rs.take 0) = 1 * _
      rw [show bot (ms.take 0) (rs.take 0) = 1 by rw [List.take_zero]; rfl, Int.mul_one, Int.one_mul]
  | succ i ih =>
    match ms, rs, hm, hr with
    | m' :: ms, r' :: rs, hm, hr =>
      have e := ih (ms := ms) (rs := rs) (by simpa using hm) (by simpa using hr)
      show (r'.den : Int) ^ m' * bot (ms.take (i + 1)) (rs.take (i + 1)) = (r'.den : Int) ^ m' * bot (ms.take i) (rs.take i) * _
      rw [e]
      exact (Int.mul_assoc _ _ _).symm
theorem Under.take : ∀ {ms : List Nat} {ks : List Int} (i : Nat), Under ms ks → Under (ms.take i) (ks.take i)
  | [], [], _, _ => by rw [List.take_nil, List.take_nil]; trivial
  | _ :: _, _ :: _, 0, _ => trivial
  | _ :: _, _ :: _, i + 1, ⟨a, b, c⟩ => ⟨a, b, c.take i⟩
theorem Under.len : ∀ {ms : List Nat} {ks : List Int}, Under ms ks → ms.length = ks.length
  | [], [], _ => rfl
  | _ :: _, _ :: _, ⟨_, _, c⟩ => by rw [List.length_cons, List.length_cons, c.len]
theorem Under.at : ∀ {ms : List Nat} {ks : List Int} {i m : Nat} {k : Int}, Under ms ks → ms[i]? = some m → ks[i]? = some k → 0 ≤ k ∧ k ≤ (m : Int)
  | _ :: _, _ :: _, 0, m, k, ⟨a, b, c⟩, h1, h2 => by
    simp only [List.getElem?_cons_zero, Option.some.injEq] at h1 h2
    subst h1 h2
    exact ⟨a, b⟩
  | _ :: _, _ :: _, i + 1, m, k, ⟨a, b, c⟩, h1, h2 => c.at (i := i) (by simpa using h1) (by simpa using h2)
end Mb
namespace Mb
open PySem L2
/-- fractions stand at the values -/
def Frs (K : PySem.W.Frag) (H : Hp) (ws : List V) (rs : List Rat) : Prop := Paired (fun v r => Fq K H v r) ws rs
theorem Frs.up {K : PySem.W.Frag} {H H' : Hp} {ws : List V} {rs : List Rat} (h : Frs K H ws rs) (s : Same H H') : Frs K H' ws rs := Paired.mapP h fun _ _ q => q.up s
theorem lc_by {α : Type} {K : PySem.W.Frag} {j : Nat} {te : TE} {σ : St} {Q : VK} {l : Addr} {ws : List V} {xs : List α} {H : Hp} (P : V → α → Prop) (R : Hp → V → α → Prop) (mono : ∀ {D : Addr} {H H' : Hp} {v : V} {x : α}, But D H H' → v ≠ .ref D → R H v x → R H' v x) (hl : SqL K H l ws) (pr : Paired P ws xs) (few : xs.length ≤ 10000) (hσ : ∀ v, wipe ((wipe σ [j]).set j (some v)) [j] = wipe σ [j])
    (stE : ∀ (v : V) (x : α) (H' : Hp), x ∈ xs → P v x → Same H H' → ∀ S : VK, (∀ (u : V) (H4 : Hp), Same H' H4 → R H4 u x → (∀ D, H' D ≠ none → u ≠ .ref D) → S u H4) → te ((wipe σ [j]).set j (some v)) H' S)
    (fin : ∀ (D : Addr) (vs : List V) (H' : Hp), Same H H' → H D = none → H' D = some (.lst vs) → Paired (R H') vs xs → Q (.ref D) H') : lcL K (gName j) tYes te [j] σ Q (.ref l) H := by
  refine ⟨l, rfl, ⟨_, hl⟩, fun D hD => ?_⟩
  have ln : ws.length = xs.length := Paired.length pr
  refine lc_list (xs := ws) (fun n H' => ∃ vs : List V, Same H H' ∧ H' D = some (.lst vs) ∧ vs.length = n ∧ Paired (fun v x => R H' v x ∧ v ≠ .ref D) vs (xs.take n)) ⟨[], same_new hD _, upd_same, rfl, by rw [List.take_zero]; exact .nil⟩ (fun n H' _ h => by obtain ⟨_, h, _⟩ := h; exact h.seq hl) ?_ ?_
  · rintro n v H' hx ⟨vs, g, d, lv, pr'⟩
    obtain ⟨x, ht, px⟩ := LiI.paired_get pr hx
    have hm := List.mem_of_getElem? ht
    have hn : n < xs.length := (List.getElem?_eq_some_iff.mp ht).1
    have e1 : xs.take (n + 1) = xs.take n ++ [x] := by rw [List.take_succ, ht, Option.toList_some]
    refine ⟨hσ _, ?_⟩
    refine r_yes ?_
    rw [if_pos rfl]
    refine stE v x H' hm px g _ fun u H4 g4 ru nu => ?_
    have d4 := g4 _ _ d
    have nD : u ≠ .ref D := nu D (by rw [d]; exact fun z => nomatch z)
    have bt : But D H4 (upd H4 D (.lst (vs ++ [u]))) := But.upd _ _ _
    refine ⟨_, d4, Nat.lt_of_le_of_lt (show vs.length ≤ 10000 by omega) (by decide), vs ++ [u], same_updS (g.trans g4) hD, upd_same, by simp [lv], ?_⟩
    rw [e1]
    exact paired_snoc' ⟨mono bt nD ru, nD⟩ (Paired.mapP pr' fun _ _ h => ⟨mono bt h.2 (mono (But.same g4) h.2 h.1), h.2⟩)
  · rintro H' ⟨vs, g, d, lv, pr'⟩
    rw [ln, List.take_length] at pr'
    exact fin D vs H' g hD d (Paired.mapP pr' fun _ _ h => h.1)
theorem r_forZ3 {K : PySem.W.Frag} {ta : TA} {g : TG} {tb : TS} {D : Ends} {σ : St} {H : Hp} (q : ta σ H fun vs H1 => ∃ a b c xs ys zs, vs = [.ref a, .ref b, .ref c] ∧ SqL K H1 a xs ∧ SqL K H1 b ys ∧ SqT K H1 c zs ∧ ∃ W : Nat → Nat → St → Hp → Prop, (∃ m, W 0 m σ H1) ∧ ∀ i m σ H, W i m σ H →
    ((Itz3 K a b c).stop i H ∧ D.nx σ H) ∨ ((Itz3 K a b c).go i H ∧ ∃ N : St → Hp → Prop, (∀ σ' H', N σ' H' → ∃ m', m' < m ∧ W (i + 1) m' σ' H') ∧ ∀ x H', (Itz3 K a b c).yld i H x H' → g x σ H' fun σ2 H2 => tb { D with nx := N, ct := N, bk := D.nx } σ2 H2)) : tFor (iZip3 K ta) g tb D σ H := q
def spWorth (K : PySem.W.Frag) : Sp := fun vs H Q _ => ∃ (f l : Addr) (F : List Trm) (ws : List V) (rs : List Rat) (m S b : Nat) (c : Int), vs = [.ref f, .ref l] ∧ FmAt H f F ∧ OkT m c F ∧ 0 ≤ c ∧ c ≤ 50 ∧ F.length ≤ 4000 ∧ (∀ t ∈ F, Sm S t.2) ∧ SqL K H l ws ∧ Frs K H ws rs ∧ rs.length = m ∧ m ≤ 60 ∧ Bt rs b ∧ S + c.toNat * b ≤ 7000 ∧ b ≤ 5000 ∧
  ∀ (r : Addr) (H' : Hp), Same H H' → H r = none → Fq K H' (.ref r) (wR rs F) → Q (.ref r) H'
/-- the list of a number's powers -/
def Pws (k : Nat) (x : Int) (H : Hp) (v : V) : Prop := ∃ a, v = .ref a ∧ H a = some (.lst (((List.range (k + 1)).map fun j => x ^ j).map V.int))
theorem Pws.up {k : Nat} {x : Int} {H H' : Hp} {v : V} (h : Pws k x H v) (s : Same H H') : Pws k x H' v := by
  obtain ⟨a, rfl, e⟩ := h
  exact ⟨a, rfl, s _ _ e⟩
theorem Pws.but {D : Addr} {k : Nat} {x : Int} {H H' : Hp} {v : V} (s : But D H H') (n : v ≠ .ref D) (h : Pws k x H v) : Pws k x H' v := by
  obtain ⟨a, rfl, e⟩ := h
  exact ⟨a, rfl, s _ _ (fun z => n (by rw [z])) e⟩
theorem part_sm {S M b : Nat} {ms : List Nat} {rs : List Rat} {ks : List Int} {n : Int} (i : Nat) (hb : Bt rs b) (hm : ∀ m ∈ ms, m ≤ M) (u : Under ms ks) (sn : Sm S n) : Sm (S + M * b + 1) (n * mon (ms.take i) (rs.take i) (ks.take i)) := by
  refine sm_of_le ?_
  rw [Int.natAbs_mul, Nat.pow_add]
  exact Nat.mul_le_mul (Nat.le_of_lt sn) (mon_le (hb.take i) (fun x hx => hm x (List.mem_of_mem_take hx)) (u.take i))
end Mb
namespace Mb
open PySem L2
def spLWorth (K : PySem.W.Frag) : Sp := fun vs H Q _ => ∃ (f l : Addr) (F : List Trm) (ws : List V) (rs : List Rat) (m S b : Nat) (c : Int), vs = [.ref f, .ref l] ∧ FmAt H f F ∧ OkT m c F ∧ 0 ≤ c ∧ c ≤ 50 ∧ F.length ≤ 4000 ∧ (∀ t ∈ F, Sm S t.2) ∧ SqL K H l ws ∧ Frs K H ws rs ∧ rs.length = m ∧ m ≤ 60 ∧ Bt rs b ∧ S + c.toNat * b ≤ 7000 ∧ b ≤ 5000 ∧ 1 ≤ b ∧
  ∀ (r : V) (H' : Hp), Same H H' → Rq K H' r (wR rs F) (S + c.toNat * b + 12) → Q r H'
end Mb
namespace Mb
open PySem L2
theorem under_of : ∀ {ms : List Nat} {ks : List Int}, ms.length = ks.length → (∀ (j x : Nat), ms[j]? = some x → ks.getD j 0 ≤ (x : Int)) → (∀ p ∈ ks, 0 ≤ p) → Under ms ks
  | [], [], _, _, _ => trivial
  | m :: ms, k :: ks, hl, h, hp => ⟨hp k List.mem_cons_self, h 0 m rfl, under_of (by simpa using hl) (fun j x hx => h (j + 1) x (by simpa using hx)) fun p hq => hp p (List.mem_cons_of_mem _ hq)⟩
end Mb
namespace Mb
open PySem L2
theorem r_catL {H : Hp} {Q : VK} {l b : Addr} {xs zs : List V} (h1 : H l = some (.lst xs)) (h2 : H b = some (.lst zs)) (s : xs.length + zs.length ≤ sizeLine) (k : ∀ (p : Addr) (H' : Hp), Same H H' → H' p = some (.lst (xs ++ zs)) → Q (.ref p) H') : rCat (.ref l) (.ref b) H Q := ⟨l, b, xs, zs, rfl, rfl, h1, h2, s, fun p hp => k p _ (same_new hp _) upd_same⟩
end Mb
namespace Mb
open PySem L2
def spIsWorth (K : PySem.W.Frag) : Sp := fun vs H Q _ => ∃ (v w : V) (q q' : Rat) (n m : Nat), vs = [v, w] ∧ Fq K H v q ∧ Sz n q ∧ Rq K H w q' m ∧ q = q' ∧ n ≤ 20000 ∧ m ≤ 20000 ∧ Q (.bl true) H
theorem Bt.snoc {r : Rat} {c : Nat} (hr : Sz c r) : ∀ {rs : List Rat} {b : Nat}, Bt rs b → Bt (rs ++ [r]) (b + c)
  | [], b, _ => ⟨c, hr, by omega, trivial⟩
  | _ :: _, b, ⟨d, h1, h2, h3⟩ => ⟨d, h1, by omega, by have := h3.snoc hr; rw [show b + c - d = b - d + c by omega]; exact this⟩
theorem Frs.snoc {K : PySem.W.Frag} {H : Hp} {ws : List V} {rs : List Rat} {v : V} {r : Rat} (h : Frs K H ws rs) (hv : Fq K H v r) : Frs K H (ws ++ [v]) (rs ++ [r]) := paired_snoc' hv h
theorem Frs.but {K : PySem.W.Frag} {H H' : Hp} {p : Addr} {xs : List V} {ws : List V} {rs : List Rat} (h : Frs K H ws rs) (hp : H p = some (.lst xs)) (s : But p H H') : Frs K H' ws rs := Paired.mapP h fun _ _ q => q.but hp s
/-- the worth's size -/
theorem wR_sz {S M b : Nat} {m : Nat} {rs : List Rat} {F : List Trm} {c : Int} (hm : rs.length = m) (hb : Bt rs b) (ok : OkT m c F) (hc : 0 ≤ c) (sF : ∀ t ∈ F, Sm S t.2) (l : F.length ≤ 4000) (hM : M = c.toNat) : Sz (S + M * b + 12) (wR rs F) := by
  have lm : (List.replicate m M).length = rs.length := by rw [List.length_replicate, hm]
  have un : ∀ t ∈ F, Under (List.replicate m M) t.1 := fun t ht => under_rep (c := c) (by omega) (ok t ht).1 (ok t ht).2
  have mM : ∀ x ∈ List.replicate m M, x ≤ M := fun x hx => by rw [(List.mem_replicate.mp hx).2]; exact Nat.le_refl _
  rw [worth_rat lm un]
  have bp := bot_pos (List.replicate m M) rs
  exact Sz.divInt (by omega) (wsum_sm hb mM (fun t ht => ⟨un t ht, sF t ht⟩) l) ((sm_of_le (bot_le hb mM)).mono (by omega))
def spNumbers (K : PySem.W.Frag) : Sp := fun vs H Q _ => ∃ (p : Addr) (m : Nat) (b : Int), vs = [.ref p, .int (m : Int)] ∧ Pl H p b ∧ b ≤ 1800000 ∧ m ≤ 7 ∧
  ∀ (l : Addr) (ws : List V) (rs : List Rat) (H' : Hp), But p H H' → Pl H' p (b + 1000) → H l = none → H' l = some (.lst ws) → Frs K H' ws rs → rs.length = m → Bt rs 90 → Q (.ref l) H'
end Mb
namespace Mb
open PySem L2
theorem Fq.plB {K : PySem.W.Frag} {H H' : Hp} {v : V} {q : Rat} {p : Addr} {b : Int} (h : Fq K H v q) (hp : Pl H p b) (s : But p H H') : Fq K H' v q := by
  obtain ⟨x, y, z, e, _⟩ := hp
  exact h.but e s
theorem Frs.plB {K : PySem.W.Frag} {H H' : Hp} {ws : List V} {rs : List Rat} {p : Addr} {b : Int} (h : Frs K H ws rs) (hp : Pl H p b) (s : But p H H') : Frs K H' ws rs := by
  obtain ⟨x, y, z, e, _⟩ := hp
  exact h.but e s
theorem Fb.fq {K : PySem.W.Frag} {H : Hp} {o : Addr} {t u : Int} (h : Fb t u) (e : H o = some (.tup [.int t, .int u])) : ∃ r : Rat, Fq K H (.ref o) r ∧ Sz 31 r := by
  obtain ⟨h1, h2, h3, h4⟩ := h
  obtain ⟨q, rfl, rfl, s⟩ := Fr.rat (m := 31) ⟨h1, h2, by unfold Sm; omega, by unfold Sm; omega⟩
  exact ⟨q, ⟨o, rfl, tupOf e⟩, s⟩
end Mb
namespace Mb
open PySem L2
def spGreatW : Sp := fun vs H Q _ => ∃ (p : Addr) (m : Nat) (b : Int), vs = [.ref p, .int (m : Int)] ∧ Pl H p b ∧ b ≤ 1700000 ∧ m ≤ 7 ∧ ∀ (H' : Hp), But p H H' → Q (.bl true) H'
theorem low_fq {K : PySem.W.Frag} {H : Hp} {o : Addr} {t b : Int} {n : Nat} (e : H o = some (.tup [.int (lowT t b), .int (lowB t b)])) (hb : b ≠ 0) (h1 : Sm n t) (h2 : Sm n b) : Fq K H (.ref o) (Rat.divInt t b) ∧ Sz n (Rat.divInt t b) := ⟨Fq.of _ hb rfl e, Sz.divInt hb h1 h2⟩
end Mb
namespace Mb
open PySem L2
theorem rats_lay : ∀ rs : List Rat, PyData.canLayAll0 (rs.map dq) = true ∧ PyData.depthAll (rs.map dq) ≤ 10
  | [] => ⟨rfl, by decide⟩
  | r :: rs => by
    obtain ⟨h1, h2⟩ := rats_lay rs
    rw [List.map_cons]
    refine ⟨?_, ?_⟩
    · unfold PyData.canLayAll0
      rw [h1]
      rfl
    · unfold PyData.depthAll
      have : PyData.depth (dq r) ≤ 5 := by
        unfold dq
        simp only [PyData.depth, PyData.depthAll]
        omega
      omega
theorem Frs.dp {K : PySem.W.Frag} {H : Hp} : ∀ {ws : List V} {rs : List Rat}, Frs K H ws rs → DpAll K H ws (rs.map dq)
  | _, _, .nil => .nil
  | _, _, .cons h r => .cons h.dp (Frs.dp r)
theorem r_neFrs {K : PySem.W.Frag} {H : Hp} {Q : VK} {a b : Addr} {ws : List V} {rs : List Rat} (h1 : SqL K H a ws) (h2 : SqL K H b ws) (fr : Frs K H ws rs) (k : Q (.bl false) H) : rNeD K (.ref a) (.ref b) H Q := by
  obtain ⟨l1, l2⟩ := rats_lay rs
  have c : PyData.canLay0 (.list (rs.map dq)) = true := by unfold PyData.canLay0; exact l1
  have d : PyData.depth (.list (rs.map dq)) ≤ 64 := by unfold PyData.depth; omega
  have s : SeqAt.shaped (.list (rs.map dq)) = true := by
    unfold SeqAt.shaped
    rw [c, decide_eq_true d]
    rfl
  refine ⟨_, _, .lst h1 fr.dp, .lst h2 fr.dp, s, s, ?_⟩
  rw [SeqAt.eqv_refl _ c]
  exact k
theorem r_neQ {K : PySem.W.Frag} {H : Hp} {Q : VK} {v w : V} {p q : Rat} (h1 : Fq K H v p) (h2 : Fq K H w q) (e : p = q) (k : Q (.bl false) H) : rNeD K v w H Q := by
  subst e
  refine ⟨_, _, h1.dp, h2.dp, rfl, rfl, ?_⟩
  rw [SeqAt.eqv_refl _ rfl]
  exact k
theorem sum_pr {t : Trm} {k : List Int} : ∀ G : List Trm, sumK (pr1 t G) k = t.2 * sumK (pr1 (t.1, 1) G) k
  | [] => by
    show (0 : Int) = t.2 * 0
    rw [Int.mul_zero]
  | u :: G => by
    show sumK ((addL t.1 u.1, t.2 * u.2) :: pr1 t G) k = t.2 * sumK ((addL t.1 u.1, 1 * u.2) :: pr1 (t.1, 1) G) k
    rw [sumK_cons, sumK_cons, sum_pr G, Int.mul_add]
    show (if addL t.1 u.1 = k then t.2 * u.2 else 0) + _ = t.2 * (if addL t.1 u.1 = k then 1 * u.2 else 0) + _
    split
    · rw [Int.one_mul]
    · rw [Int.mul_zero]
theorem sum_mul {k : List Int} {G : List Trm} : ∀ F : List Trm, sumK (mulT F G) k = wsum (fun p => sumK (pr1 (p, 1) G) k) F
  | [] => rfl
  | t :: F => by
    rw [mul_cons, sumK_app, wsum_cons, sum_mul F, sum_pr]
theorem mul_same {A B G : List Trm} (h : ∀ k, sumK A k = sumK B k) (k : List Int) : sumK (mulT A G) k = sumK (mulT B G) k := by
  rw [sum_mul, sum_mul, wsum_same h]
theorem mul_app {A B G : List Trm} : mulT (A ++ B) G = mulT A G ++ mulT B G := List.flatMap_append
theorem mul_sm {F G : List Trm} {a b : Nat} (hF : ∀ t ∈ F, Sm a t.2) (hG : ∀ t ∈ G, Sm b t.2) : ∀ t ∈ mulT F G, Sm (a + b) t.2 := fun x hx => by
  obtain ⟨t, ht, hx⟩ := List.mem_flatMap.mp hx
  obtain ⟨u, hu, rfl⟩ := List.mem_map.mp hx
  exact (hF t ht).mul (hG u hu)
theorem neg_sm {F : List Trm} {a : Nat} (hF : ∀ t ∈ F, Sm a t.2) : ∀ t ∈ negT F, Sm a t.2 := fun x hx => by
  obtain ⟨t, ht, rfl⟩ := List.mem_map.mp hx
  exact (hF t ht).neg
theorem app_sm {F G : List Trm} {a : Nat} (hF : ∀ t ∈ F, Sm a t.2) (hG : ∀ t ∈ G, Sm a t.2) : ∀ t ∈ F ++ G, Sm a t.2 := fun x hx => (List.mem_append.mp hx).elim (hF x) (hG x)
theorem put_sm {F : List Trm} {a m B C : Nat} {n : Int} (ok : OkT m 12 F) (ha : a < m) (hn : Sm B n) (hF : ∀ t ∈ F, Sm C t.2) : ∀ t ∈ putT a n F, Sm (C + (B * 12 + 1)) t.2 := fun x hx => by
  obtain ⟨t, ht, rfl⟩ := List.mem_map.mp hx
  refine (hF t ht).mul ((hn.pow _).mono ?_)
  have la : a < t.1.length := by rw [(ok t ht).1]; exact ha
  have := (ok t ht).2 _ (getD_at la).1
  have : B * (t.1.getD a 0).toNat ≤ B * 12 := Nat.mul_le_mul_left _ (by omega)
  omega
theorem Bt.set {r : Rat} {c : Nat} (hr : Sz c r) : ∀ {rs : List Rat} {b : Nat} (a : Nat), Bt rs b → Bt (rs.set a r) (b + c)
  | [], _, _, _ => trivial
  | _ :: _, b, 0, ⟨d, h1, h2, h3⟩ => ⟨c, hr, by omega, h3.mono (by omega)⟩
  | _ :: _, b, a + 1, ⟨d, h1, h2, h3⟩ => ⟨d, h1, by omega, by have := h3.set hr a; rw [show b + c - d = b - d + c by omega]; exact this⟩
theorem frs_set {K : PySem.W.Frag} {H : Hp} {v : V} {r : Rat} (hv : Fq K H v r) : ∀ {ws : List V} {rs : List Rat} (a : Nat), Frs K H ws rs → Frs K H (ws.set a v) (rs.set a r)
  | _, _, _, .nil => .nil
  | _, _, 0, .cons _ t => .cons hv t
  | _, _, a + 1, .cons h t => .cons h (frs_set hv a t)
theorem okT_oks {m : Nat} {c : Int} {F : List Trm} {rs : List Rat} (ok : OkT m c F) (hm : rs.length = m) : ∀ u ∈ F, u.1.length = rs.length ∧ ∀ p ∈ u.1, 0 ≤ p := fun u hu => ⟨by rw [(ok u hu).1, hm], fun p hp => ((ok u hu).2 p hp).1⟩
theorem set_parts {α : Type} {ws : List α} {a : Nat} {v : α} (h : a < ws.length) : ws.take a ++ [v] ++ ws.drop (a + 1) = ws.set a v := by
  rw [List.set_eq_take_append_cons_drop, if_pos h, List.append_assoc]
  rfl
end Mb
namespace Mb
open PySem L2
theorem Rq.but {K : PySem.W.Frag} {H H' : Hp} {v : V} {q : Rat} {n : Nat} {p : Addr} {xs : List V} (h : Rq K H v q n) (hp : H p = some (.lst xs)) (s : But p H H') : Rq K H' v q n := by
  obtain ⟨a, t, b, rfl, h1, h2⟩ := h
  exact ⟨a, t, b, rfl, s.tup hp h1, h2⟩
end Mb
namespace Mb
open PySem L2
theorem cut_take {xs : List V} {a : Nat} (h : a ≤ xs.length) : cutV xs none (some (a : Int)) = xs.take a := by
  unfold cutV
  have e0 : HT.sIx xs.length 0 none = 0 := rfl
  have e2 : HT.sIx xs.length xs.length (some (a : Int)) = min a xs.length := HT.sIx_nat _ _ _
  rw [e0, e2, List.drop_zero, Nat.sub_zero, Nat.min_eq_left h]
theorem cut_drop {xs : List V} {a : Nat} (h : a < xs.length) : cutV xs (some ((a : Int) + 1)) none = xs.drop (a + 1) := by
  unfold cutV
  have e1 : HT.sIx xs.length xs.length none = xs.length := rfl
  have e3 : HT.sIx xs.length 0 (some ((a : Int) + 1)) = a + 1 := by
    rw [show ((a : Int) + 1) = (((a + 1 : Nat)) : Int) by omega, HT.sIx_nat]
    omega
  rw [e1, e3, List.take_of_length_le (by rw [List.length_drop]; exact Nat.le_refl _)]
end Mb
namespace Mb
open PySem L2
def top (i : Nat) : Stmt := PySem.Challenge.pw_movebook_k72_whole_worths.main.body.getD i (.Pass ⟨0, 0, 0, 0⟩)
abbrev s_common_divisor : Stmt := top 4
theorem sc_common_divisor : FnScope ["one", "other"] ["one", "other"] (defScope s_common_divisor) := ⟨rfl, rfl, rfl, by decide +kernel, rfl, by decide +kernel, by decide +kernel⟩
abbrev s_fraction : Stmt := top 6
theorem sc_fraction : FnScope ["top", "bottom", "divisor"] ["top", "bottom"] (defScope s_fraction) := ⟨rfl, rfl, rfl, by decide +kernel, rfl, by decide +kernel, by decide +kernel⟩
abbrev s_added : Stmt := top 8
theorem sc_added : FnScope ["form", "other"] ["form", "other"] (defScope s_added) := ⟨rfl, rfl, rfl, by decide +kernel, rfl, by decide +kernel, by decide +kernel⟩
abbrev s_taken : Stmt := top 9
theorem sc_taken : FnScope ["form", "other"] ["form", "other"] (defScope s_taken) := ⟨rfl, rfl, rfl, by decide +kernel, rfl, by decide +kernel, by decide +kernel⟩
abbrev s_scaled : Stmt := top 10
theorem sc_scaled : FnScope ["form", "number", "powers", "one"] ["form", "number"] (defScope s_scaled) := ⟨rfl, rfl, rfl, by decide +kernel, rfl, by decide +kernel, by decide +kernel⟩
abbrev s_multiplied : Stmt := top 11
theorem sc_multiplied : FnScope ["form", "other", "base", "right", "numbers", "key", "one", "other_key", "two", "many"] ["form", "other"] (defScope s_multiplied) := ⟨rfl, rfl, rfl, by decide +kernel, rfl, by decide +kernel, by decide +kernel⟩
abbrev s_put_in : Stmt := top 12
theorem sc_put_in : FnScope ["form", "at", "number", "grown", "powers", "one"] ["form", "at", "number"] (defScope s_put_in) := ⟨rfl, rfl, rfl, by decide +kernel, rfl, by decide +kernel, by decide +kernel⟩
abbrev s_worth : Stmt := top 13
theorem sc_worth : FnScope ["form", "numbers", "most", "tops", "number", "bottoms", "total", "powers", "term", "top", "bottom", "power", "common"] ["form", "numbers"] (defScope s_worth) := ⟨rfl, rfl, rfl, by decide +kernel, rfl, by decide +kernel, by decide +kernel⟩
abbrev s_summed : Stmt := top 14
theorem sc_summed : FnScope ["terms", "numbers", "powers", "number"] ["terms"] (defScope s_summed) := ⟨rfl, rfl, rfl, by decide +kernel, rfl, by decide +kernel, by decide +kernel⟩
abbrev s_greatest_power : Stmt := top 15
theorem sc_greatest_power : FnScope ["form", "powers", "number"] ["form"] (defScope s_greatest_power) := ⟨rfl, rfl, rfl, by decide +kernel, rfl, by decide +kernel, by decide +kernel⟩
abbrev s_powers_of : Stmt := top 16
theorem sc_powers_of : FnScope ["number", "most", "grown", "power"] ["number", "most"] (defScope s_powers_of) := ⟨rfl, rfl, rfl, by decide +kernel, rfl, by decide +kernel, by decide +kernel⟩
abbrev s_packed : Stmt := top 17
theorem sc_packed : FnScope ["form", "base", "powers", "number"] ["form", "base"] (defScope s_packed) := ⟨rfl, rfl, rfl, by decide +kernel, rfl, by decide +kernel, by decide +kernel⟩
abbrev s_joined : Stmt := top 18
theorem sc_joined : FnScope ["powers", "base", "key", "power"] ["powers", "base"] (defScope s_joined) := ⟨rfl, rfl, rfl, by decide +kernel, rfl, by decide +kernel, by decide +kernel⟩
abbrev s_unpacked : Stmt := top 19
theorem sc_unpacked : FnScope ["key", "base", "many", "powers", "at"] ["key", "base", "many"] (defScope s_unpacked) := ⟨rfl, rfl, rfl, by decide +kernel, rfl, by decide +kernel, by decide +kernel⟩
abbrev s_pool : Stmt := top 21
theorem sc_pool : FnScope ["_law_script", "_law_at", "_law_cell", "_law_digits"] ["_law_script", "_law_at"] (defScope s_pool) := ⟨rfl, rfl, rfl, by decide +kernel, rfl, by decide +kernel, by decide +kernel⟩
abbrev s_take : Stmt := top 22
theorem sc_take : FnScope ["_law_pool_here", "_law_wide_here", "_law_found", "_law_seed"] ["_law_pool_here", "_law_wide_here"] (defScope s_take) := ⟨rfl, rfl, rfl, by decide +kernel, rfl, by decide +kernel, by decide +kernel⟩
abbrev s_gcd : Stmt := top 23
theorem sc_gcd : FnScope ["_law_one", "_law_other"] ["_law_one", "_law_other"] (defScope s_gcd) := ⟨rfl, rfl, rfl, by decide +kernel, rfl, by decide +kernel, by decide +kernel⟩
abbrev s_low : Stmt := top 24
theorem sc_low : FnScope ["_law_top", "_law_bottom", "_law_most"] ["_law_top", "_law_bottom"] (defScope s_low) := ⟨rfl, rfl, rfl, by decide +kernel, rfl, by decide +kernel, by decide +kernel⟩
abbrev s_l_plus : Stmt := top 25
theorem sc_l_plus : FnScope ["_law_one", "_law_other"] ["_law_one", "_law_other"] (defScope s_l_plus) := ⟨rfl, rfl, rfl, by decide +kernel, rfl, by decide +kernel, by decide +kernel⟩
abbrev s_l_less : Stmt := top 26
theorem sc_l_less : FnScope ["_law_one", "_law_other"] ["_law_one", "_law_other"] (defScope s_l_less) := ⟨rfl, rfl, rfl, by decide +kernel, rfl, by decide +kernel, by decide +kernel⟩
abbrev s_l_times : Stmt := top 27
theorem sc_l_times : FnScope ["_law_one", "_law_other"] ["_law_one", "_law_other"] (defScope s_l_times) := ⟨rfl, rfl, rfl, by decide +kernel, rfl, by decide +kernel, by decide +kernel⟩
abbrev s_even : Stmt := top 28
theorem sc_even : FnScope ["_law_one", "_law_other"] ["_law_one", "_law_other"] (defScope s_even) := ⟨rfl, rfl, rfl, by decide +kernel, rfl, by decide +kernel, by decide +kernel⟩
abbrev s_whole : Stmt := top 29
theorem sc_whole : FnScope ["_law_found"] ["_law_found"] (defScope s_whole) := ⟨rfl, rfl, rfl, by decide +kernel, rfl, by decide +kernel, by decide +kernel⟩
abbrev s_is_frac : Stmt := top 30
theorem sc_is_frac : FnScope ["_law_found"] ["_law_found"] (defScope s_is_frac) := ⟨rfl, rfl, rfl, by decide +kernel, rfl, by decide +kernel, by decide +kernel⟩
abbrev s_frac : Stmt := top 31
theorem sc_frac : FnScope ["_law_pool_here", "_law_way", "_law_edge", "_law_top", "_law_bottom"] ["_law_pool_here"] (defScope s_frac) := ⟨rfl, rfl, rfl, by decide +kernel, rfl, by decide +kernel, by decide +kernel⟩
abbrev s_number : Stmt := top 32
theorem sc_number : FnScope ["_law_pool_here", "_law_way", "_law_number_here", "_law_k"] ["_law_pool_here"] (defScope s_number) := ⟨rfl, rfl, rfl, by decide +kernel, rfl, by decide +kernel, by decide +kernel⟩
abbrev s_terms : Stmt := top 33
theorem sc_terms : FnScope ["_law_pool_here", "_law_many", "_law_most", "_law_wide_here", "_law_terms_here", "_law_k", "_law_again", "_law_number_here", "_law_powers", "_law_at", "_law_had"] ["_law_pool_here", "_law_many", "_law_most"] (defScope s_terms) := ⟨rfl, rfl, rfl, by decide +kernel, rfl, by decide +kernel, by decide +kernel⟩
abbrev s_gather : Stmt := top 34
theorem sc_gather : FnScope ["_law_terms_here", "_law_kept", "_law_powers", "_law_number_here"] ["_law_terms_here"] (defScope s_gather) := ⟨rfl, rfl, rfl, by decide +kernel, rfl, by decide +kernel, by decide +kernel⟩
abbrev s_power : Stmt := top 35
theorem sc_power : FnScope ["_law_number_here", "_law_count", "_law_total", "_law_k"] ["_law_number_here", "_law_count"] (defScope s_power) := ⟨rfl, rfl, rfl, by decide +kernel, rfl, by decide +kernel, by decide +kernel⟩
abbrev s_l_worth : Stmt := top 36
theorem sc_l_worth : FnScope ["_law_form", "_law_numbers_here", "_law_most", "_law_powers", "_law_number_here", "_law_k", "_law_top", "_law_part", "_law_bottom"] ["_law_form", "_law_numbers_here"] (defScope s_l_worth) := ⟨rfl, rfl, rfl, by decide +kernel, rfl, by decide +kernel, by decide +kernel⟩
abbrev s_drawn : Stmt := top 37
theorem sc_drawn : FnScope ["_law_pool_here", "_law_many", "_law_most", "_law_most_number", "_law_form", "_law_powers", "_law_number_here"] ["_law_pool_here", "_law_many", "_law_most"] (defScope s_drawn) := ⟨rfl, rfl, rfl, by decide +kernel, rfl, by decide +kernel, by decide +kernel⟩
abbrev s_numbers : Stmt := top 38
theorem sc_numbers : FnScope ["_law_pool_here", "_law_many", "_law_at", "_law_numbers_here", "_law_k"] ["_law_pool_here", "_law_many"] (defScope s_numbers) := ⟨rfl, rfl, rfl, by decide +kernel, rfl, by decide +kernel, by decide +kernel⟩
abbrev s_is_worth : Stmt := top 39
theorem sc_is_worth : FnScope ["_law_found", "_law_due"] ["_law_found", "_law_due"] (defScope s_is_worth) := ⟨rfl, rfl, rfl, by decide +kernel, rfl, by decide +kernel, by decide +kernel⟩
abbrev s_great : Stmt := top 40
theorem sc_great : FnScope ["_law_pool_here", "_law_many", "_law_form", "_law_numbers_here", "_law_k"] ["_law_pool_here", "_law_many"] (defScope s_great) := ⟨rfl, rfl, rfl, by decide +kernel, rfl, by decide +kernel, by decide +kernel⟩
abbrev s_wide : Stmt := top 41
theorem sc_wide : FnScope ["_law_pool_here", "_law_many", "_law_terms_here", "_law_k", "_law_powers", "_law_at", "_law_form", "_law_numbers_here", "_law_top"] ["_law_pool_here", "_law_many"] (defScope s_wide) := ⟨rfl, rfl, rfl, by decide +kernel, rfl, by decide +kernel, by decide +kernel⟩
abbrev s_law : Stmt := top 42
theorem sc_law : FnScope ["_law_script", "_law_pool_here", "_law_many", "_law_one", "_law_two", "_law_three", "_law_at", "_law_number_here", "_law_numbers_here", "_law_handed", "_law_first", "_law_other", "_law_there", "_law_left"] ["_law_script"] (defScope s_law) := ⟨rfl, rfl, rfl, by decide +kernel, rfl, by decide +kernel, by decide +kernel⟩
/-! ### the steps of a reading, taken by a word of one's own -/
local macro_rules | `(tactic| walk_at "sm") => `(tactic| first
  | assumption
  | ((with_reducible refine Mb.Sm.mul (m := ?mm) (n := ?nn) ?ga ?gb); (case ga => walk_at "sm"); (case gb => walk_at "sm"))
  | ((with_reducible refine Mb.Sm.addm (m := ?mm) (n := ?nn) ?ga ?gb); (case ga => walk_at "sm"); (case gb => walk_at "sm"))
  | ((with_reducible refine Mb.Sm.subm (m := ?mm) (n := ?nn) ?ga ?gb); (case ga => walk_at "sm"); (case gb => walk_at "sm"))
  | ((with_reducible refine Mb.Sm.neg (n := ?nn) ?ga); (case ga => walk_at "sm"))
  | exact Mb.Sm.lit (by decide)
  | exact Mb.Sm.lit2 (by decide +kernel))
local macro_rules | `(tactic| walk_at "c") => `(tactic| first
  | assumption
  | exact ⟨by decide, by decide, by decide⟩
  | (show (0 : Int) < _; omega)
  | exact Mb.Sm.cdiv (n := 64) (by decide) (by decide)
  | exact Mb.Sm.cmul (by walk_at "sm") (by walk_at "sm"))
local macro_rules | `(tactic| walk_at "st") => `(tactic| first
  | ((with_reducible refine Mb.r_var (v := ?vv) ?hv ?_); (case hv => rfl))
  | with_reducible refine Mb.r_c ?_
  | with_reducible refine Mb.r_op ?_
  | with_reducible refine Mb.r_un ?_
  | with_reducible refine Mb.r_i0 ?_
  | with_reducible refine Mb.r_u ?_
  | with_reducible refine Mb.r_eqI ?_
  | with_reducible refine Mb.r_neI ?_
  | with_reducible refine Mb.r_eqB ?_
  | with_reducible refine Mb.r_eqS ?_
  | with_reducible refine Mb.r_cb ?_
  | with_reducible refine Mb.r_bits ?_
  | with_reducible refine Mb.r_int ?_
  | with_reducible refine Mb.r_nil ?_
  | with_reducible refine Mb.r_cons ?_
  | with_reducible refine Mb.r_tup ?_
  | with_reducible refine Mb.r_lst ?_
  | with_reducible refine Mb.r_call ?_
  | with_reducible refine Mb.r_seqA ?_
  | with_reducible refine Mb.r_seqD ?_
  | with_reducible refine Mb.r_seqP ?_
  | with_reducible refine Mb.r_next ?_
  | with_reducible refine Mb.r_nx ?_
  | with_reducible refine Mb.r_asg ?_
  | ((with_reducible refine Mb.r_gname ?_); dsimp only [List.set])
  | with_reducible refine Mb.r_gsub ?_
  | with_reducible refine Mb.r_ret ?_
  | with_reducible refine Mb.r_drop ?_
  | with_reducible refine Mb.r_ifs ?_
  | with_reducible refine Mb.r_test ?_
  | with_reducible refine Mb.r_tB ?_
  | with_reducible refine Mb.r_bl ?_
  | (dsimp only; (with_reducible refine Mb.r_bl ?_))
  | with_reducible refine Mb.r_and ?_
  | with_reducible refine Mb.r_or ?_
  | with_reducible refine Mb.r_not ?_
  | with_reducible refine Mb.r_andV ?_
  | with_reducible refine Mb.r_orV ?_
  | with_reducible refine Mb.r_notV ?_
  | with_reducible refine Mb.r_par ?_
  | ((with_reducible refine Mb.r_two ?_); dsimp only [List.set])
  | ((with_reducible refine Mb.r_ixL (xs := ?xx) (v := ?vv) ?h1 ?h2 ?_); (case h1 => first | assumption | exact Mb.lstOf (by assumption)); (case h2 => rfl))
  | ((with_reducible refine Mb.r_ixT (xs := ?xx) (v := ?vv) ?h1 ?h2 ?_); (case h1 => first | assumption | exact Mb.tupOf (by assumption)); (case h2 => rfl))
  | ((with_reducible refine Mb.r_i ?c ?_); (case c => walk_at "c"))
  | with_reducible refine Mb.r_T ?_
  | with_reducible refine Mb.r_F ?_
  | with_reducible refine Mb.r_nT ?_
  | with_reducible refine Mb.r_nF ?_)
section
variable {P : Program} {w : World} {K : PySem.W.Frag} {mg : Str → Option Value} {base : Heap}
theorem ok_common_divisor (F : Fn K mg "common_divisor" s_common_divisor) (z_abs : mg "abs" = none) : Kn P w K mg base 1 "common_divisor" ["one", "other"] spGcd := by
  refine F.kn sc_common_divisor (fun vs H Q E h => ?_) (fun f cdv A outer s H vs Q E hr h => ?_) (fun _ _ _ _ _ _ us hl => match us, hl with | [_, _], _ => rfl)
  · obtain ⟨a, b, rfl, _⟩ := h
    rfl
  obtain ⟨a, b, rfl, q⟩ := h
  refine ⟨_, (pss_cons (ps_par (by rfl) sc_common_divisor.nd (i := 0) (j := 1) rfl rfl (by decide) rfl rfl (pa_cons (pe_callB call_abs (by rfl) z_abs (by decide +kernel) (pa_cons (pv 0) pa_nil)) (pa_cons (pe_callB call_abs (by rfl) z_abs (by decide +kernel) (pa_cons (pv 1) pa_nil)) pa_nil)) (by rfl))
    (pss_cons (ps_while PassesOwn.never (pt_cmpR op_ne (pv 1) pe_int (nomark _))
    (pss_one (ps_par (by rfl) sc_common_divisor.nd (i := 0) (j := 1) rfl rfl (by decide) rfl rfl (pa_cons (pv 1) (pa_cons (pe_op op_mod (pv 0) (pv 1)) pa_nil)) (by rfl))))
    (pss_one (ps_ret (pv 0))))), ?_⟩
  show (_ : TS) _ [some (.int a), some (.int b)] _
  repeat walk_at "st"
  refine ⟨a, rfl, ?_⟩
  repeat walk_at "st"
  refine ⟨b, rfl, ?_⟩
  repeat walk_at "st"
  refine r_seq ?_
  refine r_while (fun σ H' => H' = H ∧ ∃ x y : Int, σ = [some (.int x), some (.int y)] ∧ 0 ≤ x ∧ 0 ≤ y ∧ Int.gcd x y = Int.gcd a b) (fun σ _ => match σ with | [_, some (.int y)] => y.toNat | _ => 0) ?_ ?_
  · refine ⟨rfl, _, _, rfl, ?_, ?_, ?_⟩
    · split <;> omega
    · split <;> omega
    · split <;> split <;> simp only [Int.neg_gcd, Int.gcd_neg]
  · rintro σ H' ⟨rfl, x, y, rfl, hx, hy, hg⟩
    repeat walk_at "st"
    refine r_iteN (fun c => ?_) (fun c => ?_)
    · refine r_turn ?_
      repeat walk_at "st"
      have e1 := Int.emod_nonneg x (show y ≠ 0 by omega)
      have e2 := Int.emod_lt_of_pos x (show 0 < y by omega)
      refine ⟨⟨rfl, y, x % y, rfl, hy, e1, by rw [gcd_step hx (by omega), hg]⟩, ?_⟩
      show (x % y).toNat < y.toNat
      omega
    · subst c
      repeat walk_at "st"
      have g : (Int.gcd x 0 : Int) = x := by rw [Int.gcd_zero]; omega
      rw [hg] at g
      show Q (.int x) _
      rw [← g]
      exact q
theorem ok_fraction (F : Fn K mg "fraction" s_fraction) (G_common_divisor : Kn P w K mg base 1 "common_divisor" ["one", "other"] spGcd) : Kn P w K mg base 2 "fraction" ["top", "bottom"] spLow := by
  refine F.kn sc_fraction (fun vs H Q E h => ?_) (fun f cdv A outer s H vs Q E hr h => ?_) (fun _ _ _ _ _ _ us hl => match us, hl with | [_, _], _ => rfl)
  · obtain ⟨t, b, rfl, _⟩ := h
    rfl
  obtain ⟨t, b, rfl, hb, sb, q⟩ := h
  refine ⟨_, (pss_cons (ps_if (pt_cmpR op_eq (pv 1) pe_int (nomark _))
    (pss_one ps_never)
    pss_nil)
    (pss_cons (ps_set (i := 2) sc_fraction.nd rfl (.inl rfl) (pe_kn G_common_divisor (hr.mono (by decide)) (by rfl) (pa_cons (pv 0) (pa_cons (pv 1) pa_nil))))
    (pss_cons (ps_if (pt_cmpR op_lt (pv 1) pe_int (nomark _))
    (pss_one (ps_set (i := 2) sc_fraction.nd rfl (.inl rfl) (pe_un un_neg (pv 2))))
    pss_nil)
    (pss_one (ps_ret (pe_tup (pa_cons (pe_op op_fdivZ (pv 0) (pv 2)) (pa_cons (pe_op op_fdivZ (pv 1) (pv 2)) pa_nil)))))))), ?_⟩
  show (_ : TS) _ [some (.int t), some (.int b), none] _
  have g0 := gcd_pos (t := t) hb
  have gs : Sm 8000 (Int.gcd t b : Int) := gcd_sm hb sb
  refine r_seq ?_
  repeat walk_at "st"
  refine r_ite (fun c => absurd c hb) (fun c => ?_)
  repeat walk_at "st"
  refine ⟨_, _, rfl, ?_⟩
  repeat walk_at "st"
  refine r_cut (fun σ H' => σ = [some (.int t), some (.int b), some (.int (if decide (b < 0) then -(Int.gcd t b : Int) else (Int.gcd t b : Int)))] ∧ H' = H) ?_ (fun N J => ?_)
  · rintro σ H' ⟨rfl, rfl⟩
    have cd : ∀ i : Int, CDivZ i (if decide (b < 0) then -(Int.gcd t b : Int) else (Int.gcd t b : Int)) := fun i => by
      split
      · exact cdivZ (by omega) gs.neg (by decide) (by decide)
      · exact cdivZ (by omega) gs (by decide) (by decide)
    repeat walk_at "st"
    refine r_i (cd _) ?_
    repeat walk_at "st"
    refine r_i (cd _) ?_
    repeat walk_at "st"
    refine ⟨sz rfl, fun p hp => ?_⟩
    refine q p _ (same_new hp _) hp ?_
    rw [upd_same, fdiv_exact (Int.gcd_dvd_left t b), fdiv_exact (Int.gcd_dvd_right t b)]
    unfold lowT lowB
    simp only [decide_eq_true_eq]
  · repeat walk_at "st"
    refine r_ite (fun c => ?_) (fun c => ?_)
    · repeat walk_at "st"
      exact J _ _ ⟨by simp [c], rfl⟩
    · repeat walk_at "st"
      exact J _ _ ⟨by simp [c], rfl⟩
theorem ok_summed (F : Fn K mg "summed" s_summed) (z_sorted : mg "sorted" = none) (z_tuple : mg "tuple" = none) : Kn P w K mg base 1 "summed" ["terms"] (spSummed K) := by
  refine F.kn sc_summed (fun vs H Q E h => ?_) (fun f cdv A outer s H vs Q E hr h => ?_) (fun _ _ _ _ _ _ us hl => match us, hl with | [_], _ => rfl)
  · obtain ⟨l, us, ts, m, c, rfl, _⟩ := h
    rfl
  obtain ⟨l, us, ts, m, c, rfl, hl, tm, ok, h4, q⟩ := h
  have ln : us.length = ts.length := Paired.length tm
  refine ⟨_, (pss_cons (ps_set (i := 1) sc_summed.nd rfl (.inr rfl) pe_dnewT)
    (pss_cons (ps_for PassesOwn.never rfl (pi_list (pv 0)) (pg_tup (by rfl) (pgs_cons (pg_name (i := 2) sc_summed.nd rfl (.inl rfl)) (pgs_cons (pg_name (i := 3) sc_summed.nd rfl (.inl rfl)) pgs_nil)))
    (pss_one (ps_dput (u1 hr.units) (pv 1) (pv 2) (pe_op op_add (pe_dget2 (u1 hr.units) (pv 1) (pv 2) pe_int ⟨by rfl, by rfl, by rfl, by rfl⟩) (pv 3)) (by rfl))))
    (pss_one (ps_ret (pe_tupleOf (by rfl) z_tuple (pe_lc (own := [("powers", 2)]) (g := gName 2) (by rfl) sc_summed.nd (pi_list (pe_callB (cr_sortedDT (by rfl)) (by rfl) z_sorted (by decide +kernel) (pa_cons (pv 1) pa_nil))) (blkOk_by (own := [("powers", 2)]) (N := ["terms", "numbers", "powers", "number"]) (sc := (defScope s_summed)) (by decide +kernel)) (fun _ _ _ _ _ => pg_name (i := 2) sc_summed.nd rfl (.inl rfl)) (fun _ _ _ _ _ => pts_one (pt_cmpR op_ne (pe_dget (u1 hr.units) (pv 1) (pv 2) (fun _ _ => rfl)) pe_int (nomark _))) (fun _ _ _ _ _ => (pe_tup (pa_cons (pv 2) (pa_cons (pe_dget (u1 hr.units) (pv 1) (pv 2) (fun _ _ => rfl)) pa_nil)))))))))), ?_⟩
  show (_ : TS) _ [some (.ref l), none, none, none] _
  repeat walk_at "st"
  refine fun D nD => ?_
  have sD := same_new nD (.dT [])
  have eD : upd H D (.dT []) D = some (.dT (keysD (accOf []))) := upd_same
  generalize upd H D (.dT []) = H1 at *
  repeat walk_at "st"
  with_reducible refine r_cut (fun σ H' => ∃ y2 y3 : Option V, σ = [some (.ref l), some (.ref D), y2, y3] ∧ Same H H' ∧ H' D = some (.dT (keysD (accOf ts)))) ?U1 ?V1
  case V1 =>
    intro N J
    refine ⟨.ref l, rfl, l, rfl, ⟨us, sD.seq hl⟩, ?_⟩
    refine for_list (xs := us) (fun i σ H' => ∃ y2 y3 : Option V, σ = [some (.ref l), some (.ref D), y2, y3] ∧ Same H H' ∧ H' D = some (.dT (keysD (accOf (ts.take i))))) ?_ ?_ ?_ ?_
    · exact ⟨_, _, rfl, sD, by rw [List.take_zero]; exact eD⟩
    · rintro i σ H' _ ⟨_, _, _, g', _⟩
      exact g'.seq hl
    · rintro i v σ H3 hv ⟨y2, y3, rfl, g3, k3⟩
      obtain ⟨t, ht, a, p, rfl, ta, pw⟩ := tm.at hv
      have hi : i < ts.length := (List.getElem?_eq_some_iff.mp ht).1
      have e1 : ts.take (i + 1) = ts.take i ++ [t] := by rw [List.take_succ, ht, Option.toList_some]
      rw [e1, acc_snoc]
      have lM : (accOf (ts.take i)).length ≤ _ := accs_len (ts.take i) []
      rw [List.length_take] at lM
      simp only [List.length_nil] at lM
      have nd := (acc_ok (ts.take i)).nd
      generalize accOf (ts.take i) = M at *
      have pw3 := pw_key (show Pw H3 p t.1 from g3 _ _ pw)
      refine r_gT (tupOf (g3 _ _ ta)) rfl ?_
      refine r_g2 ?_
      repeat walk_at "st"
      refine r_dput ?_
      repeat walk_at "st"
      refine r_dget2 ?_
      repeat walk_at "st"
      refine ⟨D, rfl, .inr ⟨_, .inl k3⟩, ?_⟩
      repeat walk_at "st"
      refine ⟨_, .inr ⟨_, t.1.map Sum.inl, p, .inl k3, rfl, pw3, rfl⟩, ?_⟩
      rw [keysD_get nd 0]
      repeat walk_at "st"
      refine ⟨D, _, rfl, .inr ⟨_, t.1.map Sum.inl, p, k3, rfl, pw3, by unfold keysD; rw [List.length_map]; exact Nat.lt_of_le_of_lt (show M.length ≤ 4000 by omega) (by decide), rfl⟩, ?_⟩
      rw [keysD_put nd]
      exact ⟨_, _, rfl, same_updS g3 nD, upd_same⟩
    · rintro σ H3 ⟨y2, y3, rfl, g3, k3⟩
      rw [ln, List.take_length] at k3
      exact J _ _ ⟨_, _, rfl, g3, k3⟩
  rintro σ H3 ⟨y2, y3, rfl, g3, k3⟩
  repeat walk_at "st"
  refine r_then ?_
  refine r_lcM ?_
  repeat walk_at "st"
  refine ⟨D, _, (accOf ts).map (·.1), rfl, k3, keysD_keys, few_keys ok, fun ls qs p hp hs np hq => ?_⟩
  obtain ⟨H4, e4, s4, k4⟩ := nw np (.lst (qs.map V.ref))
  rw [← e4]
  clear e4
  have l4 : (accOf ts).length ≤ _ := accs_len ts []
  simp only [List.length_nil] at l4
  have l5 : ls.length ≤ 10000 := by
    rw [hp.length_eq, List.length_map]
    omega
  refine lc_form (sumK ts) (lstOf k4) l5 (fun _ => rfl) (Paired.mapP hq fun q k h => s4 _ _ h) (fun q k H' hk pw g R kk => ?_) (fun q k H' hk pw g R kk => ?_) fun D2 us2 H5 s5 n5 e5 tm5 => ?_
  · have dg : DGet H' D (.ref q) (some (.int (sumK ts k))) := by
      have := keysD_val (ts := ts) (k := k) (hp.mem_iff.mp hk)
      exact .inr ⟨_, k.map Sum.inl, q, .inl (g _ _ (s4 _ _ k3)), rfl, pw_key pw, this.symm⟩
    show tTest _ [some (.ref l), some (.ref D), some (.ref q), y3] H' R
    repeat walk_at "st"
    refine r_dg ?_
    repeat walk_at "st"
    refine ⟨D, _, rfl, dg, ?_⟩
    repeat walk_at "st"
    exact kk H' (Same.refl _)
  · have dg : DGet H' D (.ref q) (some (.int (sumK ts k))) := by
      have := keysD_val (ts := ts) (k := k) (hp.mem_iff.mp hk)
      exact .inr ⟨_, k.map Sum.inl, q, .inl (g _ _ (s4 _ _ k3)), rfl, pw_key pw, this.symm⟩
    show tTup _ [some (.ref l), some (.ref D), some (.ref q), y3] H' R
    repeat walk_at "st"
    refine r_dg ?_
    repeat walk_at "st"
    refine ⟨D, _, rfl, dg, ?_⟩
    repeat walk_at "st"
    refine ⟨sz rfl, fun a na => ?_⟩
    exact kk a _ (same_new na _) upd_same
  refine .inl ⟨D2, us2, rfl, lstOf e5, fun f nf => ?_⟩
  have s6 := same_new nf (.tup us2)
  exact q f _ _ (g3.trans (s4.trans (s5.trans s6))) (((g3.trans s4).trans s5).free nf) ⟨us2, upd_same, tm5.tmk (Kt.same s6)⟩ (fm_of hp hs)
theorem ok_powers_of (F : Fn K mg "powers_of" s_powers_of) (z_range : mg "range" = none) : Kn P w K mg base 1 "powers_of" ["number", "most"] (spPows K) := by
  refine F.kn sc_powers_of (fun vs H Q E h => ?_) (fun f cdv A outer s H vs Q E hr h => ?_) (fun _ _ _ _ _ _ us hl => match us, hl with | [_, _], _ => rfl)
  · obtain ⟨n, k, B, rfl, _⟩ := h
    rfl
  obtain ⟨n, k, B, rfl, sn, hB, hB1, hk, q⟩ := h
  refine ⟨_, (pss_cons (ps_set (i := 2) sc_powers_of.nd rfl (.inl rfl) (pe_lst (pa_cons pe_int pa_nil)))
    (pss_cons (ps_for PassesOwn.never rfl (pi_range1 (by rfl) z_range (pa_cons (pv 1) pa_nil)) (pg_name (i := 3) sc_powers_of.nd rfl (.inl rfl))
    (pss_one (ps_expr (pe_bm PySem.F.plainAttrs_list PySem.F.slot_list_append PySem.F.type_list_append mt_append (pv 2) (pa_cons (pe_op op_mulW (pe_ix ix_list (pv 2) (pe_un un_neg pe_int) (fun _ _ => rfl)) (pv 0)) pa_nil)))))
    (pss_one (ps_ret (pv 2))))), ?_⟩
  show (_ : TS) _ [some (.int n), some (.int (k : Int)), none, none] _
  repeat walk_at "st"
  refine ⟨sz rfl, fun L nL => ?_⟩
  have sL := same_new nL (.lst [V.int 1])
  have eL : upd H L (.lst [V.int 1]) L = some (.lst (((List.range 1).map fun j => n ^ j).map V.int)) := by
    rw [upd_same]
    show some (HO.lst [V.int 1]) = some (HO.lst [V.int (n ^ 0)])
    rw [Int.pow_zero]
  generalize upd H L (.lst [V.int 1]) = H1 at *
  repeat walk_at "st"
  with_reducible refine r_cut (fun σ H' => ∃ y : Option V, σ = [some (.int n), some (.int (k : Int)), some (.ref L), y] ∧ Same H H' ∧ H' L = some (.lst (((List.range (k + 1)).map fun j => n ^ j).map V.int))) ?U1 ?V1
  case V1 =>
    intro N J
    refine ⟨.int (k : Int), rfl, (k : Int), rfl, by omega, by omega, ?_⟩
    rw [show ((k : Int)).toNat = k from by omega]
    refine for_range (n := k) (fun i σ H' => ∃ y : Option V, σ = [some (.int n), some (.int (k : Int)), some (.ref L), y] ∧ Same H H' ∧ H' L = some (.lst (((List.range (i + 1)).map fun j => n ^ j).map V.int))) ⟨_, rfl, sL, eL⟩ ?_ ?_
    · rintro i σ H' hi ⟨y, rfl, g, e⟩
      have e1 : ((List.range (i + 1)).map fun j => n ^ j).map V.int = ((List.range i).map fun j => n ^ j).map V.int ++ [V.int (n ^ i)] := by
        rw [List.range_succ, List.map_append, List.map_append]
        rfl
      repeat walk_at "st"
      refine r_bm ?_
      repeat walk_at "st"
      refine ⟨.inl ⟨rfl, _, lstOf e⟩, ?_⟩
      repeat walk_at "st"
      refine r_ixL (v := .int (n ^ i)) (lstOf e) (by rw [e1]; exact at_last) ?_
      repeat walk_at "st"
      refine ⟨_, _, rfl, rfl, Sm.cmul (m := B * i + 1) (n := B) (sn.pow i) sn (by omega) (by omega) (by have : B * i ≤ 10000 * 50 := Nat.mul_le_mul hB (by omega); omega), ?_⟩
      repeat walk_at "st"
      refine ⟨L, _, .int (n ^ i * n), rfl, rfl, e, by rw [List.length_map, List.length_map, List.length_range]; exact Nat.lt_of_le_of_lt (show i + 1 ≤ 1000 by omega) (by decide), ?_⟩
      refine ⟨_, rfl, same_updS g nL, ?_⟩
      rw [upd_same, List.range_succ (n := i + 1), List.map_append, List.map_append, ← Int.pow_succ]
      rfl
    · rintro σ H' ⟨y, rfl, g, e⟩
      exact J _ _ ⟨_, rfl, g, e⟩
  rintro σ H' ⟨y, rfl, g, e⟩
  repeat walk_at "st"
  exact q L H' g nL e
theorem ok_greatest_power (F : Fn K mg "greatest_power" s_greatest_power) (z_max : mg "max" = none) : Kn P w K mg base 1 "greatest_power" ["form"] (spGreatest K) := by
  refine F.kn sc_greatest_power (fun vs H Q E h => ?_) (fun f cdv A outer s H vs Q E hr h => ?_) (fun _ _ _ _ _ _ us hl => match us, hl with | [_], _ => rfl)
  · obtain ⟨f, Fo, m, c, rfl, _⟩ := h
    rfl
  obtain ⟨f, Fo, m, c, rfl, ⟨us, hf, tm⟩, ok, hc, hl, q⟩ := h
  refine ⟨_, (pss_one (ps_ret (pe_callBK (cr_maxDf (by rfl) hr.units) (by rfl) z_max (by decide +kernel) (pa_cons (pe_lc (own := [("powers", 1), ("number", 2)]) (g := gTup K 2 (gCons (gName 1) (gCons (gName 2) gNil))) (by rfl) sc_greatest_power.nd (pi_tup (pv 0)) (blkOk_by (own := [("powers", 1), ("number", 2)]) (N := ["form", "powers", "number"]) (sc := (defScope s_greatest_power)) (by decide +kernel)) (fun _ _ _ _ _ => pg_tup (by rfl) (pgs_cons (pg_name (i := 1) sc_greatest_power.nd rfl (.inl rfl)) (pgs_cons (pg_name (i := 2) sc_greatest_power.nd rfl (.inl rfl)) pgs_nil))) (fun _ _ _ _ _ => pts_nil) (fun _ _ _ _ _ => (pe_callBK (show CallRK _ (.builtin "max") ["default"] (rMaxDf K) from cr_maxDf (by rfl) hr.units) (by rfl) z_max (by decide +kernel) (pa_cons (pv 1) pa_nil) (pk_cons pe_int pk_nil)))) pa_nil) (pk_cons pe_int pk_nil)))), ?_⟩
  show (_ : TS) _ [some (.ref f), none, none] _
  repeat walk_at "st"
  refine r_ckw ?_
  repeat walk_at "st"
  refine r_lcT ?_
  repeat walk_at "st"
  refine lc_terms (fun _ v t => v = .int (maxOf t.1 0)) (fun _ h => h) hf tm (by omega) (fun _ _ => rfl) (fun t q' H' ht g pw S k => ?_) fun D vs H1 s1 n1 e1 pr => ?_
  · refine r_ckw ?_
    repeat walk_at "st"
    refine ⟨q', t.1, 0, rfl, rfl, .inr (tupOf pw), ?_⟩
    exact k _ H' (Same.refl _) rfl
  · repeat walk_at "st"
    have ev : vs = (Fo.map fun t => maxOf t.1 0).map V.int := by
      clear e1 n1 s1 q hl ok tm hf
      induction pr with
      | nil => rfl
      | cons h _ ih => rw [h, ih]; rfl
    rw [ev] at e1
    refine ⟨D, _, 0, rfl, rfl, .inl (lstOf e1), ?_⟩
    have zero : ∀ t ∈ Fo, ∀ p ∈ t.1, 0 ≤ p ∧ p ≤ c := fun t ht => (ok t ht).2
    have hin : ∀ t ∈ Fo, 0 ≤ maxOf t.1 0 ∧ maxOf t.1 0 ≤ c := fun t ht => maxOf_in (zero t ht) hc
    have out := maxOf_in (ns := Fo.map fun t => maxOf t.1 0) (c := c) (fun p hp => by
      obtain ⟨t, ht, rfl⟩ := List.mem_map.mp hp
      exact hin t ht) hc
    refine q _ H1 s1 out.1 out.2 fun t ht p hp => ?_
    exact Int.le_trans (maxOf_le p hp) (maxOf_le _ (List.mem_map.mpr ⟨t, ht, rfl⟩))
theorem ok_added (F : Fn K mg "added" s_added) (G_summed : Kn P w K mg base 1 "summed" ["terms"] (spSummed K)) : Kn P w K mg base 2 "added" ["form", "other"] (spAdded K) := by
  refine F.kn sc_added (fun vs H Q E h => ?_) (fun f cdv A outer s H vs Q E hr h => ?_) (fun _ _ _ _ _ _ us hl => match us, hl with | [_, _], _ => rfl)
  · obtain ⟨f, g, Fo, Go, m, c, rfl, _⟩ := h
    rfl
  obtain ⟨f, g, Fo, Go, m, c, rfl, ⟨us, ef, tF⟩, ⟨vs, eg, tG⟩, okF, okG, lF, lG, q⟩ := h
  have l1 := Paired.length tF
  have l2 := Paired.length tG
  refine ⟨_, (pss_one (ps_ret (pe_kn G_summed (hr.mono (by decide)) (by rfl) (pa_cons (pe_lst (StX.pa_star (pv 0) (StX.pa_star (pv 1) pa_nil))) pa_nil)))), ?_⟩
  show (_ : TS) _ [some (.ref f), some (.ref g)] _
  repeat walk_at "st"
  refine r_star ?_
  repeat walk_at "st"
  refine ⟨f, us, rfl, .inl (tupOf ef), ?_⟩
  refine r_star ?_
  repeat walk_at "st"
  refine ⟨g, vs, rfl, .inl (tupOf eg), ?_⟩
  repeat walk_at "st"
  refine ⟨by simp only [List.length_append, List.append_nil]; exact Nat.le_trans (show _ ≤ 4000 by omega) (by decide), fun l nl => ?_⟩
  rw [List.append_nil]
  have sl := same_new nl (.lst (us ++ vs))
  have el : upd H l (.lst (us ++ vs)) l = some (.lst (us ++ vs)) := upd_same
  generalize upd H l (.lst (us ++ vs)) = H1 at *
  repeat walk_at "st"
  refine ⟨l, us ++ vs, Fo ++ Go, m, c, rfl, lstOf el, tms_app (tF.tmk (Kt.same sl)) (tG.tmk (Kt.same sl)), app_ok okF okG, by rw [List.length_append]; omega, fun r R H2 s2 n2 f2 fm => ?_⟩
  exact q r R H2 (sl.trans s2) (sl.free n2) f2 fm
theorem ok_scaled (F : Fn K mg "scaled" s_scaled) (G_summed : Kn P w K mg base 1 "summed" ["terms"] (spSummed K)) : Kn P w K mg base 2 "scaled" ["form", "number"] (spScaled K) := by
  refine F.kn sc_scaled (fun vs H Q E h => ?_) (fun f cdv A outer s H vs Q E hr h => ?_) (fun _ _ _ _ _ _ us hl => match us, hl with | [_, _], _ => rfl)
  · obtain ⟨f, n, Fo, m, c, rfl, _⟩ := h
    rfl
  obtain ⟨f, n, Fo, m, c, rfl, ⟨us, ef, tF⟩, okF, lF, sn, sF, q⟩ := h
  refine ⟨_, (pss_one (ps_ret (pe_kn G_summed (hr.mono (by decide)) (by rfl) (pa_cons (pe_lc (own := [("powers", 2), ("one", 3)]) (g := gTup K 2 (gCons (gName 2) (gCons (gName 3) gNil))) (by rfl) sc_scaled.nd (pi_tup (pv 0)) (blkOk_by (own := [("powers", 2), ("one", 3)]) (N := ["form", "number", "powers", "one"]) (sc := (defScope s_scaled)) (by decide +kernel)) (fun _ _ _ _ _ => pg_tup (by rfl) (pgs_cons (pg_name (i := 2) sc_scaled.nd rfl (.inl rfl)) (pgs_cons (pg_name (i := 3) sc_scaled.nd rfl (.inl rfl)) pgs_nil))) (fun _ _ _ _ _ => pts_nil) (fun _ _ _ _ _ => (pe_tup (pa_cons (pv 2) (pa_cons (pe_op op_mulW (pv 1) (pv 3)) pa_nil))))) pa_nil)))), ?_⟩
  show (_ : TS) _ [some (.ref f), some (.int n), none, none] _
  repeat walk_at "st"
  refine r_lcT ?_
  repeat walk_at "st"
  refine lc_terms (fun H v t => Tm H v (t.1, n * t.2)) (fun k h => Tm.kt k h) ef tF (by omega) (fun _ _ => rfl) (fun t q' H' ht g pw S k => ?_) fun D vs H1 s1 n1 e1 pr => ?_
  · have cm : CMulW n t.2 := sn.cmul (sF t ht)
    show tTup _ [some (.ref f), some (.int n), some (.ref q'), some (.int t.2)] H' S
    repeat walk_at "st"
    refine ⟨sz rfl, fun a na => ?_⟩
    exact k _ _ (same_new na _) ⟨a, q', rfl, upd_same, same_new na _ _ _ pw⟩
  repeat walk_at "st"
  refine ⟨D, vs, scaleT n Fo, m, c, rfl, lstOf e1, tmscale pr, scale_ok okF, by unfold scaleT; rw [List.length_map]; omega, fun r R H2 s2 n2 f2 fm => ?_⟩
  exact q r R H2 (s1.trans s2) (s1.free n2) f2 fm
theorem ok_taken (F : Fn K mg "taken" s_taken) (G_added : Kn P w K mg base 2 "added" ["form", "other"] (spAdded K)) (G_scaled : Kn P w K mg base 2 "scaled" ["form", "number"] (spScaled K)) : Kn P w K mg base 3 "taken" ["form", "other"] (spTaken K) := by
  refine F.kn sc_taken (fun vs H Q E h => ?_) (fun f cdv A outer s H vs Q E hr h => ?_) (fun _ _ _ _ _ _ us hl => match us, hl with | [_, _], _ => rfl)
  · obtain ⟨f, g, Fo, Go, m, c, rfl, _⟩ := h
    rfl
  obtain ⟨f, g, Fo, Go, m, c, rfl, hf, hg, okF, okG, lF, lG, sG, q⟩ := h
  refine ⟨_, (pss_one (ps_ret (pe_kn G_added (hr.mono (by decide)) (by rfl) (pa_cons (pv 0) (pa_cons (pe_kn G_scaled (hr.mono (by decide)) (by rfl) (pa_cons (pv 1) (pa_cons (pe_un un_neg pe_int) pa_nil))) pa_nil))))), ?_⟩
  show (_ : TS) _ [some (.ref f), some (.ref g)] _
  repeat walk_at "st"
  refine ⟨g, -1, Go, m, c, rfl, hg, okG, lG, by decide, sG, fun r1 R1 H1 s1 n1 f1 fm1 => ?_⟩
  have l1 := fm1.len
  have ls : (scaleT (-1) Go).length = Go.length := by unfold scaleT; rw [List.length_map]
  repeat walk_at "st"
  refine ⟨f, r1, Fo, R1, m, c, rfl, hf.kt (Kt.same s1), f1, okF, fm1.ok (scale_ok okG), lF, by omega, fun r R H2 s2 n2 f2 fm => ?_⟩
  refine q r R H2 (s1.trans s2) (s1.free n2) f2 (fm.congr fun k => ?_)
  rw [sumK_app, sumK_app, fm1.sum, sumK_scale, sumK_neg]
  omega
theorem ok_joined (F : Fn K mg "joined" s_joined) : Kn P w K mg base 1 "joined" ["powers", "base"] (spJoined K) := by
  refine F.kn sc_joined (fun vs H Q E h => ?_) (fun f cdv A outer s H vs Q E hr h => ?_) (fun _ _ _ _ _ _ us hl => match us, hl with | [_, _], _ => rfl)
  · obtain ⟨q0, b, k, rfl, _⟩ := h
    rfl
  obtain ⟨q0, b, k, rfl, pw, b1, b2, lk, dg, q⟩ := h
  refine ⟨_, (pss_cons (ps_set (i := 2) sc_joined.nd rfl (.inl rfl) pe_int)
    (pss_cons (ps_for PassesOwn.never rfl (pi_tup (pv 0)) (pg_name (i := 3) sc_joined.nd rfl (.inl rfl))
    (pss_one (ps_set (i := 2) sc_joined.nd rfl (.inl rfl) (pe_op op_add (pe_op op_mulW (pv 2) (pv 1)) (pv 3)))))
    (pss_one (ps_ret (pv 2))))), ?_⟩
  show (_ : TS) _ [some (.ref q0), some (.int b), none, none] _
  repeat walk_at "st"
  with_reducible refine r_cut (fun σ H' => ∃ y : Option V, σ = [some (.ref q0), some (.int b), some (.int (joinL b 0 k)), y] ∧ H' = H) ?U1 ?V1
  case V1 =>
    intro N J
    refine ⟨.ref q0, rfl, q0, rfl, ⟨_, tupOf pw⟩, ?_⟩
    refine for_tup (xs := k.map V.int) (fun i σ H' => ∃ y : Option V, σ = [some (.ref q0), some (.int b), some (.int (joinL b 0 (k.take i))), y] ∧ H' = H) ⟨_, rfl, rfl⟩ (fun i σ H' _ h => by obtain ⟨_, _, rfl⟩ := h; exact tupOf pw) ?_ ?_
    · rintro i v σ H' hv ⟨y, rfl, rfl⟩
      rw [List.getElem?_map] at hv
      obtain ⟨x, hx, rfl⟩ := Option.map_eq_some_iff.mp hv
      have e1 : k.take (i + 1) = k.take i ++ [x] := by rw [List.take_succ, hx, Option.toList_some]
      have bd := join_bd b1 (k.take i) fun p hp => dg p (List.mem_of_mem_take hp)
      have sm : Sm 64 (joinL b 0 (k.take i)) := small_join b1 b2 (by rw [List.length_take]; omega) bd
      have sb : Sm 64 b := by unfold Sm; omega
      rw [e1, joinL_snoc]
      repeat walk_at "st"
      exact ⟨_, rfl, rfl⟩
    · rintro σ H' ⟨y, rfl, rfl⟩
      rw [List.length_map, List.take_length]
      exact J _ _ ⟨_, rfl, rfl⟩
  rintro σ H' ⟨y, rfl, rfl⟩
  repeat walk_at "st"
  exact q
theorem ok_packed (F : Fn K mg "packed" s_packed) (G_joined : Kn P w K mg base 1 "joined" ["powers", "base"] (spJoined K)) : Kn P w K mg base 2 "packed" ["form", "base"] (spPacked K) := by
  refine F.kn sc_packed (fun vs H Q E h => ?_) (fun f cdv A outer s H vs Q E hr h => ?_) (fun _ _ _ _ _ _ us hl => match us, hl with | [_, _], _ => rfl)
  · obtain ⟨f, b, Fo, m, rfl, _⟩ := h
    rfl
  obtain ⟨f, b, Fo, m, rfl, ⟨us, hf, tm⟩, b1, b2, hm, dg, hl, q⟩ := h
  refine ⟨_, (pss_one (ps_ret (pe_lc (own := [("powers", 2), ("number", 3)]) (g := gTup K 2 (gCons (gName 2) (gCons (gName 3) gNil))) (by rfl) sc_packed.nd (pi_tup (pv 0)) (blkOk_by (own := [("powers", 2), ("number", 3)]) (N := ["form", "base", "powers", "number"]) (sc := (defScope s_packed)) (by decide +kernel)) (fun _ _ _ _ _ => pg_tup (by rfl) (pgs_cons (pg_name (i := 2) sc_packed.nd rfl (.inl rfl)) (pgs_cons (pg_name (i := 3) sc_packed.nd rfl (.inl rfl)) pgs_nil))) (fun _ _ _ _ _ => pts_nil) (fun _ _ _ _ _ => (pe_tup (pa_cons (pe_kn G_joined (hr.mono (by decide)) (by rfl) (pa_cons (pv 2) (pa_cons (pv 1) pa_nil))) (pa_cons (pv 3) pa_nil))))))), ?_⟩
  show (_ : TS) _ [some (.ref f), some (.int b), none, none] _
  repeat walk_at "st"
  refine r_lcT ?_
  repeat walk_at "st"
  refine lc_terms (fun H v t => Pk b H v t) (fun k h => Pk.kt k h) hf tm (by omega) (fun _ _ => rfl) (fun t q' H' ht g pw S k => ?_) fun D vs H1 s1 n1 e1 pr => ?_
  · show tTup _ [some (.ref f), some (.int b), some (.ref q'), some (.int t.2)] H' S
    repeat walk_at "st"
    refine ⟨q', b, t.1, rfl, pw, b1, b2, by rw [(dg t ht).1]; exact hm, (dg t ht).2, ?_⟩
    repeat walk_at "st"
    refine ⟨sz rfl, fun a na => ?_⟩
    exact k _ _ (same_new na _) ⟨a, rfl, upd_same⟩
  · exact q D vs H1 s1 n1 e1 pr
theorem ok_unpacked (F : Fn K mg "unpacked" s_unpacked) (z_range : mg "range" = none) (z_tuple : mg "tuple" = none) : Kn P w K mg base 1 "unpacked" ["key", "base", "many"] (spUnpacked K) := by
  refine F.kn sc_unpacked (fun vs H Q E h => ?_) (fun f cdv A outer s H vs Q E hr h => ?_) (fun _ _ _ _ _ _ us hl => match us, hl with | [_, _, _], _ => rfl)
  · obtain ⟨k, b, m, rfl, _⟩ := h
    rfl
  obtain ⟨k, b, m, rfl, b1, b2, hm, q⟩ := h
  have sb : Sm 64 b := by unfold Sm; omega
  refine ⟨_, (pss_cons (ps_set (i := 3) sc_unpacked.nd rfl (.inl rfl) (pe_lst pa_nil))
    (pss_cons (ps_for PassesOwn.never rfl (pi_range1 (by rfl) z_range (pa_cons (pv 2) pa_nil)) (pg_name (i := 4) sc_unpacked.nd rfl (.inl rfl))
    (pss_cons (ps_expr (pe_bm PySem.F.plainAttrs_list PySem.F.slot_list_append PySem.F.type_list_append mt_append (pv 3) (pa_cons (pe_op op_mod (pv 0) (pv 1)) pa_nil)))
    (pss_one (ps_set (i := 0) sc_unpacked.nd rfl (.inl rfl) (pe_op op_fdivW (pv 0) (pv 1))))))
    (pss_one (ps_ret (pe_tupleOf (by rfl) z_tuple (pe_revL (pv 3))))))), ?_⟩
  show (_ : TS) _ [some (.int k), some (.int b), some (.int (m : Int)), none, none] _
  repeat walk_at "st"
  refine ⟨sz rfl, fun L nL => ?_⟩
  have sL := same_new nL (.lst [])
  have eL : upd H L (.lst []) L = some (.lst []) := upd_same
  generalize upd H L (.lst []) = H1 at *
  repeat walk_at "st"
  with_reducible refine r_cut (fun σ H' => ∃ y : Option V, σ = [some (.int (k / b ^ m)), some (.int b), some (.int (m : Int)), some (.ref L), y] ∧ Same H H' ∧ H' L = some (.lst ((unp b m k).reverse.map V.int))) ?U1 ?V1
  case V1 =>
    intro N J
    refine ⟨.int (m : Int), rfl, (m : Int), rfl, by omega, by omega, ?_⟩
    rw [show ((m : Int)).toNat = m from by omega]
    refine for_range (n := m) (fun i σ H' => ∃ y : Option V, σ = [some (.int (k / b ^ i)), some (.int b), some (.int (m : Int)), some (.ref L), y] ∧ Same H H' ∧ H' L = some (.lst ((unp b i k).reverse.map V.int))) ⟨_, by rw [Int.pow_zero, Int.ediv_one], sL, eL⟩ ?_ ?_
    · rintro i σ H' hi ⟨y, rfl, g, e⟩
      repeat walk_at "st"
      refine r_bm ?_
      repeat walk_at "st"
      refine ⟨.inl ⟨rfl, _, lstOf e⟩, ?_⟩
      repeat walk_at "st"
      refine ⟨L, _, .int (k / b ^ i % b), rfl, rfl, e, by rw [List.length_map, List.length_reverse, unp_len]; exact Nat.lt_of_le_of_lt (show i ≤ 1000 by omega) (by decide), ?_⟩
      repeat walk_at "st"
      refine ⟨_, _, rfl, rfl, Sm.cdiv (by omega) sb, ?_⟩
      repeat walk_at "st"
      refine ⟨_, by rw [Int.pow_succ, Int.ediv_ediv_of_nonneg (Int.pow_nonneg (by omega))], same_updS g nL, ?_⟩
      rw [upd_same, unp_succ (show 1 ≤ b by omega), List.reverse_append, List.map_append]
      rfl
    · rintro σ H' ⟨y, rfl, g, e⟩
      exact J _ _ ⟨_, rfl, g, e⟩
  rintro σ H' ⟨y, rfl, g, e⟩
  repeat walk_at "st"
  refine r_then ?_
  refine r_rev2 ?_
  repeat walk_at "st"
  refine ⟨L, _, rfl, lstOf e, fun r nr => ?_⟩
  have sr := same_new nr (.lst ((unp b m k).reverse.map V.int).reverse)
  have er : upd H' r (.lst ((unp b m k).reverse.map V.int).reverse) r = some (.lst ((unp b m k).map V.int)) := by rw [upd_same, ← List.map_reverse, List.reverse_reverse]
  generalize upd H' r (.lst ((unp b m k).reverse.map V.int).reverse) = H2 at *
  refine .inl ⟨r, _, rfl, lstOf er, fun p np => ?_⟩
  exact q p _ (g.trans (sr.trans (same_new np _))) ((g.trans sr).free np) upd_same
theorem ok_multiplied (F : Fn K mg "multiplied" s_multiplied) (G_greatest_power : Kn P w K mg base 1 "greatest_power" ["form"] (spGreatest K)) (G_packed : Kn P w K mg base 2 "packed" ["form", "base"] (spPacked K)) (G_unpacked : Kn P w K mg base 1 "unpacked" ["key", "base", "many"] (spUnpacked K)) (z_len : mg "len" = none) (z_sorted : mg "sorted" = none) (z_tuple : mg "tuple" = none) : Kn P w K mg base 3 "multiplied" ["form", "other"] (spMul K) := by
  refine F.kn sc_multiplied (fun vs H Q E h => ?_) (fun f cdv A outer s H vs Q E hr h => ?_) (fun _ _ _ _ _ _ us hl => match us, hl with | [_, _], _ => rfl)
  · obtain ⟨f, g, Fo, Go, m, c, rfl, _⟩ := h
    rfl
  obtain ⟨f, g, Fo, Go, m, c, rfl, hf, hg, okF, okG, hc, hc2, hm, lFG, lF, lG, sF, sG, q⟩ := h
  obtain ⟨us, ef, tF⟩ := id hf
  obtain ⟨vs, eg, tG⟩ := id hg
  have l1 := Paired.length tF
  have l2 := Paired.length tG
  refine ⟨_, (pss_cons (ps_if (PW.pt (pw_or (pt_not (pt_truth (pv 0) (by intro _; rfl))) (pw_or1 (pt_not (pt_truth (pv 1) (by intro _; rfl))))))
    (pss_one (ps_ret (pe_tup pa_nil)))
    pss_nil)
    (pss_cons (ps_set (i := 2) sc_multiplied.nd rfl (.inr rfl) (pe_op op_add (pe_op op_add (pe_kn G_greatest_power (hr.mono (by decide)) (by rfl) (pa_cons (pv 0) pa_nil)) (pe_kn G_greatest_power (hr.mono (by decide)) (by rfl) (pa_cons (pv 1) pa_nil))) pe_int))
    (pss_cons (ps_set (i := 3) sc_multiplied.nd rfl (.inl rfl) (pe_kn G_packed (hr.mono (by decide)) (by rfl) (pa_cons (pv 1) (pa_cons (pv 2) pa_nil))))
    (pss_cons (ps_set (i := 4) sc_multiplied.nd rfl (.inr rfl) pe_dnewK)
    (pss_cons (ps_for PassesOwn.never rfl (pi_list (pe_kn G_packed (hr.mono (by decide)) (by rfl) (pa_cons (pv 0) (pa_cons (pv 2) pa_nil)))) (pg_tup (by rfl) (pgs_cons (pg_name (i := 5) sc_multiplied.nd rfl (.inl rfl)) (pgs_cons (pg_name (i := 6) sc_multiplied.nd rfl (.inl rfl)) pgs_nil)))
    (pss_one (ps_for PassesOwn.never rfl (pi_list (pv 3)) (pg_tup (by rfl) (pgs_cons (pg_name (i := 7) sc_multiplied.nd rfl (.inl rfl)) (pgs_cons (pg_name (i := 8) sc_multiplied.nd rfl (.inl rfl)) pgs_nil)))
    (pss_one (ps_dput (u1 hr.units) (pv 4) (pe_op op_add (pv 5) (pv 7)) (pe_op op_add (pe_dget2 (u1 hr.units) (pv 4) (pe_op op_add (pv 5) (pv 7)) pe_int ⟨by rfl, by rfl, by rfl, by rfl⟩) (pe_op op_mulW (pv 6) (pv 8))) (by rfl))))))
    (pss_cons (ps_set (i := 9) sc_multiplied.nd rfl (.inr rfl) (pe_callB call_len_seq (by rfl) z_len (by decide +kernel) (pa_cons (pe_ix ix_tup (pe_ix ix_tup (pv 0) pe_int (fun _ _ => rfl)) pe_int (fun _ _ => rfl)) pa_nil)))
    (pss_one (ps_ret (pe_tupleOf (by rfl) z_tuple (pe_lc (own := [("key", 5)]) (g := gName 5) (by rfl) sc_multiplied.nd (pi_list (pe_callB (cr_sortedDIb (by rfl)) (by rfl) z_sorted (by decide +kernel) (pa_cons (pv 4) pa_nil))) (blkOk_by (own := [("key", 5)]) (N := ["form", "other", "base", "right", "numbers", "key", "one", "other_key", "two", "many"]) (sc := (defScope s_multiplied)) (by decide +kernel)) (fun _ _ _ _ _ => pg_name (i := 5) sc_multiplied.nd rfl (.inl rfl)) (fun _ _ _ _ _ => pts_one (pt_cmpR op_ne (pe_dget (u1 hr.units) (pv 4) (pv 5) (fun _ _ => rfl)) pe_int (nomark _))) (fun _ _ _ _ _ => (pe_tup (pa_cons (pe_kn G_unpacked (hr.mono (by decide)) (by rfl) (pa_cons (pv 5) (pa_cons (pv 2) (pa_cons (pv 9) pa_nil)))) (pa_cons (pe_dget (u1 hr.units) (pv 4) (pv 5) (fun _ _ => rfl)) pa_nil)))))))))))))), ?_⟩
  show (_ : TS) _ [some (.ref f), some (.ref g), none, none, none, none, none, none, none, none] _
  have empty : mulT Fo Go = [] → ∀ p, H p = none → Q (.ref p) (upd H p (.tup [])) := fun e p np => q p [] _ (same_new np _) np ⟨[], upd_same, .nil⟩ (by rw [e]; exact nil_fm)
  repeat walk_at "st"
  refine r_seq ?_
  repeat walk_at "st"
  refine ⟨!us.isEmpty, .inr (.inl ⟨us, tupOf ef, rfl⟩), ?_⟩
  cases hu : us.isEmpty with
  | true =>
    have : Fo = [] := List.eq_nil_of_length_eq_zero (by rw [← l1, List.isEmpty_iff.mp hu]; rfl)
    subst this
    refine r_dT rfl ?_
    repeat walk_at "st"
    exact ⟨sz rfl, fun p np => empty rfl p np⟩
  | false =>
  refine r_dF rfl ?_
  repeat walk_at "st"
  refine ⟨!vs.isEmpty, .inr (.inl ⟨vs, tupOf eg, rfl⟩), ?_⟩
  cases hv : vs.isEmpty with
  | true =>
    have : Go = [] := List.eq_nil_of_length_eq_zero (by rw [← l2, List.isEmpty_iff.mp hv]; rfl)
    subst this
    have e0 : mulT Fo [] = [] := List.eq_nil_of_length_eq_zero (by rw [mul_len]; rfl)
    refine r_dT rfl ?_
    repeat walk_at "st"
    exact ⟨sz rfl, fun p np => empty e0 p np⟩
  | false =>
  clear empty
  refine r_dF rfl ?_
  repeat walk_at "st"
  refine ⟨f, Fo, m, c, rfl, hf, okF, hc, lF, fun g1 H1 s1 g10 g1c g1l => ?_⟩
  repeat walk_at "st"
  refine ⟨g, Go, m, c, rfl, hg.kt (Kt.same s1), okG, hc, lG, fun g2 H2 s2 g20 g2c g2l => ?_⟩
  have s12 := s1.trans s2
  repeat walk_at "st"
  obtain ⟨b, hb⟩ : ∃ b, b = g1 + g2 + 1 := ⟨_, rfl⟩
  rw [← hb]
  have b1 : 1 ≤ b := by omega
  have b4 : b ≤ 400 := by omega
  have dF : ∀ t ∈ Fo, t.1.length = m ∧ Dg b t.1 := fun t ht => ⟨(okF t ht).1, fun p hp => ⟨((okF t ht).2 p hp).1, by have := g1l t ht p hp; omega⟩⟩
  have dG : ∀ t ∈ Go, t.1.length = m ∧ Dg b t.1 := fun t ht => ⟨(okG t ht).1, fun p hp => ⟨((okG t ht).2 p hp).1, by have := g2l t ht p hp; omega⟩⟩
  have dM : ∀ t ∈ mulT Fo Go, t.1.length = m ∧ Dg b t.1 := fun x hx => by
    obtain ⟨t, ht, hx⟩ := List.mem_flatMap.mp hx
    obtain ⟨u, hu, rfl⟩ := List.mem_map.mp hx
    refine ⟨addL_len (okF t ht).1 (okG u hu).1, fun p hp => ?_⟩
    have := addL_in (c := g1) (d := g2) (fun p hp => ⟨((okF t ht).2 p hp).1, g1l t ht p hp⟩) (fun p hp => ⟨((okG u hu).2 p hp).1, g2l u hu p hp⟩) p hp
    omega
  repeat walk_at "st"
  refine ⟨g, b, Go, m, rfl, hg.kt (Kt.same s12), b1, b4, hm, dG, lG, fun R1 rs H3 s3 n3 e3 pR => ?_⟩
  have s13 := s12.trans s3
  repeat walk_at "st"
  refine fun D nD => ?_
  have nD0 := s13.free nD
  have s4 := same_new nD (.dK [])
  have e4 : upd H3 D (.dK []) D = some (.dK (keysI (accOf (packT b [])))) := upd_same
  have nDR : R1 ≠ D := fun e => by rw [e, nD] at e3; cases e3
  have e34 := s4 _ _ e3
  have pR4 := Paired.mapP pR fun _ _ h => Pk.kt (Kt.same s4) h
  have g4 := s13.trans s4
  generalize upd H3 D (.dK []) = H4 at *
  clear s1 s2 s3 s12 s13 s4 nD n3 e3 pR
  repeat walk_at "st"
  with_reducible refine r_cut (fun σ H' => ∃ y5 y6 y7 y8 : Option V, σ = [some (.ref f), some (.ref g), some (.int b), some (.ref R1), some (.ref D), y5, y6, y7, y8, none] ∧ Same H H' ∧ H' D = some (.dK (keysI (accOf (packT b (mulT Fo Go)))))) ?U1 ?V1
  case V1 =>
    intro N J
    refine r_forL ?_
    repeat walk_at "st"
    refine ⟨f, b, Fo, m, rfl, hf.kt (Kt.same g4), b1, b4, hm, dF, lF, fun L1 ls H5 s5 n5 e5 pL => ?_⟩
    have l3 := Paired.length pL
    have nDL : L1 ≠ D := fun e => by rw [e, e4] at n5; cases n5
    have e35 := s5 _ _ e34
    have e45 := s5 _ _ e4
    have pR5 := Paired.mapP pR4 fun _ _ h => Pk.kt (Kt.same s5) h
    have l4 := Paired.length pR5
    refine ⟨L1, rfl, ⟨ls, lstOf e5⟩, ?_⟩
    refine for_list (xs := ls) (fun i σ H' => ∃ y5 y6 y7 y8 : Option V, σ = [some (.ref f), some (.ref g), some (.int b), some (.ref R1), some (.ref D), y5, y6, y7, y8, none] ∧ Same H H' ∧ H' D = some (.dK (keysI (accOf (packT b (mulT (Fo.take i) Go))))) ∧ (H' L1 = some (.lst ls) ∧ H' R1 = some (.lst rs) ∧ Kt H5 H')) ?_ ?_ ?_ ?_
    · exact ⟨_, _, _, _, rfl, g4.trans s5, e45, e5, e35, Kt.refl _⟩
    · rintro i σ H' _ ⟨_, _, _, _, _, _, _, e', _⟩
      exact lstOf e'
    · rintro i v σ H6 hv' ⟨y5, y6, y7, y8, rfl, g6, k6, e6, r6, kt6⟩
      obtain ⟨t, ht, a, rfl, ta⟩ := LiI.paired_get pL hv'
      have htm := List.mem_of_getElem? ht
      have hi : i < Fo.length := (List.getElem?_eq_some_iff.mp ht).1
      refine r_gT (tupOf (kt6 _ _ ta)) rfl ?_
      refine r_g2 ?_
      repeat walk_at "st"
      refine ⟨.ref R1, rfl, R1, rfl, ⟨rs, lstOf r6⟩, ?_⟩
      refine for_list (xs := rs) (fun j σ H' => ∃ y7 y8 : Option V, σ = [some (.ref f), some (.ref g), some (.int b), some (.ref R1), some (.ref D), some (.int (joinL b 0 t.1)), some (.int t.2), y7, y8, none] ∧ Same H H' ∧ H' D = some (.dK (keysI (accOf (packT b (mulT (Fo.take i) Go ++ pr1 t (Go.take j)))))) ∧ (H' L1 = some (.lst ls) ∧ H' R1 = some (.lst rs) ∧ Kt H5 H')) ?_ ?_ ?_ ?_
      · exact ⟨_, _, rfl, g6, by rw [List.take_zero, show pr1 t [] = [] from rfl, List.append_nil]; exact k6, e6, r6, kt6⟩
      · rintro j σ H' _ ⟨_, _, _, _, _, _, r', _⟩
        exact lstOf r'
      · rintro j v σ H7 hv7 ⟨y7', y8', rfl, g7, k7, e7, r7, kt7⟩
        obtain ⟨u, hu', a2, rfl, ta2⟩ := LiI.paired_get pR5 hv7
        have hum := List.mem_of_getElem? hu'
        have hj : j < Go.length := (List.getElem?_eq_some_iff.mp hu').1
        have lsz : (mulT (Fo.take i) Go ++ pr1 t (Go.take j)).length ≤ 8000 := by
          rw [List.length_append, mul_len, List.length_take]
          unfold pr1
          rw [List.length_map, List.length_take]
          have h1 : min i Fo.length * Go.length ≤ Fo.length * Go.length := Nat.mul_le_mul_right _ (Nat.min_le_right _ _)
          omega
        rw [pr1_take hu', ← List.append_assoc, pack_app]
        have one1 : One (packT b (mulT (Fo.take i) Go ++ pr1 t (Go.take j))) := one_pack
        have lacc : (accOf (packT b (mulT (Fo.take i) Go ++ pr1 t (Go.take j)))).length ≤ _ := accs_len (packT b (mulT (Fo.take i) Go ++ pr1 t (Go.take j))) []
        have lpk : (packT b (mulT (Fo.take i) Go ++ pr1 t (Go.take j))).length = (mulT (Fo.take i) Go ++ pr1 t (Go.take j)).length := by unfold packT; rw [List.length_map]
        simp only [List.length_nil] at lacc
        rw [show packT b [(addL t.1 u.1, t.2 * u.2)] = [([joinL b 0 t.1 + joinL b 0 u.1], t.2 * u.2)] by unfold packT; rw [List.map_cons, List.map_nil, join_add _ _ ((dF t htm).1.trans (dG u hum).1.symm)], acc_snoc]
        have one2 := one_acc one1
        have nd := (acc_ok (packT b (mulT (Fo.take i) Go ++ pr1 t (Go.take j)))).nd
        generalize accOf (packT b (mulT (Fo.take i) Go ++ pr1 t (Go.take j))) = M at *
        refine r_gT (tupOf (kt7 _ _ ta2)) rfl ?_
        refine r_g2 ?_
        have cm : CMulW t.2 u.2 := (sF t htm).cmul (sG u hum) (by decide) (by decide) (by decide)
        repeat walk_at "st"
        refine r_dput ?_
        repeat walk_at "st"
        refine r_dget2 ?_
        repeat walk_at "st"
        refine ⟨D, rfl, .inl ⟨_, .inl k7⟩, ?_⟩
        repeat walk_at "st"
        refine ⟨_, DGet.k (k := .inl (joinL b 0 t.1 + joinL b 0 u.1)) k7, ?_⟩
        rw [keysI_getD one2]
        repeat walk_at "st"
        refine ⟨D, _, rfl, DPut.k (k := .inl (joinL b 0 t.1 + joinL b 0 u.1)) k7 (by unfold keysI; rw [List.length_map]; exact Nat.lt_of_le_of_lt (show M.length ≤ 10000 by omega) (by decide)), ?_⟩
        rw [keysI_put one2 nd]
        refine ⟨_, _, rfl, same_updS g7 nD0, upd_same, by rw [upd_ne nDL]; exact e7, by rw [upd_ne nDR]; exact r7, kt7.trans fun q0 xs hq0 => ?_⟩
        rw [upd_ne (fun z => by rw [z, k7] at hq0; cases hq0)]
        exact hq0
      · rintro σ H7 ⟨y7', y8', rfl, g7, k7, e7, r7, kt7⟩
        rw [l4, List.take_length, ← mul_take ht] at k7
        exact ⟨_, _, _, _, rfl, g7, k7, e7, r7, kt7⟩
    · rintro σ H6 ⟨y5, y6, y7, y8, rfl, g6, k6, _⟩
      rw [l3, List.take_length] at k6
      exact J _ _ ⟨_, _, _, _, rfl, g6, k6⟩
  rintro σ H6 ⟨y5, y6, y7, y8, rfl, g6, k6⟩
  obtain ⟨v0, vr, rfl⟩ : ∃ v0 vr, us = v0 :: vr := by
    cases us with
    | nil => cases hu
    | cons v0 vr => exact ⟨v0, vr, rfl⟩
  obtain ⟨t0, ht0, a0, q0, hv0, ta0, pw0⟩ := tF.at (i := 0) (v := v0) rfl
  subst hv0
  have lm : t0.1.length = m := (okF t0 (List.mem_of_getElem? ht0)).1
  have ta06 := g6 _ _ ta0
  have pw06 := g6 _ _ pw0
  repeat walk_at "st"
  refine r_ixT0 (tupOf (g6 _ _ ef)) ?_
  repeat walk_at "st"
  refine ⟨q0, _, rfl, .inr (tupOf pw06), ?_⟩
  rw [List.length_map, lm]
  repeat walk_at "st"
  refine r_then ?_
  refine r_lcM ?_
  repeat walk_at "st"
  have one1 : One (packT b (mulT Fo Go)) := one_pack
  obtain ⟨ks0, hk1, hk2⟩ := keysI_keys (one_acc one1)
  refine ⟨D, _, ks0, rfl, k6, hk1, fun ks p hp hs np => ?_⟩
  obtain ⟨H7, e7, s7, k7⟩ := nw np (.lst (ks.map V.int))
  rw [← e7]
  clear e7
  have lk : ks.length ≤ 10000 := by
    have h1 : (accOf (packT b (mulT Fo Go))).length ≤ _ := accs_len (packT b (mulT Fo Go)) []
    have h2 := congrArg List.length hk2
    simp only [List.length_map, List.length_nil] at h1 h2
    rw [show (packT b (mulT Fo Go)).length = (mulT Fo Go).length by unfold packT; rw [List.length_map], mul_len] at h1
    rw [hp.length_eq]
    omega
  have hpk : (ks.map fun k => [k]).Perm ((accOf (packT b (mulT Fo Go))).map (·.1)) := by
    rw [hk2]
    exact hp.map _
  have val : ∀ k ∈ ks, valV (keysI (accOf (packT b (mulT Fo Go)))) (.inl k : Key) = some (.int (sumK (packT b (mulT Fo Go)) [k])) := fun k hk => keysI_val one1 (hpk.mem_iff.mp (List.mem_map.mpr ⟨k, hk, rfl⟩))
  refine lc_ints (fun H v k => Tm H v (unp b m k, sumK (packT b (mulT Fo Go)) [k])) (fun k h => Tm.kt k h) (fun k => !decide (sumK (packT b (mulT Fo Go)) [k] = 0)) (lstOf k7) lk (fun _ => rfl) (fun k H' hk g' S kk => ?_) (fun k H' hk g' S kk => ?_) fun D2 vs2 H8 s8 n8 e8 pr => ?_
  · have dg := DGet.k (k := .inl k) (g' _ _ (s7 _ _ k6))
    rw [val k hk] at dg
    show tTest _ [some (.ref f), some (.ref g), some (.int b), some (.ref R1), some (.ref D), some (.int k), y6, y7, y8, some (.int (m : Int))] H' S
    repeat walk_at "st"
    refine r_dg ?_
    repeat walk_at "st"
    refine ⟨D, _, rfl, dg, ?_⟩
    repeat walk_at "st"
    exact kk H' (Same.refl _)
  · have dg := DGet.k (k := .inl k) (g' _ _ (s7 _ _ k6))
    rw [val k hk] at dg
    show tTup _ [some (.ref f), some (.ref g), some (.int b), some (.ref R1), some (.ref D), some (.int k), y6, y7, y8, some (.int (m : Int))] H' S
    repeat walk_at "st"
    refine ⟨k, b, m, rfl, b1, b4, hm, fun p9 H9 s9 n9 pw9 => ?_⟩
    repeat walk_at "st"
    refine r_dg ?_
    repeat walk_at "st"
    have dg9 := DGet.k (k := .inl k) (s9 _ _ (g' _ _ (s7 _ _ k6)))
    rw [val k hk] at dg9
    refine ⟨D, _, rfl, dg9, ?_⟩
    repeat walk_at "st"
    refine ⟨sz rfl, fun a9 na9 => ?_⟩
    exact kk _ _ (s9.trans (same_new na9 _)) ⟨a9, p9, rfl, upd_same, same_new na9 _ _ _ pw9⟩
  refine .inl ⟨D2, vs2, rfl, lstOf e8, fun r nr => ?_⟩
  have s9 := same_new nr (.tup vs2)
  have fin := fm_pack b1 dM hpk hs
  have ef2 : (ks.map fun k => (unp b m k, sumK (packT b (mulT Fo Go)) [k])).filter (fun t => !decide (t.2 = 0)) = (ks.filter fun k => !decide (sumK (packT b (mulT Fo Go)) [k] = 0)).map fun k => (unp b m k, sumK (packT b (mulT Fo Go)) [k]) := by
    rw [List.filter_map]
    rfl
  rw [ef2] at fin
  exact q r _ _ (g6.trans (s7.trans (s8.trans s9))) (((g6.trans s7).trans s8).free nr) ⟨vs2, upd_same, (tms_of pr).tmk (Kt.same s9)⟩ fin
theorem ok_put_in (F : Fn K mg "put_in" s_put_in) (G_powers_of : Kn P w K mg base 1 "powers_of" ["number", "most"] (spPows K)) (G_greatest_power : Kn P w K mg base 1 "greatest_power" ["form"] (spGreatest K)) (G_summed : Kn P w K mg base 1 "summed" ["terms"] (spSummed K)) : Kn P w K mg base 2 "put_in" ["form", "at", "number"] (spPutIn K) := by
  refine F.kn sc_put_in (fun vs H Q E h => ?_) (fun f cdv A outer s H vs Q E hr h => ?_) (fun _ _ _ _ _ _ us hl => match us, hl with | [_, _, _], _ => rfl)
  · obtain ⟨f, Fo, a, m, B, C, c, n, rfl, _⟩ := h
    rfl
  obtain ⟨f, Fo, a, m, B, C, c, n, rfl, hf, ok, hc, hc2, ha, hm, hl, sn, hB, hB2, sC, hC, hC2, q⟩ := h
  refine ⟨_, (pss_cons (ps_set (i := 3) sc_put_in.nd rfl (.inr rfl) (pe_kn G_powers_of (hr.mono (by decide)) (by rfl) (pa_cons (pv 2) (pa_cons (pe_kn G_greatest_power (hr.mono (by decide)) (by rfl) (pa_cons (pv 0) pa_nil)) pa_nil))))
    (pss_one (ps_ret (pe_kn G_summed (hr.mono (by decide)) (by rfl) (pa_cons (pe_lc (own := [("powers", 4), ("one", 5)]) (g := gTup K 2 (gCons (gName 4) (gCons (gName 5) gNil))) (by rfl) sc_put_in.nd (pi_tup (pv 0)) (blkOk_by (own := [("powers", 4), ("one", 5)]) (N := ["form", "at", "number", "grown", "powers", "one"]) (sc := (defScope s_put_in)) (by decide +kernel)) (fun _ _ _ _ _ => pg_tup (by rfl) (pgs_cons (pg_name (i := 4) sc_put_in.nd rfl (.inl rfl)) (pgs_cons (pg_name (i := 5) sc_put_in.nd rfl (.inl rfl)) pgs_nil))) (fun _ _ _ _ _ => pts_nil) (fun _ _ _ _ _ => (pe_tup (pa_cons (pe_tup (show PA _ _ (StX.tStar K _ _) from StX.pa_star (pe_slice (show SlR _ (rSlT K) from sl_tup) (pv 4) po_none (po_some (pv 1))) (pa_cons pe_int (show PA _ _ (StX.tStar K _ _) from StX.pa_star (pe_slice (show SlR _ (rSlT K) from sl_tup) (pv 4) (po_some (pe_op op_add (pv 1) pe_int)) po_none) pa_nil)))) (pa_cons (pe_op op_mulW (pv 5) (pe_ix (show IxR _ (rIxL K) from ix_list) (pv 3) (pe_ix (show IxR _ (rIxT K) from ix_tup) (pv 4) (pv 1) (fun _ _ => rfl)) (fun _ _ => rfl))) pa_nil))))) pa_nil))))), ?_⟩
  show (_ : TS) _ [some (.ref f), some (.int (a : Int)), some (.int n), none, none, none] _
  repeat walk_at "st"
  refine ⟨f, Fo, m, c, rfl, hf, ok, hc, by omega, fun g H1 s1 g0 g1 gle => ?_⟩
  obtain ⟨gn, rfl⟩ : ∃ gn : Nat, g = (gn : Int) := ⟨g.toNat, by omega⟩
  repeat walk_at "st"
  refine ⟨n, gn, B, rfl, sn, hB2, hB, by omega, fun L H2 s2 n2 e2 => ?_⟩
  have g2 := s1.trans s2
  obtain ⟨us, hf2, tm2⟩ := hf.kt (Kt.same g2)
  repeat walk_at "st"
  refine r_lcT ?_
  repeat walk_at "st"
  refine lc_terms (fun H v t => Tm H v (t.1.set a 0, t.2 * n ^ (t.1.getD a 0).toNat)) (fun k h => Tm.kt k h) hf2 tm2 (by omega) (fun _ _ => rfl) (fun t q' H' ht g' pw S k => ?_) fun D vs H3 s3 n3 e3 pr => ?_
  · have la : a < t.1.length := by rw [(ok t ht).1]; exact ha
    obtain ⟨gm, ga⟩ := getD_at la
    have gp := (ok t ht).2 _ gm
    have gl := gle t ht _ gm
    obtain ⟨j, hj⟩ : ∃ j : Nat, t.1.getD a 0 = (j : Int) := ⟨(t.1.getD a 0).toNat, by omega⟩
    show tTup _ [some (.ref f), some (.int (a : Int)), some (.int n), some (.ref L), some (.ref q'), some (.int t.2)] H' S
    repeat walk_at "st"
    refine r_star ?_
    refine r_slR ?_
    repeat walk_at "st"
    refine r_noPart ?_
    refine r_partR ?_
    repeat walk_at "st"
    refine ⟨q', _, rfl, tupOf pw, cutA la, fun p1 np1 => ?_⟩
    obtain ⟨J1, e1, t1, k1⟩ := nw np1 (.tup (cutV (t.1.map V.int) none (some (a : Int))))
    rw [← e1]
    clear e1
    refine ⟨p1, _, rfl, .inl (tupOf k1), ?_⟩
    repeat walk_at "st"
    refine r_star ?_
    refine r_slR ?_
    repeat walk_at "st"
    refine r_partR ?_
    repeat walk_at "st"
    refine r_noPart ?_
    refine ⟨q', _, rfl, tupOf (t1 _ _ pw), cutB la, fun p2 np2 => ?_⟩
    obtain ⟨J2, e4, t2, k2⟩ := nw np2 (.tup (cutV (t.1.map V.int) (some ((a : Int) + 1)) none))
    rw [← e4]
    clear e4
    refine ⟨p2, _, rfl, .inl (tupOf k2), ?_⟩
    repeat walk_at "st"
    refine ⟨?_, fun p3 np3 => ?_⟩
    · have := congrArg List.length (set_cut la)
      simp only [List.length_append, List.length_map, List.length_set, List.length_cons, List.length_nil, List.append_nil] at this ⊢
      exact Nat.le_trans (show _ ≤ 1000 by have := (ok t ht).1; omega) (by decide)
    have e5 : cutV (t.1.map V.int) none (some (a : Int)) ++ V.int 0 :: (cutV (t.1.map V.int) (some ((a : Int) + 1)) none ++ []) = (t.1.set a 0).map V.int := by
      rw [List.append_nil]
      exact set_cut la
    rw [e5]
    obtain ⟨J3, e6, t3, k3⟩ := nw np3 (.tup ((t.1.set a 0).map V.int))
    rw [← e6]
    clear e6
    have t13 := t1.trans (t2.trans t3)
    repeat walk_at "st"
    refine r_ixT (v := .int (j : Int)) (tupOf (t13 _ _ pw)) (by rw [ga, hj]) ?_
    repeat walk_at "st"
    refine r_ixL (v := .int (n ^ j)) (lstOf (t13 _ _ (g' _ _ e2))) (pows_at (by omega)) ?_
    repeat walk_at "st"
    have hj40 : j ≤ 40 := by omega
    refine ⟨_, _, rfl, rfl, Sm.cmul (m := C) (n := B * j + 1) (sC t ht) (sn.pow j) (by omega) (by omega) (by have : B * j ≤ 10000 * 40 := Nat.mul_le_mul hB2 hj40; omega), ?_⟩
    repeat walk_at "st"
    refine ⟨sz rfl, fun p4 np4 => ?_⟩
    refine k _ _ (t13.trans (same_new np4 _)) ⟨p4, p3, rfl, ?_, ?_⟩
    · rw [upd_same]
      show _ = some (HO.tup [V.ref p3, V.int (t.2 * n ^ (t.1.getD a 0).toNat)])
      rw [hj, Int.toNat_natCast]
    · exact same_new np4 _ _ _ k3
  have lp := Paired.length pr
  repeat walk_at "st"
  refine ⟨D, vs, putT a n Fo, m, c, rfl, lstOf e3, tmput pr, put_ok hc ok, by unfold putT; rw [List.length_map]; omega, fun gg G H4 s4 n4 f4 fm => ?_⟩
  exact q gg G H4 (g2.trans (s3.trans s4)) ((g2.trans s3).free n4) f4 fm
theorem ok_worth (F : Fn K mg "worth" s_worth) (G_greatest_power : Kn P w K mg base 1 "greatest_power" ["form"] (spGreatest K)) (G_powers_of : Kn P w K mg base 1 "powers_of" ["number", "most"] (spPows K)) (G_fraction : Kn P w K mg base 2 "fraction" ["top", "bottom"] spLow) (z_zip : mg "zip" = none) : Kn P w K mg base 3 "worth" ["form", "numbers"] (spWorth K) := by
  refine F.kn sc_worth (fun vs H Q E h => ?_) (fun f cdv A outer s H vs Q E hr h => ?_) (fun _ _ _ _ _ _ us hl => match us, hl with | [_, _], _ => rfl)
  · obtain ⟨f, l, Fo, ws, rs, m, S, b, c, rfl, _⟩ := h
    rfl
  obtain ⟨f, l, Fo, ws, rs, m, S, b, c, rfl, hf, ok, hc, hc2, hl, sF, hL, fr, hm, hm2, hb, hS, hb2, q⟩ := h
  refine ⟨_, (pss_cons (ps_set (i := 2) sc_worth.nd rfl (.inr rfl) (pe_kn G_greatest_power (hr.mono (by decide)) (by rfl) (pa_cons (pv 0) pa_nil)))
    (pss_cons (ps_setLc (i := 3) (own := [("number", 4)]) (g := gName 4) (by rfl) sc_worth.nd rfl rfl (sw_true rfl rfl rfl (by decide +kernel)) (pi_list (pv 1)) (blkOk_by (own := [("number", 4)]) (N := ["form", "numbers", "most", "tops", "number", "bottoms", "total", "powers", "term", "top", "bottom", "power", "common"]) (sc := (defScope s_worth)) (by decide +kernel)) (fun _ _ _ _ _ => pg_name (i := 4) sc_worth.nd rfl (.inl rfl)) (fun _ _ _ _ _ => pts_nil) (fun _ _ _ _ _ => (pe_kn G_powers_of (hr.mono (by decide)) (by rfl) (pa_cons (pe_ix (show IxR _ (rIxT K) from ix_tup) (pv 4) pe_int (fun _ _ => rfl)) (pa_cons (pv 2) pa_nil)))))
    (pss_cons (ps_setLc (i := 5) (own := [("number", 4)]) (g := gName 4) (by rfl) sc_worth.nd rfl rfl (sw_true rfl rfl rfl (by decide +kernel)) (pi_list (pv 1)) (blkOk_by (own := [("number", 4)]) (N := ["form", "numbers", "most", "tops", "number", "bottoms", "total", "powers", "term", "top", "bottom", "power", "common"]) (sc := (defScope s_worth)) (by decide +kernel)) (fun _ _ _ _ _ => pg_name (i := 4) sc_worth.nd rfl (.inl rfl)) (fun _ _ _ _ _ => pts_nil) (fun _ _ _ _ _ => (pe_kn G_powers_of (hr.mono (by decide)) (by rfl) (pa_cons (pe_ix (show IxR _ (rIxT K) from ix_tup) (pv 4) pe_int (fun _ _ => rfl)) (pa_cons (pv 2) pa_nil)))))
    (pss_cons (ps_set (i := 6) sc_worth.nd rfl (.inl rfl) pe_int)
    (pss_cons (ps_for PassesOwn.never rfl (pi_tup (pv 0)) (pg_tup (by rfl) (pgs_cons (pg_name (i := 7) sc_worth.nd rfl (.inl rfl)) (pgs_cons (pg_name (i := 4) sc_worth.nd rfl (.inl rfl)) pgs_nil)))
    (pss_cons (ps_set (i := 8) sc_worth.nd rfl (.inl rfl) (pv 4))
    (pss_cons (ps_for PassesOwn.never rfl (pi_zip3 (by rfl) z_zip (pa_cons (pv 3) (pa_cons (pv 5) (pa_cons (pv 7) pa_nil)))) (pg_tup (by rfl) (pgs_cons (pg_name (i := 9) sc_worth.nd rfl (.inl rfl)) (pgs_cons (pg_name (i := 10) sc_worth.nd rfl (.inl rfl)) (pgs_cons (pg_name (i := 11) sc_worth.nd rfl (.inl rfl)) pgs_nil))))
    (pss_one (ps_aug (i := 8) sc_worth.nd rfl (.inl rfl) (pe_op op_mulW (pe_ix ix_list (pv 9) (pv 11) (fun _ _ => rfl)) (pe_ix ix_list (pv 10) (pe_op op_sub (pv 2) (pv 11)) (fun _ _ => rfl))) ip_mult)))
    (pss_one (ps_aug (i := 6) sc_worth.nd rfl (.inl rfl) (pv 8) ip_add)))))
    (pss_cons (ps_set (i := 12) sc_worth.nd rfl (.inl rfl) pe_int)
    (pss_cons (ps_for PassesOwn.never rfl (pi_list (pv 5)) (pg_name (i := 10) sc_worth.nd rfl (.inl rfl))
    (pss_one (ps_aug (i := 12) sc_worth.nd rfl (.inl rfl) (pe_ix ix_list (pv 10) (pv 2) (fun _ _ => rfl)) ip_mult)))
    (pss_one (ps_ret (pe_kn G_fraction (hr.mono (by decide)) (by rfl) (pa_cons (pv 6) (pa_cons (pv 12) pa_nil)))))))))))), ?_⟩
  show (_ : TS) _ [some (.ref f), some (.ref l), none, none, none, none, none, none, none, none, none, none, none] _
  repeat walk_at "st"
  refine ⟨f, Fo, m, c, rfl, hf, ok, hc, hl, fun g H1 s1 g0 g1 gle => ?_⟩
  obtain ⟨gn, rfl⟩ : ∃ gn : Nat, g = (gn : Int) := ⟨g.toNat, by omega⟩
  have gb : gn * b ≤ c.toNat * b := Nat.mul_le_mul_right _ (by omega)
  have hL1 : SqL K H1 l ws := s1.seq hL
  have fr1 := fr.up s1
  have lrs : rs.length ≤ 60 := by omega
  repeat walk_at "st"
  refine r_lcM ?_
  repeat walk_at "st"
  refine lc_by (fun v r => Fq K H1 v r) (fun H v (r : Rat) => Pws gn r.num H v) (fun s n h => h.but s n) hL1 fr1 (by omega) (fun _ => rfl) (fun v r H' hr px g' S' k => ?_) fun T ts H2 s2 nT eT pT => ?_
  · have bz := hb.at hr
    have pz := px.up g'
    repeat walk_at "st"
    refine r_ixF0 pz ?_
    repeat walk_at "st"
    refine ⟨r.num, gn, b + 1, rfl, bz.t.mono (by omega), by omega, by omega, by omega, fun A H3 s3 n3 e3 => ?_⟩
    exact k _ H3 s3 ⟨A, rfl, e3⟩ (fun D hD e => hD (by injection e with e; rw [← e]; exact n3))
  have hL2 : SqL K H2 l ws := s2.seq hL1
  have fr2 := fr1.up s2
  repeat walk_at "st"
  refine r_lcM ?_
  repeat walk_at "st"
  refine lc_by (fun v r => Fq K H2 v r) (fun H v (r : Rat) => Pws gn (r.den : Int) H v) (fun s n h => h.but s n) hL2 fr2 (by omega) (fun _ => rfl) (fun v r H' hr px g' S' k => ?_) fun B bs H3 s3 nB eB pB => ?_
  · have bz := hb.at hr
    have pz := px.up g'
    repeat walk_at "st"
    refine r_ixF1 pz ?_
    repeat walk_at "st"
    refine ⟨_, gn, b + 1, rfl, bz.b.mono (by omega), by omega, by omega, by omega, fun A H3 s3 n3 e3 => ?_⟩
    exact k _ H3 s3 ⟨A, rfl, e3⟩ (fun D hD e => hD (by injection e with e; rw [← e]; exact n3))
  have pT3 : Paired (fun v (r : Rat) => Pws gn r.num H3 v) ts rs := Paired.mapP pT fun _ _ h => h.up s3
  have eT3 := s3 _ _ eT
  have g3 := (s1.trans s2).trans s3
  obtain ⟨us, ef, tF⟩ := hf.kt (Kt.same g3)
  have l1 := Paired.length tF
  have lT := Paired.length pT3
  have lB := Paired.length pB
  clear s1 s2 s3 pT eT
  repeat walk_at "st"
  have un : ∀ t ∈ Fo, Under (List.replicate m gn) t.1 := fun t ht => under_rep (c := (gn : Int)) (by omega) (ok t ht).1 fun p hp => ⟨((ok t ht).2 p hp).1, gle t ht p hp⟩
  have lm : (List.replicate m gn).length = rs.length := by rw [List.length_replicate, hm]
  have mM : ∀ x ∈ List.replicate m gn, x ≤ gn := fun x hx => by rw [(List.mem_replicate.mp hx).2]; exact Nat.le_refl _
  with_reducible refine r_cut (fun σ H' => ∃ (y4 y7 y8 y9 y10 y11 : Option V), σ = [some (.ref f), some (.ref l), some (.int (gn : Int)), some (.ref T), y4, some (.ref B), some (.int (wsum (mon (List.replicate m gn) rs) Fo)), y7, y8, y9, y10, y11, none] ∧ Same H3 H') ?U1 ?V1
  case V1 =>
    intro N J
    refine ⟨.ref f, rfl, f, rfl, ⟨us, tupOf ef⟩, ?_⟩
    refine for_tup (xs := us) (fun i σ H' => ∃ (y4 y7 y8 y9 y10 y11 : Option V), σ = [some (.ref f), some (.ref l), some (.int (gn : Int)), some (.ref T), y4, some (.ref B), some (.int (wsum (mon (List.replicate m gn) rs) (Fo.take i))), y7, y8, y9, y10, y11, none] ∧ Same H3 H') ?_ ?_ ?_ ?_
    · exact ⟨_, _, _, _, _, _, rfl, Same.refl _⟩
    · rintro i σ H' _ ⟨_, _, _, _, _, _, _, g'⟩
      exact tupOf (g' _ _ ef)
    · rintro i v σ H4 hv ⟨y4, y7, y8, y9, y10, y11, rfl, g4⟩
      obtain ⟨t, ht, a, qa, rfl, ta, pw⟩ := tF.at hv
      have htm := List.mem_of_getElem? ht
      have unt := un t htm
      have e1 : Fo.take (i + 1) = Fo.take i ++ [t] := by rw [List.take_succ, ht, Option.toList_some]
      refine r_gT (tupOf (g4 _ _ ta)) rfl ?_
      refine r_g2 ?_
      repeat walk_at "st"
      with_reducible refine r_cut (fun σ H' => ∃ (y9 y10 y11 : Option V), σ = [some (.ref f), some (.ref l), some (.int (gn : Int)), some (.ref T), some (.int t.2), some (.ref B), some (.int (wsum (mon (List.replicate m gn) rs) (Fo.take i))), some (.ref qa), some (.int (t.2 * mon (List.replicate m gn) rs t.1)), y9, y10, y11, none] ∧ Same H3 H') ?U2 ?V2
      case V2 =>
        intro N J
        refine r_forZ3 ?_
        repeat walk_at "st"
        have eqa : SqT K H4 qa (t.1.map V.int) := tupOf (g4 _ _ pw)
        have eT4 : SqL K H4 T ts := lstOf (g4 _ _ eT3)
        have eB4 : SqL K H4 B bs := lstOf (g4 _ _ eB)
        refine ⟨T, B, qa, ts, bs, t.1.map V.int, rfl, eT4, eB4, eqa, ?_⟩
        have lt : t.1.length = m := (ok t htm).1
        refine for_zip3 (xs := ts) (ys := bs) (zs := t.1.map V.int) (by omega) (by rw [List.length_map]; omega) (fun j σ H' => ∃ (y9 y10 y11 : Option V), σ = [some (.ref f), some (.ref l), some (.int (gn : Int)), some (.ref T), some (.int t.2), some (.ref B), some (.int (wsum (mon (List.replicate m gn) rs) (Fo.take i))), some (.ref qa), some (.int (t.2 * mon ((List.replicate m gn).take j) (rs.take j) (t.1.take j))), y9, y10, y11, none] ∧ Same H4 H') ?_ ?_ ?_ ?_
        · refine ⟨y9, y10, y11, ?_, Same.refl _⟩
          rw [List.take_zero, show mon [] (rs.take 0) (t.1.take 0) = 1 from rfl, Int.mul_one]
        · rintro j σ H' ⟨_, _, _, _, g'⟩
          exact ⟨g'.seq eT4, g'.seq eB4, g'.tp eqa⟩
        · rintro j x y z T' σ H5 hx hy hz ⟨y9, y10, y11, rfl, g5⟩ nT'
          obtain ⟨r, hr', px⟩ := LiI.paired_get pT3 hx
          obtain ⟨r2, hr2, py⟩ := LiI.paired_get pB hy
          obtain rfl : r = r2 := by rw [hr'] at hr2; exact Option.some.inj hr2
          rw [List.getElem?_map] at hz
          obtain ⟨k, hk, rfl⟩ := Option.map_eq_some_iff.mp hz
          have hj : j < rs.length := (List.getElem?_eq_some_iff.mp hr').1
          have hrep : (List.replicate m gn)[j]? = some gn := by rw [List.getElem?_replicate, if_pos (by omega)]
          obtain ⟨k0, kg⟩ := unt.at hrep hk
          obtain ⟨kn, rfl⟩ : ∃ kn : Nat, k = (kn : Int) := ⟨k.toNat, by omega⟩
          have sx := same_new nT' (.tup [x, y, .int (kn : Int)])
          have g6 := (g4.trans g5).trans sx
          obtain ⟨ax, rfl, ex⟩ := px.up g6
          obtain ⟨ay, rfl, ey⟩ := py.up g6
          have bz := hb.at (List.mem_of_getElem? hr')
          have cm : CMulW (r.num ^ kn) ((r.den : Int) ^ (gn - kn)) := Sm.cmul (m := b * kn + 1) (n := b * (gn - kn) + 1) (bz.t.pow kn) (bz.b.pow _) (by omega) (by omega) (by
            have h1 : b * kn ≤ 5000 * 50 := Nat.mul_le_mul hb2 (by omega)
            have h2 : b * (gn - kn) ≤ 5000 * 50 := Nat.mul_le_mul hb2 (by omega)
            omega)
          have sm2 : Sm (b * kn + 1 + (b * (gn - kn) + 1)) (r.num ^ kn * (r.den : Int) ^ (gn - kn)) := (bz.t.pow kn).mul (bz.b.pow _)
          have cm2 : CMulW (t.2 * mon ((List.replicate m gn).take j) (rs.take j) (t.1.take j)) (r.num ^ kn * (r.den : Int) ^ (gn - kn)) := Sm.cmul (part_sm j hb mM unt (sF t htm)) sm2 (by omega) (by omega) (by
            have h1 : b * kn ≤ 5000 * 50 := Nat.mul_le_mul hb2 (by omega)
            have h2 : b * (gn - kn) ≤ 5000 * 50 := Nat.mul_le_mul hb2 (by omega)
            omega)
          refine r_gT (tupOf upd_same) rfl ?_
          refine r_g3 ?_
          refine ⟨_, rfl, ?_⟩
          repeat walk_at "st"
          refine r_ixL (lstOf ex) (pows_at (by omega)) ?_
          repeat walk_at "st"
          rw [show (gn : Int) - (kn : Int) = ((gn - kn : Nat) : Int) by omega]
          refine r_ixL (lstOf ey) (pows_at (by omega)) ?_
          repeat walk_at "st"
          refine ⟨_, _, rfl, rfl, cm2, ?_⟩
          refine ⟨some (.ref ax), some (.ref ay), some (.int (kn : Int)), ?_, g5.trans sx⟩
          rw [mon_take hrep hr' hk, show ((kn : Int)).toNat = kn by omega, Int.mul_assoc t.2]
          rfl
        · rintro σ H5 ⟨y9, y10, y11, rfl, g5⟩
          refine J _ _ ⟨y9, y10, y11, ?_, g4.trans g5⟩
          rw [List.take_of_length_le (show (List.replicate m gn).length ≤ ts.length by omega), List.take_of_length_le (show rs.length ≤ ts.length by omega), List.take_of_length_le (show t.1.length ≤ ts.length by omega)]
      rintro σ H5 ⟨y9, y10, y11, rfl, g5⟩
      refine ⟨_, rfl, ?_⟩
      repeat walk_at "st"
      refine ⟨_, _, rfl, rfl, ?_⟩
      have ew : wsum (mon (List.replicate m gn) rs) (Fo.take i) + t.2 * mon (List.replicate m gn) rs t.1 = wsum (mon (List.replicate m gn) rs) (Fo.take (i + 1)) := by
        rw [e1, wsum_app, wsum_cons, show wsum (mon (List.replicate m gn) rs) [] = 0 from rfl, Int.add_zero]
      exact ⟨some (.int t.2), some (.ref qa), some (.int (t.2 * mon (List.replicate m gn) rs t.1)), y9, y10, y11, by rw [← ew]; rfl, g5⟩
    · rintro σ H4 ⟨y4, y7, y8, y9, y10, y11, rfl, g4⟩
      rw [l1, List.take_length]
      exact J _ _ ⟨_, _, _, _, _, _, rfl, g4⟩
  rintro σ H4 ⟨y4, y7, y8, y9, y10, y11, rfl, g4⟩
  repeat walk_at "st"
  with_reducible refine r_cut (fun σ H' => ∃ (y4 y7 y8 y9 y10 y11 : Option V), σ = [some (.ref f), some (.ref l), some (.int (gn : Int)), some (.ref T), y4, some (.ref B), some (.int (wsum (mon (List.replicate m gn) rs) Fo)), y7, y8, y9, y10, y11, some (.int (bot (List.replicate m gn) rs))] ∧ Same H3 H') ?U3 ?V3
  case V3 =>
    intro N J
    refine r_forL ?_
    repeat walk_at "st"
    have eB4 : SqL K H4 B bs := lstOf (g4 _ _ eB)
    refine ⟨B, rfl, ⟨_, eB4⟩, ?_⟩
    refine for_list (xs := bs) (fun j σ H' => ∃ (y4 y7 y8 y9 y10 y11 : Option V), σ = [some (.ref f), some (.ref l), some (.int (gn : Int)), some (.ref T), y4, some (.ref B), some (.int (wsum (mon (List.replicate m gn) rs) Fo)), y7, y8, y9, y10, y11, some (.int (bot ((List.replicate m gn).take j) (rs.take j)))] ∧ Same H4 H') ?_ ?_ ?_ ?_
    · refine ⟨y4, y7, y8, y9, y10, y11, ?_, Same.refl _⟩
      rw [List.take_zero]
      rfl
    · rintro j σ H' _ ⟨_, _, _, _, _, _, _, g'⟩
      exact g'.seq eB4
    · rintro j v σ H5 hv ⟨y4, y7, y8, y9, y10, y11, rfl, g5⟩
      obtain ⟨r, hr', px⟩ := LiI.paired_get pB hv
      have hj : j < rs.length := (List.getElem?_eq_some_iff.mp hr').1
      have hrep : (List.replicate m gn)[j]? = some gn := by rw [List.getElem?_replicate, if_pos (by omega)]
      obtain ⟨ax, rfl, ex⟩ := px.up (g4.trans g5)
      have bz := hb.at (List.mem_of_getElem? hr')
      have bs0 := bot_le (M := gn) (ms := (List.replicate m gn).take j) (hb.take j) fun x hx => mM x (List.mem_of_mem_take hx)
      have cm : CMulW (bot ((List.replicate m gn).take j) (rs.take j)) ((r.den : Int) ^ gn) := Sm.cmul (sm_of_le bs0) (bz.b.pow gn) (by omega) (by omega) (by
        have h1 : gn * b ≤ 50 * 5000 := Nat.mul_le_mul (by omega) hb2
        have h2 : b * gn ≤ 5000 * 50 := Nat.mul_le_mul hb2 (by omega)
        omega)
      repeat walk_at "st"
      refine ⟨_, rfl, ?_⟩
      repeat walk_at "st"
      refine r_ixL (lstOf ex) (pows_at (by omega)) ?_
      refine ⟨_, _, rfl, rfl, cm, ?_⟩
      exact ⟨y4, y7, y8, y9, some (.ref ax), y11, by rw [bot_take hrep hr']; rfl, g5⟩
    · rintro σ H5 ⟨y4, y7, y8, y9, y10, y11, rfl, g5⟩
      refine J _ _ ⟨y4, y7, y8, y9, y10, y11, ?_, g4.trans g5⟩
      rw [List.take_of_length_le (show (List.replicate m gn).length ≤ bs.length by omega), List.take_of_length_le (show rs.length ≤ bs.length by omega)]
  rintro σ H5 ⟨y4, y7, y8, y9, y10, y11, rfl, g5⟩
  repeat walk_at "st"
  have bp := bot_pos (List.replicate m gn) rs
  have bl := bot_le (M := gn) hb mM
  refine ⟨_, _, rfl, by omega, (sm_of_le bl).mono (by omega), fun p H6 s6 n6 e6 => ?_⟩
  have gg := (g3.trans g5).trans s6
  have np : H p = none := by
    cases e : H p with
    | none => rfl
    | some o =>
      have := (g3.trans g5) _ _ e
      rw [n6] at this
      cases this
  exact q p H6 gg np (Fq.of _ (by omega) (worth_rat lm un) e6)
theorem ok_pool (F : Fn K mg "_law_pool" s_pool) (z_len : mg "len" = none) : Kn P w K mg base 1 "_law_pool" ["_law_script", "_law_at"] (spPool K) := by
  refine F.kn sc_pool (fun vs H Q E h => ?_) (fun f cdv A outer s H vs Q E hr h => ?_) (fun _ _ _ _ _ _ us hl => match us, hl with | [_, _], _ => rfl)
  · obtain ⟨a, ns, i, rfl, _⟩ := h
    rfl
  obtain ⟨a, ns, i, rfl, hS, hl, h0, h1, q⟩ := h
  refine ⟨_, (pss_cons (ps_set (i := 2) sc_pool.nd rfl (.inl rfl) pe_int)
    (pss_cons (ps_if (pt_cmpR op_gt (pe_callB call_len_seq (by rfl) z_len (by decide +kernel) (pa_cons (pv 0) pa_nil)) pe_int (nomark _))
    (pss_one (ps_set (i := 2) sc_pool.nd rfl (.inl rfl) (pe_ix ix_list (pv 0) (pe_op op_mod (pv 1) (pe_callB call_len_seq (by rfl) z_len (by decide +kernel) (pa_cons (pv 0) pa_nil))) (fun _ _ => rfl))))
    pss_nil)
    (pss_cons (ps_set (i := 3) sc_pool.nd rfl (.inl rfl) pe_int)
    (pss_cons (ps_if (PW.pt (pw_and (pt_cmpR op_ge (pv 2) (pe_op op_pow pe_int pe_int) (nomark _)) (pw_and1 (pt_cmpR op_lt (pv 1) (pe_callB call_len_seq (by rfl) z_len (by decide +kernel) (pa_cons (pv 0) pa_nil)) (nomark _)))))
    (pss_one (ps_set (i := 3) sc_pool.nd rfl (.inl rfl) (pv 2)))
    pss_nil)
    (pss_one (ps_ret (pe_lst (pa_cons (pv 3) (pa_cons (pe_op op_mulW pe_int (pv 1)) (pa_cons (pv 2) pa_nil)))))))))), ?_⟩
  show (_ : TS) _ [some (.ref a), some (.int i), none, none] _
  have hz : (ns.map V.int).length = ns.length := List.length_map _
  have si : Sm 64 i := by unfold Sm; omega
  have e18 : ((10 : Int) ^ (18 : Int).toNat) = 1000000000000000000 := by decide
  repeat walk_at "st"
  refine r_cut (fun σ H' => ∃ z : Int, σ = [some (.ref a), some (.int i), some (.int z), none] ∧ H' = H) ?_ (fun N J => ?_)
  · rintro σ H' ⟨z, rfl, rfl⟩
    repeat walk_at "st"
    refine r_cut (fun σ H2 => ∃ x : Int, σ = [some (.ref a), some (.int i), some (.int z), some (.int x)] ∧ H2 = H') ?_ (fun N J => ?_)
    · rintro σ H2 ⟨x, rfl, rfl⟩
      repeat walk_at "st"
      refine ⟨sz rfl, fun p hp => ?_⟩
      exact q p _ (same_new hp _) hp ⟨x, 1000 * i, z, upd_same, by omega, by omega⟩
    · repeat walk_at "st"
      refine r_ite (fun c => ?_) (fun c => ?_)
      · repeat walk_at "st"
        refine ⟨a, _, rfl, .inl hS, ?_⟩
        repeat walk_at "st"
        refine r_ite (fun c => ?_) (fun c => ?_)
        · repeat walk_at "st"
          exact J _ _ ⟨_, rfl, rfl⟩
        · repeat walk_at "st"
          exact J _ _ ⟨_, rfl, rfl⟩
      · repeat walk_at "st"
        exact J _ _ ⟨_, rfl, rfl⟩
  · repeat walk_at "st"
    refine ⟨a, _, rfl, .inl hS, ?_⟩
    repeat walk_at "st"
    refine r_ite (fun c => ?_) (fun c => ?_)
    · repeat walk_at "st"
      refine ⟨a, _, rfl, .inl hS, ?_⟩
      rw [hz] at c
      refine r_i (show (0 : Int) < _ by rw [hz]; omega) ?_
      have hk : (i % ((ns.map V.int).length : Int)).toNat < ns.length := by
        rw [hz]
        have := Int.emod_lt_of_pos i (show (0 : Int) < ns.length by omega)
        omega
      have e : i % ((ns.map V.int).length : Int) = (((i % ((ns.map V.int).length : Int)).toNat : Nat) : Int) := by
        rw [hz]
        have := Int.emod_nonneg i (show (ns.length : Int) ≠ 0 by omega)
        omega
      refine r_ixL hS (at_of e (by rw [List.getElem?_map, List.getElem?_eq_getElem hk]; rfl)) ?_
      repeat walk_at "st"
      exact J _ _ ⟨_, rfl, rfl⟩
    · repeat walk_at "st"
      exact J _ _ ⟨_, rfl, rfl⟩
theorem ok_take (F : Fn K mg "_law_take" s_take) : Kn P w K mg base 1 "_law_take" ["_law_pool_here", "_law_wide_here"] spTakeW := by
  refine F.kn sc_take (fun vs H Q E h => ?_) (fun f cdv A outer s H vs Q E hr h => ?_) (fun _ _ _ _ _ _ us hl => match us, hl with | [_, _], _ => rfl)
  · obtain ⟨p, k, b, rfl, _⟩ := h
    rfl
  obtain ⟨p, k, b, rfl, ⟨x, y, z, hp, y0, y1⟩, hb, hk, hk2, q⟩ := h
  refine ⟨_, (pss_cons (ps_if (pt_cmpR op_gt (pe_ix ix_list (pv 0) pe_int (fun _ _ => rfl)) pe_int (nomark _))
    (pss_cons (ps_set (i := 2) sc_take.nd rfl (.inl rfl) (pe_op op_mod (pe_ix ix_list (pv 0) pe_int (fun _ _ => rfl)) (pv 1)))
    (pss_cons (ps_asg (pe_op op_fdivW (pe_ix ix_list (pv 0) pe_int (fun _ _ => rfl)) (pv 1)) (pg_sub (pv 0) pe_int set_list))
    (pss_one (ps_ret (pv 2)))))
    pss_nil)
    (pss_cons (ps_asg (pe_op op_add (pe_ix ix_list (pv 0) pe_int (fun _ _ => rfl)) pe_int) (pg_sub (pv 0) pe_int set_list))
    (pss_cons (ps_set (i := 3) sc_take.nd rfl (.inl rfl) (pe_op op_mod (pe_op op_pow (pe_op op_add (pe_op op_mod (pe_ix ix_list (pv 0) pe_int (fun _ _ => rfl)) pe_int) (pe_op op_mulW pe_int (pe_ix ix_list (pv 0) pe_int (fun _ _ => rfl)))) pe_int) pe_int))
    (pss_cons (ps_set (i := 3) sc_take.nd rfl (.inl rfl) (pe_op op_add (pe_op op_mulW (pv 3) pe_int) (pe_op op_mulW (pe_op op_mulW (pe_ix ix_list (pv 0) pe_int (fun _ _ => rfl)) (pe_ix ix_list (pv 0) pe_int (fun _ _ => rfl))) pe_int)))
    (pss_one (ps_ret (pe_op op_mod (pe_op op_fdivW (pe_op op_mod (pe_op op_add (pv 3) (pe_op op_fdivW (pe_ix ix_list (pv 0) pe_int (fun _ _ => rfl)) pe_int)) pe_int) pe_int) (pv 1)))))))), ?_⟩
  show (_ : TS) _ [some (.ref p), some (.int k), none, none] _
  have sk : Sm 64 k := by unfold Sm; omega
  have sy : Sm 64 (y + 1) := by unfold Sm; omega
  have m0 : ∀ i : Int, 0 ≤ i % k := fun i => Int.emod_nonneg i (by omega)
  have m1 : ∀ i : Int, i % k < k := fun i => Int.emod_lt_of_pos i (by omega)
  refine r_seq ?_
  repeat walk_at "st"
  refine r_ite (fun c => ?_) (fun c => ?_)
  · repeat walk_at "st"
    refine r_i (Sm.cdiv (by omega) sk) ?_
    repeat walk_at "st"
    refine r_setL hp rfl ?_
    repeat walk_at "st"
    exact q _ _ (But.upd _ _ _) ⟨_, y, z, upd_same, y0, by omega⟩ (m0 _) (m1 _)
  · repeat walk_at "st"
    refine r_setL hp rfl ?_
    dsimp only [List.set]
    have hp2 : (upd H p (.lst [.int x, .int (y + 1), .int z])) p = some (.lst [.int x, .int (y + 1), .int z]) := upd_same
    have e1 := Int.emod_nonneg z (show (2147483647 : Int) ≠ 0 by decide)
    have e2 := Int.emod_lt_of_pos z (show (0 : Int) < 2147483647 by decide)
    generalize hz : z % 2147483647 = z' at e1 e2
    repeat walk_at "st"
    rw [hz]
    refine r_i ⟨by decide, by decide, by omega⟩ ?_
    repeat walk_at "st"
    generalize hs : (z' + 40503 * (y + 1)) ^ Int.toNat 5 % 2147483647 = sd
    have e3 : 0 ≤ sd := by rw [← hs]; exact Int.emod_nonneg _ (by decide)
    have e4 : sd < 2147483647 := by rw [← hs]; exact Int.emod_lt_of_pos _ (by decide)
    have ss : Sm 64 sd := by unfold Sm; omega
    repeat walk_at "st"
    exact q _ _ (But.upd _ _ _) ⟨x, y + 1, z, upd_same, by omega, by omega⟩ (m0 _) (m1 _)
theorem ok_gcd (F : Fn K mg "_law_gcd" s_gcd) (z_abs : mg "abs" = none) : Kn P w K mg base 1 "_law_gcd" ["_law_one", "_law_other"] spGcd := by
  refine F.kn sc_gcd (fun vs H Q E h => ?_) (fun f cdv A outer s H vs Q E hr h => ?_) (fun _ _ _ _ _ _ us hl => match us, hl with | [_, _], _ => rfl)
  · obtain ⟨a, b, rfl, _⟩ := h
    rfl
  obtain ⟨a, b, rfl, q⟩ := h
  refine ⟨_, (pss_cons (ps_set (i := 0) sc_gcd.nd rfl (.inl rfl) (pe_callB call_abs (by rfl) z_abs (by decide +kernel) (pa_cons (pv 0) pa_nil)))
    (pss_cons (ps_set (i := 1) sc_gcd.nd rfl (.inl rfl) (pe_callB call_abs (by rfl) z_abs (by decide +kernel) (pa_cons (pv 1) pa_nil)))
    (pss_cons (ps_while PassesOwn.never (pt_cmpR op_gt (pv 1) pe_int (nomark _))
    (pss_one (ps_par (by rfl) sc_gcd.nd (i := 0) (j := 1) rfl rfl (by decide) rfl rfl (pa_cons (pv 1) (pa_cons (pe_op op_mod (pv 0) (pv 1)) pa_nil)) (by rfl))))
    (pss_one (ps_ret (pv 0)))))), ?_⟩
  show (_ : TS) _ [some (.int a), some (.int b)] _
  repeat walk_at "st"
  refine ⟨a, rfl, ?_⟩
  repeat walk_at "st"
  refine ⟨b, rfl, ?_⟩
  repeat walk_at "st"
  refine r_seq ?_
  refine r_while (fun σ H' => H' = H ∧ ∃ x y : Int, σ = [some (.int x), some (.int y)] ∧ 0 ≤ x ∧ 0 ≤ y ∧ Int.gcd x y = Int.gcd a b) (fun σ _ => match σ with | [_, some (.int y)] => y.toNat | _ => 0) ?_ ?_
  · refine ⟨rfl, _, _, rfl, ?_, ?_, ?_⟩
    · split <;> omega
    · split <;> omega
    · split <;> split <;> simp only [Int.neg_gcd, Int.gcd_neg]
  · rintro σ H' ⟨rfl, x, y, rfl, hx, hy, hg⟩
    repeat walk_at "st"
    refine r_ite (fun c => ?_) (fun c => ?_)
    · refine r_turn ?_
      repeat walk_at "st"
      have e1 := Int.emod_nonneg x (show y ≠ 0 by omega)
      have e2 := Int.emod_lt_of_pos x (show 0 < y by omega)
      refine ⟨⟨rfl, y, x % y, rfl, hy, e1, by rw [gcd_step hx c, hg]⟩, ?_⟩
      show (x % y).toNat < y.toNat
      omega
    · have e : y = 0 := by omega
      subst e
      repeat walk_at "st"
      have g : (Int.gcd x 0 : Int) = x := by rw [Int.gcd_zero]; omega
      rw [hg] at g
      show Q (.int x) _
      rw [← g]
      exact q
theorem ok_low (F : Fn K mg "_law_low" s_low) (G_gcd : Kn P w K mg base 1 "_law_gcd" ["_law_one", "_law_other"] spGcd) : Kn P w K mg base 2 "_law_low" ["_law_top", "_law_bottom"] spLow := by
  refine F.kn sc_low (fun vs H Q E h => ?_) (fun f cdv A outer s H vs Q E hr h => ?_) (fun _ _ _ _ _ _ us hl => match us, hl with | [_, _], _ => rfl)
  · obtain ⟨t, b, rfl, _⟩ := h
    rfl
  obtain ⟨t, b, rfl, hb, sb, q⟩ := h
  refine ⟨_, (pss_cons (ps_if (pt_cmpR op_lt (pv 1) pe_int (nomark _))
    (pss_one (ps_par (by rfl) sc_low.nd (i := 0) (j := 1) rfl rfl (by decide) rfl rfl (pa_cons (pe_un un_neg (pv 0)) (pa_cons (pe_un un_neg (pv 1)) pa_nil)) (by rfl)))
    pss_nil)
    (pss_cons (ps_set (i := 2) sc_low.nd rfl (.inl rfl) (pe_kn G_gcd (hr.mono (by decide)) (by rfl) (pa_cons (pv 0) (pa_cons (pv 1) pa_nil))))
    (pss_one (ps_ret (pe_tup (pa_cons (pe_op op_fdivW (pv 0) (pv 2)) (pa_cons (pe_op op_fdivW (pv 1) (pv 2)) pa_nil))))))), ?_⟩
  show (_ : TS) _ [some (.int t), some (.int b), none] _
  have g0 := gcd_pos (t := t) hb
  have gs : Sm 8000 (Int.gcd t b : Int) := sb.le (by
    have : (Int.gcd t b : Int) ∣ b := Int.gcd_dvd_right t b
    have := Int.le_of_dvd (show 0 < (b.natAbs : Int) by omega) (Int.dvd_natAbs.mpr this)
    omega)
  refine r_cut (fun σ H' => σ = [some (.int (if b < 0 then -t else t)), some (.int (if b < 0 then -b else b)), none] ∧ H' = H) ?_ (fun N J => ?_)
  · rintro σ H' ⟨rfl, rfl⟩
    repeat walk_at "st"
    refine ⟨_, _, rfl, ?_⟩
    have e : Int.gcd (if b < 0 then -t else t) (if b < 0 then -b else b) = Int.gcd t b := by
      split
      · rw [Int.neg_gcd, Int.gcd_neg]
      · rfl
    rw [e]
    repeat walk_at "st"
    refine r_i (Sm.cdiv g0 gs) ?_
    repeat walk_at "st"
    refine r_i (Sm.cdiv g0 gs) ?_
    repeat walk_at "st"
    refine ⟨sz rfl, fun p hp => ?_⟩
    exact q p _ (same_new hp _) hp upd_same
  · repeat walk_at "st"
    refine r_ite (fun c => ?_) (fun c => ?_)
    · repeat walk_at "st"
      exact J _ _ ⟨by rw [if_pos c, if_pos c], rfl⟩
    · repeat walk_at "st"
      exact J _ _ ⟨by rw [if_neg c, if_neg c], rfl⟩
theorem ok_l_plus (F : Fn K mg "_law_plus" s_l_plus) : Kn P w K mg base 1 "_law_plus" ["_law_one", "_law_other"] (spRaw K (fun x y u v => x * v + u * y) (fun x y u v => y * v)) := by
  refine F.kn sc_l_plus (fun vs H Q E h => ?_) (fun f cdv A outer s H vs Q E hr h => ?_) (fun _ _ _ _ _ _ us hl => match us, hl with | [_, _], _ => rfl)
  · obtain ⟨a, b, x, y, u, v, rfl, _⟩ := h
    rfl
  obtain ⟨a, b, x, y, u, v, rfl, h1, h2, s1, s2, s3, s4, q⟩ := h
  refine ⟨_, (pss_one (ps_ret (pe_tup (pa_cons (pe_op op_add (pe_op op_mulW (pe_ix ix_tup (pv 0) pe_int (fun _ _ => rfl)) (pe_ix ix_tup (pv 1) pe_int (fun _ _ => rfl))) (pe_op op_mulW (pe_ix ix_tup (pv 1) pe_int (fun _ _ => rfl)) (pe_ix ix_tup (pv 0) pe_int (fun _ _ => rfl)))) (pa_cons (pe_op op_mulW (pe_ix ix_tup (pv 0) pe_int (fun _ _ => rfl)) (pe_ix ix_tup (pv 1) pe_int (fun _ _ => rfl))) pa_nil))))), ?_⟩
  show (_ : TS) _ [some (.ref a), some (.ref b)] _
  repeat walk_at "st"
  refine ⟨sz rfl, fun p hp => ?_⟩
  exact q p _ (same_new hp _) hp upd_same
theorem ok_l_less (F : Fn K mg "_law_less" s_l_less) : Kn P w K mg base 1 "_law_less" ["_law_one", "_law_other"] (spRaw K (fun x y u v => x * v - u * y) (fun x y u v => y * v)) := by
  refine F.kn sc_l_less (fun vs H Q E h => ?_) (fun f cdv A outer s H vs Q E hr h => ?_) (fun _ _ _ _ _ _ us hl => match us, hl with | [_, _], _ => rfl)
  · obtain ⟨a, b, x, y, u, v, rfl, _⟩ := h
    rfl
  obtain ⟨a, b, x, y, u, v, rfl, h1, h2, s1, s2, s3, s4, q⟩ := h
  refine ⟨_, (pss_one (ps_ret (pe_tup (pa_cons (pe_op op_sub (pe_op op_mulW (pe_ix ix_tup (pv 0) pe_int (fun _ _ => rfl)) (pe_ix ix_tup (pv 1) pe_int (fun _ _ => rfl))) (pe_op op_mulW (pe_ix ix_tup (pv 1) pe_int (fun _ _ => rfl)) (pe_ix ix_tup (pv 0) pe_int (fun _ _ => rfl)))) (pa_cons (pe_op op_mulW (pe_ix ix_tup (pv 0) pe_int (fun _ _ => rfl)) (pe_ix ix_tup (pv 1) pe_int (fun _ _ => rfl))) pa_nil))))), ?_⟩
  show (_ : TS) _ [some (.ref a), some (.ref b)] _
  repeat walk_at "st"
  refine ⟨sz rfl, fun p hp => ?_⟩
  exact q p _ (same_new hp _) hp upd_same
theorem ok_l_times (F : Fn K mg "_law_times" s_l_times) : Kn P w K mg base 1 "_law_times" ["_law_one", "_law_other"] (spRaw K (fun x y u v => x * u) (fun x y u v => y * v)) := by
  refine F.kn sc_l_times (fun vs H Q E h => ?_) (fun f cdv A outer s H vs Q E hr h => ?_) (fun _ _ _ _ _ _ us hl => match us, hl with | [_, _], _ => rfl)
  · obtain ⟨a, b, x, y, u, v, rfl, _⟩ := h
    rfl
  obtain ⟨a, b, x, y, u, v, rfl, h1, h2, s1, s2, s3, s4, q⟩ := h
  refine ⟨_, (pss_one (ps_ret (pe_tup (pa_cons (pe_op op_mulW (pe_ix ix_tup (pv 0) pe_int (fun _ _ => rfl)) (pe_ix ix_tup (pv 1) pe_int (fun _ _ => rfl))) (pa_cons (pe_op op_mulW (pe_ix ix_tup (pv 0) pe_int (fun _ _ => rfl)) (pe_ix ix_tup (pv 1) pe_int (fun _ _ => rfl))) pa_nil))))), ?_⟩
  show (_ : TS) _ [some (.ref a), some (.ref b)] _
  repeat walk_at "st"
  refine ⟨sz rfl, fun p hp => ?_⟩
  exact q p _ (same_new hp _) hp upd_same
theorem ok_even (F : Fn K mg "_law_even" s_even) : Kn P w K mg base 1 "_law_even" ["_law_one", "_law_other"] (spEven K) := by
  refine F.kn sc_even (fun vs H Q E h => ?_) (fun f cdv A outer s H vs Q E hr h => ?_) (fun _ _ _ _ _ _ us hl => match us, hl with | [_, _], _ => rfl)
  · obtain ⟨a, b, x, y, u, v, rfl, _⟩ := h
    rfl
  obtain ⟨a, b, x, y, u, v, rfl, h1, h2, s1, s2, s3, s4, q⟩ := h
  refine ⟨_, (pss_one (ps_ret (pe_cmpR op_eq (pe_op op_mulW (pe_ix ix_tup (pv 0) pe_int (fun _ _ => rfl)) (pe_ix ix_tup (pv 1) pe_int (fun _ _ => rfl))) (pe_op op_mulW (pe_ix ix_tup (pv 1) pe_int (fun _ _ => rfl)) (pe_ix ix_tup (pv 0) pe_int (fun _ _ => rfl))) (nomark _)))), ?_⟩
  show (_ : TS) _ [some (.ref a), some (.ref b)] _
  repeat walk_at "st"
  exact q
theorem ok_whole (F : Fn K mg "_law_whole" s_whole) (z_isinstance : mg "isinstance" = none) (z_int : mg "int" = none) (z_bool : mg "bool" = none) : Kn P w K mg base 1 "_law_whole" ["_law_found"] spWhole := by
  refine F.kn sc_whole (fun vs H Q E h => ?_) (fun f cdv A outer s H vs Q E hr h => ?_) (fun _ _ _ _ _ _ us hl => match us, hl with | [_], _ => rfl)
  · obtain ⟨i, rfl, _⟩ := h
    rfl
  obtain ⟨i, rfl, q⟩ := h
  refine ⟨_, (pss_one (ps_ret (pe_and (pe_callB call_isi (by rfl) z_isinstance (by decide +kernel) (pa_cons (pv 0) (pa_cons (pe_bltn (v := .ty "int") (by rfl) z_int (by decide +kernel) rfl) pa_nil))) (pe_one (pe_not (pe_callB call_isi (by rfl) z_isinstance (by decide +kernel) (pa_cons (pv 0) (pa_cons (pe_bltn (v := .ty "bool") (by rfl) z_bool (by decide +kernel) rfl) pa_nil)))))))), ?_⟩
  show (_ : TS) _ [some (.int i)] _
  repeat walk_at "st"
  refine r_isi (r := true) (.base (.int _)) (by decide +kernel) ?_
  repeat walk_at "st"
  refine r_isi (r := false) (.base (.int _)) (by decide +kernel) ?_
  repeat walk_at "st"
  exact q
theorem ok_is_frac (F : Fn K mg "_law_is_frac" s_is_frac) (G_whole : Kn P w K mg base 1 "_law_whole" ["_law_found"] spWhole) (G_gcd : Kn P w K mg base 1 "_law_gcd" ["_law_one", "_law_other"] spGcd) (z_isinstance : mg "isinstance" = none) (z_tuple : mg "tuple" = none) (z_len : mg "len" = none) : Kn P w K mg base 2 "_law_is_frac" ["_law_found"] (spIsFr K) := by
  refine F.kn sc_is_frac (fun vs H Q E h => ?_) (fun f cdv A outer s H vs Q E hr h => ?_) (fun _ _ _ _ _ _ us hl => match us, hl with | [_], _ => rfl)
  · obtain ⟨p, t, u, rfl, _⟩ := h
    rfl
  obtain ⟨p, t, u, rfl, hp, u0, g, q⟩ := h
  refine ⟨_, (pss_cons (ps_if (PW.pt (pw_or (pt_not (pt_val (pe_callB call_isi (by rfl) z_isinstance (by decide +kernel) (pa_cons (pv 0) (pa_cons (pe_bltn (v := .ty "tuple") (by rfl) z_tuple (by decide +kernel) rfl) pa_nil))))) (pw_or1 (pt_cmpR op_ne (pe_callB call_len_seq (by rfl) z_len (by decide +kernel) (pa_cons (pv 0) pa_nil)) pe_int (nomark _)))))
    (pss_one (ps_ret pe_bl))
    pss_nil)
    (pss_cons (ps_if (PW.pt (pw_or (pt_not (pt_val (pe_kn G_whole (hr.mono (by decide)) (by rfl) (pa_cons (pe_ix ix_tup (pv 0) pe_int (fun _ _ => rfl)) pa_nil)))) (pw_or (pt_not (pt_val (pe_kn G_whole (hr.mono (by decide)) (by rfl) (pa_cons (pe_ix ix_tup (pv 0) pe_int (fun _ _ => rfl)) pa_nil)))) (pw_or1 (pt_cmpR op_lt (pe_ix ix_tup (pv 0) pe_int (fun _ _ => rfl)) pe_int (nomark _))))))
    (pss_one (ps_ret pe_bl))
    pss_nil)
    (pss_one (ps_ret (pe_cmpR op_eq (pe_kn G_gcd (hr.mono (by decide)) (by rfl) (pa_cons (pe_ix ix_tup (pv 0) pe_int (fun _ _ => rfl)) (pa_cons (pe_ix ix_tup (pv 0) pe_int (fun _ _ => rfl)) pa_nil))) pe_int (nomark _)))))), ?_⟩
  show (_ : TS) _ [some (.ref p)] _
  refine r_seq ?_
  repeat walk_at "st"
  refine r_isi (r := true) (tyT hp) (by decide +kernel) ?_
  repeat walk_at "st"
  refine ⟨p, _, rfl, .inr hp, ?_⟩
  repeat walk_at "st"
  refine r_iteN (fun c => ?_) (fun c => ?_)
  · exact absurd rfl c
  repeat walk_at "st"
  refine r_seq ?_
  repeat walk_at "st"
  refine ⟨_, rfl, ?_⟩
  repeat walk_at "st"
  refine ⟨_, rfl, ?_⟩
  repeat walk_at "st"
  refine r_ite (fun c => ?_) (fun c => ?_)
  · omega
  repeat walk_at "st"
  refine ⟨_, _, rfl, ?_⟩
  rw [g]
  repeat walk_at "st"
  exact q
theorem ok_frac (F : Fn K mg "_law_frac" s_frac) (G_take : Kn P w K mg base 1 "_law_take" ["_law_pool_here", "_law_wide_here"] spTakeW) (G_low : Kn P w K mg base 2 "_law_low" ["_law_top", "_law_bottom"] spLow) : Kn P w K mg base 3 "_law_frac" ["_law_pool_here"] spFracB := by
  refine F.kn sc_frac (fun vs H Q E h => ?_) (fun f cdv A outer s H vs Q E hr h => ?_) (fun _ _ _ _ _ _ us hl => match us, hl with | [_], _ => rfl)
  · obtain ⟨p, b, rfl, _⟩ := h
    rfl
  obtain ⟨p, b, rfl, hp, hb, q⟩ := h
  refine ⟨_, (pss_cons (ps_set (i := 1) sc_frac.nd rfl (.inl rfl) (pe_kn G_take (hr.mono (by decide)) (by rfl) (pa_cons (pv 0) (pa_cons pe_int pa_nil))))
    (pss_cons (ps_if (pt_cmpR op_lt (pv 1) pe_int (nomark _))
    (pss_one (ps_ret (pe_tup (pa_cons (pe_op op_sub (pe_kn G_take (hr.mono (by decide)) (by rfl) (pa_cons (pv 0) (pa_cons pe_int pa_nil))) pe_int) (pa_cons pe_int pa_nil)))))
    pss_nil)
    (pss_cons (ps_if (pt_cmpR op_lt (pv 1) pe_int (nomark _))
    (pss_one (ps_ret (pe_kn G_low (hr.mono (by decide)) (by rfl) (pa_cons (pe_op op_sub (pe_kn G_take (hr.mono (by decide)) (by rfl) (pa_cons (pv 0) (pa_cons pe_int pa_nil))) pe_int) (pa_cons (pe_op op_add pe_int (pe_kn G_take (hr.mono (by decide)) (by rfl) (pa_cons (pv 0) (pa_cons pe_int pa_nil)))) pa_nil)))))
    pss_nil)
    (pss_cons (ps_if (pt_cmpR op_eq (pv 1) pe_int (nomark _))
    (pss_one (ps_ret (pe_tup (pa_cons (pe_op op_sub (pe_kn G_take (hr.mono (by decide)) (by rfl) (pa_cons (pv 0) (pa_cons pe_int pa_nil))) pe_int) (pa_cons pe_int pa_nil)))))
    pss_nil)
    (pss_cons (ps_set (i := 2) sc_frac.nd rfl (.inl rfl) (pe_kn G_take (hr.mono (by decide)) (by rfl) (pa_cons (pv 0) (pa_cons pe_int pa_nil))))
    (pss_cons (ps_if (pt_cmpR op_lt (pv 2) pe_int (nomark _))
    (pss_one (ps_ret (pe_ix ix_list (pe_lst (pa_cons (pe_tup (pa_cons pe_int (pa_cons pe_int pa_nil))) (pa_cons (pe_tup (pa_cons (pe_un un_neg pe_int) (pa_cons pe_int pa_nil))) (pa_cons (pe_tup (pa_cons pe_int (pa_cons pe_int pa_nil))) (pa_cons (pe_tup (pa_cons (pe_un un_neg pe_int) (pa_cons pe_int pa_nil))) pa_nil))))) (pv 2) (fun _ _ => rfl))))
    pss_nil)
    (pss_cons (ps_set (i := 3) sc_frac.nd rfl (.inl rfl) (pe_op op_add (pe_op op_mulW (pe_kn G_take (hr.mono (by decide)) (by rfl) (pa_cons (pv 0) (pa_cons pe_int pa_nil))) pe_int) (pe_kn G_take (hr.mono (by decide)) (by rfl) (pa_cons (pv 0) (pa_cons pe_int pa_nil)))))
    (pss_cons (ps_set (i := 4) sc_frac.nd rfl (.inl rfl) (pe_op op_add (pe_op op_mulW (pe_kn G_take (hr.mono (by decide)) (by rfl) (pa_cons (pv 0) (pa_cons pe_int pa_nil))) pe_int) (pe_kn G_take (hr.mono (by decide)) (by rfl) (pa_cons (pv 0) (pa_cons pe_int pa_nil)))))
    (pss_one (ps_ret (pe_kn G_low (hr.mono (by decide)) (by rfl) (pa_cons (pe_op op_sub (pe_op op_mod (pv 3) pe_int) pe_int) (pa_cons (pe_op op_add pe_int (pe_op op_mod (pv 4) pe_int)) pa_nil))))))))))))), ?_⟩
  show (_ : TS) _ [some (.ref p), none, none, none, none] _
  repeat walk_at "st"
  refine ⟨p, _, b, rfl, hp, by omega, by decide, by decide, fun w1 H1 b1 hp1 l1 u1 => ?_⟩
  repeat walk_at "st"
  refine r_seq ?_
  repeat walk_at "st"
  refine r_ite (fun c => ?_) (fun c => ?_)
  · repeat walk_at "st"
    refine ⟨p, _, _, rfl, hp1, by omega, by decide, by decide, fun r2 H2 b2 hp2 l2 u2 => ?_⟩
    repeat walk_at "st"
    refine ⟨sz rfl, fun o ho => ?_⟩
    have sn := same_new ho (.tup [.int (r2 - 4), .int 1])
    exact q o _ _ _ ((b1.trans b2).trans (But.same sn)) ((hp2.same sn).mono (by omega)) upd_same (fb_int (by omega))
  repeat walk_at "st"
  refine r_seq ?_
  repeat walk_at "st"
  refine r_ite (fun c => ?_) (fun c => ?_)
  · repeat walk_at "st"
    refine ⟨p, _, _, rfl, hp1, by omega, by decide, by decide, fun r2 H2 b2 hp2 l2 u2 => ?_⟩
    repeat walk_at "st"
    refine ⟨p, _, _, rfl, hp2, by omega, by decide, by decide, fun r3 H3 b3 hp3 l3 u3 => ?_⟩
    repeat walk_at "st"
    refine ⟨_, _, rfl, by omega, (show Sm 64 (1 + r3) by unfold Sm; omega).mono (by decide), fun o H4 g4 n4 e4 => ?_⟩
    exact q o _ _ _ (((b1.trans b2).trans b3).trans (But.same g4)) ((hp3.same g4).mono (by omega)) e4 (fb_low (by omega) (by omega) (by omega))
  repeat walk_at "st"
  refine r_seq ?_
  repeat walk_at "st"
  refine r_ite (fun c => ?_) (fun c => ?_)
  · repeat walk_at "st"
    refine ⟨p, _, _, rfl, hp1, by omega, by decide, by decide, fun r2 H2 b2 hp2 l2 u2 => ?_⟩
    repeat walk_at "st"
    refine ⟨sz rfl, fun o ho => ?_⟩
    have sn := same_new ho (.tup [.int (r2 - 1000), .int 1])
    exact q o _ _ _ ((b1.trans b2).trans (But.same sn)) ((hp2.same sn).mono (by omega)) upd_same (fb_int (by omega))
  repeat walk_at "st"
  refine ⟨p, _, _, rfl, hp1, by omega, by decide, by decide, fun r2 H2 b2 hp2 l2 u2 => ?_⟩
  have bb := b1.trans b2
  clear b1 b2 hp1 hp
  repeat walk_at "st"
  refine r_seq ?_
  repeat walk_at "st"
  refine r_ite (fun c => ?_) (fun c => ?_)
  · repeat walk_at "st"
    refine ⟨sz rfl, fun o1 n1 => ?_⟩
    have s1 := same_new n1 (.tup [.int 999999999, .int 1])
    have k1 : (upd H2 o1 (.tup [.int 999999999, .int 1])) o1 = some (.tup [.int 999999999, .int 1]) := upd_same
    generalize upd H2 o1 (.tup [.int 999999999, .int 1]) = J1 at *
    repeat walk_at "st"
    refine ⟨sz rfl, fun o2 n2 => ?_⟩
    have s2 := same_new n2 (.tup [.int (-999999999), .int 1])
    have k2 : (upd J1 o2 (.tup [.int (-999999999), .int 1])) o2 = some (.tup [.int (-999999999), .int 1]) := upd_same
    generalize upd J1 o2 (.tup [.int (-999999999), .int 1]) = J2 at *
    repeat walk_at "st"
    refine ⟨sz rfl, fun o3 n3 => ?_⟩
    have s3 := same_new n3 (.tup [.int 1, .int 999999999])
    have k3 : (upd J2 o3 (.tup [.int 1, .int 999999999])) o3 = some (.tup [.int 1, .int 999999999]) := upd_same
    generalize upd J2 o3 (.tup [.int 1, .int 999999999]) = J3 at *
    repeat walk_at "st"
    refine ⟨sz rfl, fun o4 n4 => ?_⟩
    have s4 := same_new n4 (.tup [.int (-999999998), .int 999999999])
    have k4 : (upd J3 o4 (.tup [.int (-999999998), .int 999999999])) o4 = some (.tup [.int (-999999998), .int 999999999]) := upd_same
    generalize upd J3 o4 (.tup [.int (-999999998), .int 999999999]) = J4 at *
    repeat walk_at "st"
    refine ⟨sz rfl, fun o5 n5 => ?_⟩
    have s5 := same_new n5 (.lst [.ref o1, .ref o2, .ref o3, .ref o4])
    have k5 : (upd J4 o5 (.lst [.ref o1, .ref o2, .ref o3, .ref o4])) o5 = some (.lst [.ref o1, .ref o2, .ref o3, .ref o4]) := upd_same
    generalize upd J4 o5 (.lst [.ref o1, .ref o2, .ref o3, .ref o4]) = J5 at *
    have gg : Same H2 J5 := (((s1.trans s2).trans s3).trans s4).trans s5
    have b5 := bb.trans (But.same gg)
    have hp5 : Pl J5 p (b + 10) := (hp2.same gg).mono (by omega)
    have hr : r2 = 0 ∨ r2 = 1 ∨ r2 = 2 ∨ r2 = 3 := by omega
    rcases hr with rfl | rfl | rfl | rfl
    · repeat walk_at "st"
      exact q _ _ _ _ b5 hp5 (s5 _ _ (s4 _ _ (s3 _ _ (s2 _ _ k1)))) ⟨by decide, by decide +kernel, by decide, by decide⟩
    · repeat walk_at "st"
      exact q _ _ _ _ b5 hp5 (s5 _ _ (s4 _ _ (s3 _ _ k2))) ⟨by decide, by decide +kernel, by decide, by decide⟩
    · repeat walk_at "st"
      exact q _ _ _ _ b5 hp5 (s5 _ _ (s4 _ _ k3)) ⟨by decide, by decide +kernel, by decide, by decide⟩
    · repeat walk_at "st"
      exact q _ _ _ _ b5 hp5 (s5 _ _ k4) ⟨by decide, by decide +kernel, by decide, by decide⟩
  repeat walk_at "st"
  refine ⟨p, _, _, rfl, hp2, by omega, by decide, by decide, fun r3 H3 b3 hp3 l3 u3 => ?_⟩
  have q3 : Sm 20 r3 := by unfold Sm; omega
  repeat walk_at "st"
  refine ⟨p, _, _, rfl, hp3, by omega, by decide, by decide, fun r4 H4 b4 hp4 l4 u4 => ?_⟩
  repeat walk_at "st"
  refine ⟨p, _, _, rfl, hp4, by omega, by decide, by decide, fun r5 H5 b5 hp5 l5 u5 => ?_⟩
  have q5 : Sm 20 r5 := by unfold Sm; omega
  repeat walk_at "st"
  refine ⟨p, _, _, rfl, hp5, by omega, by decide, by decide, fun r6 H6 b6 hp6 l6 u6 => ?_⟩
  repeat walk_at "st"
  have m1 := Int.emod_nonneg (r3 * 44721 + r4) (show (1999999999 : Int) ≠ 0 by decide)
  have m2 := Int.emod_lt_of_pos (r3 * 44721 + r4) (show (0 : Int) < 1999999999 by decide)
  have m3 := Int.emod_nonneg (r5 * 31623 + r6) (show (999999999 : Int) ≠ 0 by decide)
  have m4 := Int.emod_lt_of_pos (r5 * 31623 + r6) (show (0 : Int) < 999999999 by decide)
  refine ⟨_, _, rfl, by omega, (show Sm 64 (1 + (r5 * 31623 + r6) % 999999999) by unfold Sm; omega).mono (by decide), fun o H7 g7 n7 e7 => ?_⟩
  refine q o _ _ _ (((((bb.trans b3).trans b4).trans b5).trans b6).trans (But.same g7)) ((hp6.same g7).mono (by omega)) e7 (fb_low (by omega) (by omega) (by omega))
theorem ok_number (F : Fn K mg "_law_number" s_number) (G_take : Kn P w K mg base 1 "_law_take" ["_law_pool_here", "_law_wide_here"] spTakeW) (z_range : mg "range" = none) : Kn P w K mg base 2 "_law_number" ["_law_pool_here"] spNum := by
  refine F.kn sc_number (fun vs H Q E h => ?_) (fun f cdv A outer s H vs Q E hr h => ?_) (fun _ _ _ _ _ _ us hl => match us, hl with | [_], _ => rfl)
  · obtain ⟨p, b, rfl, _⟩ := h
    rfl
  obtain ⟨p, b, rfl, hp, hb, q⟩ := h
  refine ⟨_, (pss_cons (ps_set (i := 1) sc_number.nd rfl (.inl rfl) (pe_kn G_take (hr.mono (by decide)) (by rfl) (pa_cons (pv 0) (pa_cons pe_int pa_nil))))
    (pss_cons (ps_if (pt_cmpR op_eq (pv 1) pe_int (nomark _))
    (pss_one (ps_ret pe_int))
    pss_nil)
    (pss_cons (ps_if (pt_cmpR op_lt (pv 1) pe_int (nomark _))
    (pss_one (ps_ret (pe_op op_sub (pe_kn G_take (hr.mono (by decide)) (by rfl) (pa_cons (pv 0) (pa_cons pe_int pa_nil))) pe_int)))
    pss_nil)
    (pss_cons (ps_if (pt_cmpR op_eq (pv 1) pe_int (nomark _))
    (pss_one (ps_ret (pe_op op_sub (pe_kn G_take (hr.mono (by decide)) (by rfl) (pa_cons (pv 0) (pa_cons pe_int pa_nil))) pe_int)))
    pss_nil)
    (pss_cons (ps_set (i := 2) sc_number.nd rfl (.inl rfl) pe_int)
    (pss_cons (ps_for PassesOwn.never rfl (pi_range1 (by rfl) z_range (pa_cons pe_int pa_nil)) (pg_name (i := 3) sc_number.nd rfl (.inl rfl))
    (pss_one (ps_set (i := 2) sc_number.nd rfl (.inl rfl) (pe_op op_add (pe_op op_mulW (pv 2) pe_int) (pe_kn G_take (hr.mono (by decide)) (by rfl) (pa_cons (pv 0) (pa_cons pe_int pa_nil)))))))
    (pss_one (ps_ret (pe_ix ix_list (pe_lst (pa_cons (pv 2) (pa_cons (pe_un un_neg (pv 2)) pa_nil))) (pe_op op_sub (pv 1) pe_int) (fun _ _ => rfl)))))))))), ?_⟩
  show (_ : TS) _ [some (.ref p), none, none, none] _
  repeat walk_at "st"
  refine ⟨p, _, _, rfl, hp, by omega, by decide, by decide, fun r H1 b1 hp1 r0 r1 => ?_⟩
  have big : (2000001 : Nat) < 10 ^ 60 := by decide
  repeat walk_at "st"
  refine r_seq ?_
  repeat walk_at "st"
  refine r_ite (fun c => ?_) (fun c => ?_)
  · repeat walk_at "st"
    exact q _ _ b1 (hp1.mono (by omega)) (by decide)
  repeat walk_at "st"
  refine r_seq ?_
  repeat walk_at "st"
  refine r_ite (fun c2 => ?_) (fun c2 => ?_)
  · repeat walk_at "st"
    refine ⟨p, _, _, rfl, hp1, by omega, by decide, by decide, fun x H2 b2 hp2 x0 x1 => ?_⟩
    repeat walk_at "st"
    exact q _ _ (b1.trans b2) (hp2.mono (by omega)) (Nat.lt_of_le_of_lt (show _ ≤ 2000001 by omega) big)
  repeat walk_at "st"
  refine r_seq ?_
  repeat walk_at "st"
  refine r_ite (fun c3 => ?_) (fun c3 => ?_)
  · repeat walk_at "st"
    refine ⟨p, _, _, rfl, hp1, by omega, by decide, by decide, fun x H2 b2 hp2 x0 x1 => ?_⟩
    repeat walk_at "st"
    exact q _ _ (b1.trans b2) (hp2.mono (by omega)) (Nat.lt_of_le_of_lt (show _ ≤ 2000001 by omega) big)
  repeat walk_at "st"
  with_reducible refine r_cut (fun σ H' => ∃ (n : Int) (y : Option V), σ = [some (.ref p), some (.int r), some (.int n), y] ∧ But p H H' ∧ Pl H' p (b + 13) ∧ 0 ≤ n ∧ n < 100000 ^ 12) ?U1 ?V1
  case V1 =>
    intro N J
    refine ⟨_, rfl, by decide, by decide, for_range (n := 12) (fun i σ H' => ∃ (n : Int) (y : Option V), σ = [some (.ref p), some (.int r), some (.int n), y] ∧ But p H H' ∧ Pl H' p (b + 1 + i) ∧ 0 ≤ n ∧ n < 100000 ^ i) ⟨0, _, rfl, b1, hp1.mono (by omega), by decide, by decide⟩ ?_ ?_⟩
    · rintro i σ H2 hi ⟨n, y, rfl, b2, hp2, n0, n1⟩
      have nb : n < 100000 ^ 12 := Int.lt_of_lt_of_le n1 (pw_le (by omega))
      repeat walk_at "st"
      have e12 : (100000 : Int) ^ 12 < 2 ^ 210 := by decide
      have sn : Sm 210 n := by unfold Sm; omega
      refine ⟨_, _, rfl, rfl, sn.cmul (n := 64) (by decide), ?_⟩
      repeat walk_at "st"
      refine ⟨p, _, _, rfl, hp2, by omega, by decide, by decide, fun x H3 b3 hp3 x0 x1 => ?_⟩
      repeat walk_at "st"
      obtain ⟨h1, h2⟩ := pw_step n0 n1 x0 x1
      exact ⟨_, _, rfl, b2.trans b3, hp3.mono (by omega), h1, h2⟩
    · rintro σ H2 ⟨n, y, rfl, b2, hp2, n0, n1⟩
      exact J _ _ ⟨n, y, rfl, b2, hp2.mono (by omega), n0, n1⟩
  rintro σ H2 ⟨n, y, rfl, b2, hp2, n0, n1⟩
  have e12 : (100000 : Int) ^ 12 = ((10 ^ 60 : Nat) : Int) := by decide
  rw [e12] at n1
  have nn : n.natAbs < 10 ^ 60 := by omega
  repeat walk_at "st"
  refine ⟨sz rfl, fun l nl => ?_⟩
  have sl := same_new nl (.lst [V.int n, .int (-n)])
  repeat walk_at "st"
  have h67 : r - 6 = 0 ∨ r - 6 = 1 := by omega
  rcases h67 with e | e
  · rw [e]
    refine r_ixL (lstOf upd_same) (v := .int n) rfl ?_
    exact q _ _ (b2.trans (But.same sl)) ((hp2.mono (by omega)).same sl) nn
  · rw [e]
    refine r_ixL (lstOf upd_same) (v := .int (-n)) rfl ?_
    exact q _ _ (b2.trans (But.same sl)) ((hp2.mono (by omega)).same sl) (by rw [Int.natAbs_neg]; exact nn)
theorem ok_terms (F : Fn K mg "_law_terms" s_terms) (G_take : Kn P w K mg base 1 "_law_take" ["_law_pool_here", "_law_wide_here"] spTakeW) (G_number : Kn P w K mg base 2 "_law_number" ["_law_pool_here"] spNum) (z_len : mg "len" = none) (z_range : mg "range" = none) (z_tuple : mg "tuple" = none) : Kn P w K mg base 3 "_law_terms" ["_law_pool_here", "_law_many", "_law_most"] (spTerms K) := by
  refine F.kn sc_terms (fun vs H Q E h => ?_) (fun f cdv A outer s H vs Q E hr h => ?_) (fun _ _ _ _ _ _ us hl => match us, hl with | [_, _, _], _ => rfl)
  · obtain ⟨p, m, most, b, rfl, _⟩ := h
    rfl
  obtain ⟨p, m, most, b, rfl, hp, hb, hm, hmo, q⟩ := h
  refine ⟨_, (pss_cons (ps_set (i := 3) sc_terms.nd rfl (.inr rfl) (pe_ix ix_list (pe_lst (pa_cons pe_int (pa_cons pe_int (pa_cons pe_int (pa_cons pe_int pa_nil))))) (pe_kn G_take (hr.mono (by decide)) (by rfl) (pa_cons (pv 0) (pa_cons pe_int pa_nil))) (fun _ _ => rfl)))
    (pss_cons (ps_set (i := 4) sc_terms.nd rfl (.inl rfl) (pe_lst pa_nil))
    (pss_cons (ps_for PassesOwn.never rfl (pi_range1 (by rfl) z_range (pa_cons (pe_kn G_take (hr.mono (by decide)) (by rfl) (pa_cons (pv 0) (pa_cons (pe_op op_add (pv 2) pe_int) pa_nil))) pa_nil)) (pg_name (i := 5) sc_terms.nd rfl (.inl rfl))
    (pss_cons (ps_set (i := 6) sc_terms.nd rfl (.inl rfl) (pe_kn G_take (hr.mono (by decide)) (by rfl) (pa_cons (pv 0) (pa_cons pe_int pa_nil))))
    (pss_cons (ps_set (i := 7) sc_terms.nd rfl (.inl rfl) (pe_kn G_number (hr.mono (by decide)) (by rfl) (pa_cons (pv 0) pa_nil)))
    (pss_cons (ps_set (i := 8) sc_terms.nd rfl (.inl rfl) (pe_tupleOf (by rfl) z_tuple (pe_lc (own := [("_law_at", 9)]) (g := gName 9) (by rfl) sc_terms.nd (pi_range1 (by rfl) z_range (pa_cons (pv 1) pa_nil)) (blkOk_by (own := [("_law_at", 9)]) (N := ["_law_pool_here", "_law_many", "_law_most", "_law_wide_here", "_law_terms_here", "_law_k", "_law_again", "_law_number_here", "_law_powers", "_law_at", "_law_had"]) (sc := (defScope s_terms)) (by decide +kernel)) (fun _ _ _ _ _ => pg_name (i := 9) sc_terms.nd rfl (.inl rfl)) (fun _ _ _ _ _ => pts_nil) (fun _ _ _ _ _ => (pe_kn G_take (hr.mono (by decide)) (by rfl) (pa_cons (pv 0) (pa_cons (pv 3) pa_nil)))))))
    (pss_cons (ps_if (PW.pt (pw_and (pt_cmpR op_eq (pv 6) pe_int (nomark _)) (pw_and1 (pt_cmpR op_gt (pe_callB call_len_seq (by rfl) z_len (by decide +kernel) (pa_cons (pv 4) pa_nil)) pe_int (nomark _)))))
    (pss_cons (ps_asg (pe_ix ix_list (pv 4) (pe_kn G_take (hr.mono (by decide)) (by rfl) (pa_cons (pv 0) (pa_cons (pe_callB call_len_seq (by rfl) z_len (by decide +kernel) (pa_cons (pv 4) pa_nil)) pa_nil))) (fun _ _ => rfl)) (pg_tup (by rfl) (pgs_cons (pg_name (i := 8) sc_terms.nd rfl (.inl rfl)) (pgs_cons (pg_name (i := 10) sc_terms.nd rfl (.inl rfl)) pgs_nil))))
    (pss_one (ps_set (i := 7) sc_terms.nd rfl (.inl rfl) (pe_ix ix_list (pe_lst (pa_cons (pe_un un_neg (pv 10)) (pa_cons (pv 10) (pa_cons (pv 7) pa_nil)))) (pe_kn G_take (hr.mono (by decide)) (by rfl) (pa_cons (pv 0) (pa_cons pe_int pa_nil))) (fun _ _ => rfl)))))
    pss_nil)
    (pss_one (ps_expr (pe_bm PySem.F.plainAttrs_list PySem.F.slot_list_append PySem.F.type_list_append mt_append (pv 4) (pa_cons (pe_tup (pa_cons (pv 8) (pa_cons (pv 7) pa_nil))) pa_nil)))))))))
    (pss_one (ps_ret (pv 4)))))), ?_⟩
  show (_ : TS) _ [some (.ref p), some (.int (m : Int)), some (.int (most : Int)), none, none, none, none, none, none, none, none] _
  repeat walk_at "st"
  refine ⟨sz rfl, fun L nL => ?_⟩
  have sL := same_new nL (.lst [V.int 2, .int 3, .int 4, .int 13])
  have eL : upd H L (.lst [V.int 2, .int 3, .int 4, .int 13]) L = some (.lst [V.int 2, .int 3, .int 4, .int 13]) := upd_same
  have nLp := hp.ne2 nL
  generalize upd H L (.lst [V.int 2, .int 3, .int 4, .int 13]) = H1 at *
  repeat walk_at "st"
  refine ⟨p, _, _, rfl, hp.same sL, by omega, by decide, by decide, fun r H2 b2 hp2 r0 r1 => ?_⟩
  obtain ⟨wd, aw, w1, w2⟩ : ∃ wd : Int, atI [V.int 2, .int 3, .int 4, .int 13] r = some (.int wd) ∧ 1 ≤ wd ∧ wd ≤ 13 := by
    have : r = 0 ∨ r = 1 ∨ r = 2 ∨ r = 3 := by omega
    rcases this with rfl | rfl | rfl | rfl
    all_goals exact ⟨_, rfl, by decide, by decide⟩
  refine r_ixL (lstOf (b2 _ _ (Ne.symm nLp) eL)) aw ?_
  have g2 : But p H H2 := (But.same sL).trans b2
  clear sL eL b2 nL nLp aw
  repeat walk_at "st"
  refine ⟨sz rfl, fun T nT => ?_⟩
  have sT := same_new nT (.lst [])
  have eT : upd H2 T (.lst []) T = some (.lst []) := upd_same
  have nTp := hp2.ne2 nT
  have nT0 := but_free g2 hp2 nT
  have g3 : But p H (upd H2 T (.lst [])) := but_updR g2 nT0
  have hp3 := hp2.same sT
  generalize upd H2 T (.lst []) = H3 at *
  repeat walk_at "st"
  with_reducible refine r_cut (fun σ H' => ∃ (y5 y6 y7 y8 y9 y10 : Option V) (us : List V) (ts : List Trm), σ = [some (.ref p), some (.int (m : Int)), some (.int (most : Int)), some (.int wd), some (.ref T), y5, y6, y7, y8, y9, y10] ∧ But p H H' ∧ Pl H' p (b + 3000) ∧ H' T = some (.lst us) ∧ Tms H' us ts ∧ OkT m 12 ts ∧ ts.length ≤ most ∧ ∀ t ∈ ts, t.2.natAbs < 10 ^ 60) ?U1 ?V1
  case V1 =>
    intro N J
    unfold tFor iRng1
    repeat walk_at "st"
    refine ⟨p, _, _, rfl, hp3, by omega, by omega, by omega, fun k H4 b4 hp4 k0 k1 => ?_⟩
    refine ⟨k, rfl, by omega, by omega, ?_⟩
    refine for_range (n := k.toNat) (fun i σ H' => ∃ (y5 y6 y7 y8 y10 : Option V) (us : List V) (ts : List Trm), σ = [some (.ref p), some (.int (m : Int)), some (.int (most : Int)), some (.int wd), some (.ref T), y5, y6, y7, y8, none, y10] ∧ But p H H' ∧ Pl H' p (b + 2 + 30 * i) ∧ H' T = some (.lst us) ∧ Tms H' us ts ∧ OkT m 12 ts ∧ ts.length ≤ i ∧ ∀ t ∈ ts, t.2.natAbs < 10 ^ 60) ⟨_, _, _, _, _, [], [], rfl, g3.trans b4, hp4.mono (by omega), b4 _ _ (Ne.symm nTp) eT, .nil, (fun t ht => by cases ht), by decide, fun t ht => by cases ht⟩ ?_ ?_
    · rintro i σ H5 hi ⟨y5, y6, y7, y8, y10, us, ts, rfl, g5, hp5, e5, tm5, ok5, l5, n5⟩
      have ln : us.length = ts.length := Paired.length tm5
      repeat walk_at "st"
      refine ⟨p, _, _, rfl, hp5, by omega, by decide, by decide, fun ag H6 b6 hp6 a0 a1 => ?_⟩
      repeat walk_at "st"
      refine ⟨p, _, rfl, hp6, by omega, fun nu H7 b7 hp7 nn => ?_⟩
      have g7 := b6.trans b7
      have e7 := g7 _ _ (Ne.symm nTp) e5
      have tm7 := tm5.tmk ((Kt.but b6 hp5).trans (Kt.but b7 hp6))
      repeat walk_at "st"
      refine r_then ?_
      refine ⟨.int (m : Int), rfl, (m : Int), rfl, by omega, by omega, fun D hD => ?_⟩
      have em : ((m : Int)).toNat = m := by omega
      rw [em]
      refine lc_range (n := m) (fun j H' => ∃ ks : List Int, But p H5 H' ∧ Pl H' p (b + 2 + 30 * i + 15 + j) ∧ H' D = some (.lst (ks.map V.int)) ∧ ks.length = j ∧ (∀ x ∈ ks, 0 ≤ x ∧ x ≤ 12) ∧ H' T = some (.lst us) ∧ Tms H' us ts) ?_ ?_ ?_
      · have nDT : T ≠ D := fun e => by rw [e, hD] at e7; cases e7
        exact ⟨[], but_updR g7 (but_free g7 hp7 hD), (hp7.updR (hp7.ne2 hD)).mono (by omega), upd_same, rfl, (fun x hx => by cases hx), by rw [upd_ne nDT]; exact e7, tm7.tmk (Kt.same (same_new hD _))⟩
      · rintro j H8 hj ⟨ks, g8, hp8, d8, lk, ok8, e8, tm8⟩
        have nDp := hp7.ne2 hD
        refine ⟨rfl, ?_⟩
        refine r_yes ?_
        refine r_T ?_
        show tCall _ _ _ _ [some (.ref p), some (.int (m : Int)), some (.int (most : Int)), some (.int wd), some (.ref T), _, _, _, _, some (.int (0 + (j : Int))), _] _ _
        repeat walk_at "st"
        refine ⟨p, _, _, rfl, hp8, by omega, by omega, by omega, fun x H9 b9 hp9 x0 x1 => ?_⟩
        have d9 := b9 _ _ (Ne.symm nDp) d8
        have nDT : T ≠ D := fun e => by rw [e, hD] at e7; cases e7
        have nD5 : H5 D = none := but_free g7 hp7 hD
        refine ⟨_, d9, by rw [List.length_map]; exact Nat.lt_of_le_of_lt (show ks.length ≤ 1000 by omega) (by decide), ks ++ [x], but_updR (g8.trans b9) nD5, (hp9.updR nDp).mono (by omega), by rw [List.map_append]; exact upd_same, by simp [lk], fun y hy => ?_, by rw [upd_ne nDT]; exact b9 _ _ (Ne.symm nTp) e8, (tm8.tmk (Kt.but b9 hp8)).tmk (Kt.lst d9)⟩
        rcases List.mem_append.mp hy with hy | hy
        · exact ok8 y hy
        · rw [List.mem_singleton.mp hy]
          omega
      · rintro H8 ⟨ks, g8, hp8, d8, lk, ok8, e8, tm8⟩
        refine .inl ⟨D, _, rfl, lstOf d8, fun q0 nq0 => ?_⟩
        have sq := same_new nq0 (.tup (ks.map V.int))
        have pq : Pw (upd H8 q0 (.tup (ks.map V.int))) q0 ks := upd_same
        have nq5 := but_free g8 hp8 nq0
        have g9 : But p H5 (upd H8 q0 (.tup (ks.map V.int))) := but_updR g8 nq5
        have hp9 := hp8.same sq
        have e9 := sq _ _ e8
        have tm9 := tm8.tmk (Kt.same sq)
        generalize upd H8 q0 (.tup (ks.map V.int)) = H9 at *
        repeat walk_at "st"
        with_reducible refine r_cut (fun σ H' => ∃ (t : Trm) (qa : Addr) (y10 : Option V), σ = [some (.ref p), some (.int (m : Int)), some (.int (most : Int)), some (.int wd), some (.ref T), some (.int (0 + (i : Int))), some (.int ag), some (.int t.2), some (.ref qa), none, y10] ∧ But p H5 H' ∧ Pl H' p (b + 2 + 30 * i + 28) ∧ H' T = some (.lst us) ∧ Tms H' us ts ∧ Pw H' qa t.1 ∧ t.1.length = m ∧ (∀ x ∈ t.1, 0 ≤ x ∧ x ≤ 12) ∧ t.2.natAbs < 10 ^ 60) ?U2 ?V2
        case V2 =>
          intro N' J'
          have plain : ∀ (y : Option V), N' [some (.ref p), some (.int (m : Int)), some (.int (most : Int)), some (.int wd), some (.ref T), some (.int (0 + (i : Int))), some (.int ag), some (.int nu), some (.ref q0), none, y] H9 := fun y => J' _ _ ⟨(ks, nu), q0, y, rfl, g9, hp9.mono (by omega), e9, tm9, pq, lk, ok8, nn⟩
          repeat walk_at "st"
          refine r_ite (fun c => ?_) (fun c => ?_)
          · repeat walk_at "st"
            refine ⟨T, _, rfl, .inl (lstOf e9), ?_⟩
            repeat walk_at "st"
            refine r_ite (fun c2 => ?_) (fun c2 => ?_)
            · repeat walk_at "st"
              refine ⟨T, _, rfl, .inl (lstOf e9), ?_⟩
              repeat walk_at "st"
              refine ⟨p, _, _, rfl, hp9, by omega, by omega, by omega, fun at_ H10 b10 hp10 at0 at1 => ?_⟩
              obtain ⟨j, rfl⟩ : ∃ j : Nat, at_ = (j : Int) := ⟨at_.toNat, by omega⟩
              have hj : j < us.length := by omega
              have hu : us[j]? = some us[j] := List.getElem?_eq_getElem hj
              have e10 := b10 _ _ (Ne.symm nTp) e9
              have kt10 := Kt.but b10 hp9
              have tm10 := tm9.tmk kt10
              obtain ⟨t, ht, ta, qa, hv, tt, pw⟩ := tm10.at hu
              have htm := List.mem_of_getElem? ht
              repeat walk_at "st"
              refine r_ixL (lstOf e10) (atI_nat hu) ?_
              rw [hv]
              refine r_gT (tupOf tt) rfl ?_
              refine r_g2 ?_
              repeat walk_at "st"
              refine ⟨sz rfl, fun l3 n3 => ?_⟩
              have s3 := same_new n3 (.lst [V.int (-t.2), .int t.2, .int nu])
              have k3 : upd H10 l3 (.lst [V.int (-t.2), .int t.2, .int nu]) l3 = some (.lst [V.int (-t.2), .int t.2, .int nu]) := upd_same
              have n3p := hp10.ne2 n3
              have n35 := but_free (g9.trans b10) hp10 n3
              have g11 : But p H5 (upd H10 l3 (.lst [V.int (-t.2), .int t.2, .int nu])) := but_updR (g9.trans b10) n35
              have hp11 := hp10.same s3
              have e11 := s3 _ _ e10
              have tm11 := tm10.tmk (Kt.same s3)
              have pw11 : Pw _ qa t.1 := s3 _ _ pw
              generalize upd H10 l3 (.lst [V.int (-t.2), .int t.2, .int nu]) = H11 at *
              repeat walk_at "st"
              refine ⟨p, _, _, rfl, hp11, by omega, by decide, by decide, fun r3 H12 b12 hp12 r30 r31 => ?_⟩
              obtain ⟨nv, an, hn⟩ : ∃ nv : Int, atI [V.int (-t.2), .int t.2, .int nu] r3 = some (.int nv) ∧ nv.natAbs < 10 ^ 60 := by
                have h1 := n5 t htm
                have : r3 = 0 ∨ r3 = 1 ∨ r3 = 2 := by omega
                rcases this with rfl | rfl | rfl
                · exact ⟨_, rfl, by rw [Int.natAbs_neg]; exact h1⟩
                · exact ⟨_, rfl, h1⟩
                · exact ⟨_, rfl, nn⟩
              refine r_ixL (lstOf (b12 _ _ (Ne.symm n3p) k3)) an ?_
              repeat walk_at "st"
              have kt12 := Kt.but b12 hp11
              exact J' _ _ ⟨(t.1, nv), qa, _, rfl, g11.trans b12, hp12.mono (by omega), b12 _ _ (Ne.symm nTp) e11, tm11.tmk kt12, kt12 _ _ pw11, (ok5 t htm).1, (ok5 t htm).2, hn⟩
            · repeat walk_at "st"
              exact plain _
          · repeat walk_at "st"
            exact plain _
        rintro σ H10 ⟨t, qa, y10', rfl, g10, hp10, e10, tm10, pw10, lt, okt, nt⟩
        repeat walk_at "st"
        refine r_bm ?_
        repeat walk_at "st"
        refine ⟨.inl ⟨rfl, _, lstOf e10⟩, ?_⟩
        repeat walk_at "st"
        refine ⟨sz rfl, fun a na => ?_⟩
        have sa := same_new na (.tup [V.ref qa, .int t.2])
        have ta : upd H10 a (.tup [V.ref qa, .int t.2]) a = some (.tup [V.ref qa, .int t.2]) := upd_same
        have na5 := but_free g10 hp10 na
        have g11 : But p H5 (upd H10 a (.tup [V.ref qa, .int t.2])) := but_updR g10 na5
        have e11 := sa _ _ e10
        have tm11 := tm10.tmk (Kt.same sa)
        have pw11 : Pw _ qa t.1 := sa _ _ pw10
        have hp11 := hp10.same sa
        generalize upd H10 a (.tup [V.ref qa, .int t.2]) = H11 at *
        repeat walk_at "st"
        refine ⟨T, _, .ref a, rfl, rfl, e11, by rw [ln]; exact Nat.lt_of_le_of_lt (show ts.length ≤ 1000 by omega) (by decide), ?_⟩
        have kt : Kt H11 (upd H11 T (.lst (us ++ [.ref a]))) := Kt.lst e11
        refine ⟨_, _, _, _, _, us ++ [.ref a], ts ++ [t], rfl, but_updR ((g5.trans g11)) nT0, (hp11.updR nTp).mono (by omega), upd_same, tms_snoc (tm11.tmk kt) ⟨a, qa, rfl, kt _ _ ta, kt _ _ pw11⟩, ?_, by simp; omega, ?_⟩
        · intro t' ht'
          rcases List.mem_append.mp ht' with ht' | ht'
          · exact ok5 t' ht'
          · rw [List.mem_singleton.mp ht']
            exact ⟨lt, okt⟩
        · intro t' ht'
          rcases List.mem_append.mp ht' with ht' | ht'
          · exact n5 t' ht'
          · rw [List.mem_singleton.mp ht']
            exact nt
    · rintro σ H5 ⟨y5, y6, y7, y8, y10, us, ts, rfl, g5, hp5, e5, tm5, ok5, l5, n5⟩
      exact J _ _ ⟨_, _, _, _, _, _, us, ts, rfl, g5, hp5.mono (by omega), e5, tm5, ok5, by omega, n5⟩
  rintro σ H5 ⟨y5, y6, y7, y8, y9, y10, us, ts, rfl, g5, hp5, e5, tm5, ok5, l5, n5⟩
  repeat walk_at "st"
  exact q T us ts H5 g5 hp5 nT0 e5 tm5 ok5 l5 n5
theorem ok_gather (F : Fn K mg "_law_gather" s_gather) (z_sorted : mg "sorted" = none) (z_tuple : mg "tuple" = none) : Kn P w K mg base 1 "_law_gather" ["_law_terms_here"] (spSummed K) := by
  refine F.kn sc_gather (fun vs H Q E h => ?_) (fun f cdv A outer s H vs Q E hr h => ?_) (fun _ _ _ _ _ _ us hl => match us, hl with | [_], _ => rfl)
  · obtain ⟨l, us, ts, m, c, rfl, _⟩ := h
    rfl
  obtain ⟨l, us, ts, m, c, rfl, hl, tm, ok, h4, q⟩ := h
  have ln : us.length = ts.length := Paired.length tm
  refine ⟨_, (pss_cons (ps_set (i := 1) sc_gather.nd rfl (.inr rfl) pe_dnewT)
    (pss_cons (ps_for PassesOwn.never rfl (pi_list (pv 0)) (pg_tup (by rfl) (pgs_cons (pg_name (i := 2) sc_gather.nd rfl (.inl rfl)) (pgs_cons (pg_name (i := 3) sc_gather.nd rfl (.inl rfl)) pgs_nil)))
    (pss_one (ps_dput (u1 hr.units) (pv 1) (pv 2) (pe_op op_add (pe_dget2 (u1 hr.units) (pv 1) (pv 2) pe_int ⟨by rfl, by rfl, by rfl, by rfl⟩) (pv 3)) (by rfl))))
    (pss_one (ps_ret (pe_tupleOf (by rfl) z_tuple (pe_lc (own := [("_law_powers", 2)]) (g := gName 2) (by rfl) sc_gather.nd (pi_list (pe_callB (cr_sortedDT (by rfl)) (by rfl) z_sorted (by decide +kernel) (pa_cons (pv 1) pa_nil))) (blkOk_by (own := [("_law_powers", 2)]) (N := ["_law_terms_here", "_law_kept", "_law_powers", "_law_number_here"]) (sc := (defScope s_gather)) (by decide +kernel)) (fun _ _ _ _ _ => pg_name (i := 2) sc_gather.nd rfl (.inl rfl)) (fun _ _ _ _ _ => pts_one (pt_cmpR op_ne (pe_dget (u1 hr.units) (pv 1) (pv 2) (fun _ _ => rfl)) pe_int (nomark _))) (fun _ _ _ _ _ => (pe_tup (pa_cons (pv 2) (pa_cons (pe_dget (u1 hr.units) (pv 1) (pv 2) (fun _ _ => rfl)) pa_nil)))))))))), ?_⟩
  show (_ : TS) _ [some (.ref l), none, none, none] _
  repeat walk_at "st"
  refine fun D nD => ?_
  have sD := same_new nD (.dT [])
  have eD : upd H D (.dT []) D = some (.dT (keysD (accOf []))) := upd_same
  generalize upd H D (.dT []) = H1 at *
  repeat walk_at "st"
  with_reducible refine r_cut (fun σ H' => ∃ y2 y3 : Option V, σ = [some (.ref l), some (.ref D), y2, y3] ∧ Same H H' ∧ H' D = some (.dT (keysD (accOf ts)))) ?U1 ?V1
  case V1 =>
    intro N J
    refine ⟨.ref l, rfl, l, rfl, ⟨us, sD.seq hl⟩, ?_⟩
    refine for_list (xs := us) (fun i σ H' => ∃ y2 y3 : Option V, σ = [some (.ref l), some (.ref D), y2, y3] ∧ Same H H' ∧ H' D = some (.dT (keysD (accOf (ts.take i))))) ?_ ?_ ?_ ?_
    · exact ⟨_, _, rfl, sD, by rw [List.take_zero]; exact eD⟩
    · rintro i σ H' _ ⟨_, _, _, g', _⟩
      exact g'.seq hl
    · rintro i v σ H3 hv ⟨y2, y3, rfl, g3, k3⟩
      obtain ⟨t, ht, a, p, rfl, ta, pw⟩ := tm.at hv
      have hi : i < ts.length := (List.getElem?_eq_some_iff.mp ht).1
      have e1 : ts.take (i + 1) = ts.take i ++ [t] := by rw [List.take_succ, ht, Option.toList_some]
      rw [e1, acc_snoc]
      have lM : (accOf (ts.take i)).length ≤ _ := accs_len (ts.take i) []
      rw [List.length_take] at lM
      simp only [List.length_nil] at lM
      have nd := (acc_ok (ts.take i)).nd
      generalize accOf (ts.take i) = M at *
      have pw3 := pw_key (show Pw H3 p t.1 from g3 _ _ pw)
      refine r_gT (tupOf (g3 _ _ ta)) rfl ?_
      refine r_g2 ?_
      repeat walk_at "st"
      refine r_dput ?_
      repeat walk_at "st"
      refine r_dget2 ?_
      repeat walk_at "st"
      refine ⟨D, rfl, .inr ⟨_, .inl k3⟩, ?_⟩
      repeat walk_at "st"
      refine ⟨_, .inr ⟨_, t.1.map Sum.inl, p, .inl k3, rfl, pw3, rfl⟩, ?_⟩
      rw [keysD_get nd 0]
      repeat walk_at "st"
      refine ⟨D, _, rfl, .inr ⟨_, t.1.map Sum.inl, p, k3, rfl, pw3, by unfold keysD; rw [List.length_map]; exact Nat.lt_of_le_of_lt (show M.length ≤ 4000 by omega) (by decide), rfl⟩, ?_⟩
      rw [keysD_put nd]
      exact ⟨_, _, rfl, same_updS g3 nD, upd_same⟩
    · rintro σ H3 ⟨y2, y3, rfl, g3, k3⟩
      rw [ln, List.take_length] at k3
      exact J _ _ ⟨_, _, rfl, g3, k3⟩
  rintro σ H3 ⟨y2, y3, rfl, g3, k3⟩
  repeat walk_at "st"
  refine r_then ?_
  refine r_lcM ?_
  repeat walk_at "st"
  refine ⟨D, _, (accOf ts).map (·.1), rfl, k3, keysD_keys, few_keys ok, fun ls qs p hp hs np hq => ?_⟩
  obtain ⟨H4, e4, s4, k4⟩ := nw np (.lst (qs.map V.ref))
  rw [← e4]
  clear e4
  have l4 : (accOf ts).length ≤ _ := accs_len ts []
  simp only [List.length_nil] at l4
  have l5 : ls.length ≤ 10000 := by
    rw [hp.length_eq, List.length_map]
    omega
  refine lc_form (sumK ts) (lstOf k4) l5 (fun _ => rfl) (Paired.mapP hq fun q k h => s4 _ _ h) (fun q k H' hk pw g R kk => ?_) (fun q k H' hk pw g R kk => ?_) fun D2 us2 H5 s5 n5 e5 tm5 => ?_
  · have dg : DGet H' D (.ref q) (some (.int (sumK ts k))) := by
      have := keysD_val (ts := ts) (k := k) (hp.mem_iff.mp hk)
      exact .inr ⟨_, k.map Sum.inl, q, .inl (g _ _ (s4 _ _ k3)), rfl, pw_key pw, this.symm⟩
    show tTest _ [some (.ref l), some (.ref D), some (.ref q), y3] H' R
    repeat walk_at "st"
    refine r_dg ?_
    repeat walk_at "st"
    refine ⟨D, _, rfl, dg, ?_⟩
    repeat walk_at "st"
    exact kk H' (Same.refl _)
  · have dg : DGet H' D (.ref q) (some (.int (sumK ts k))) := by
      have := keysD_val (ts := ts) (k := k) (hp.mem_iff.mp hk)
      exact .inr ⟨_, k.map Sum.inl, q, .inl (g _ _ (s4 _ _ k3)), rfl, pw_key pw, this.symm⟩
    show tTup _ [some (.ref l), some (.ref D), some (.ref q), y3] H' R
    repeat walk_at "st"
    refine r_dg ?_
    repeat walk_at "st"
    refine ⟨D, _, rfl, dg, ?_⟩
    repeat walk_at "st"
    refine ⟨sz rfl, fun a na => ?_⟩
    exact kk a _ (same_new na _) upd_same
  refine .inl ⟨D2, us2, rfl, lstOf e5, fun f nf => ?_⟩
  have s6 := same_new nf (.tup us2)
  exact q f _ _ (g3.trans (s4.trans (s5.trans s6))) (((g3.trans s4).trans s5).free nf) ⟨us2, upd_same, tm5.tmk (Kt.same s6)⟩ (fm_of hp hs)
theorem ok_power (F : Fn K mg "_law_power" s_power) (z_range : mg "range" = none) : Kn P w K mg base 1 "_law_power" ["_law_number_here", "_law_count"] spPow := by
  refine F.kn sc_power (fun vs H Q E h => ?_) (fun f cdv A outer s H vs Q E hr h => ?_) (fun _ _ _ _ _ _ us hl => match us, hl with | [_, _], _ => rfl)
  · obtain ⟨n, k, B, rfl, _⟩ := h
    rfl
  obtain ⟨n, k, B, rfl, sn, hB, hB1, hk, q⟩ := h
  refine ⟨_, (pss_cons (ps_set (i := 2) sc_power.nd rfl (.inl rfl) pe_int)
    (pss_cons (ps_for PassesOwn.never rfl (pi_range1 (by rfl) z_range (pa_cons (pv 1) pa_nil)) (pg_name (i := 3) sc_power.nd rfl (.inl rfl))
    (pss_one (ps_set (i := 2) sc_power.nd rfl (.inl rfl) (pe_op op_mulW (pv 2) (pv 0)))))
    (pss_one (ps_ret (pv 2))))), ?_⟩
  show (_ : TS) _ [some (.int n), some (.int (k : Int)), none, none] _
  repeat walk_at "st"
  with_reducible refine r_cut (fun σ H' => ∃ y : Option V, σ = [some (.int n), some (.int (k : Int)), some (.int (n ^ k)), y] ∧ H' = H) ?U1 ?V1
  case V1 =>
    intro N J
    refine ⟨.int (k : Int), rfl, (k : Int), rfl, by omega, by omega, ?_⟩
    rw [show ((k : Int)).toNat = k from by omega]
    refine for_range (n := k) (fun i σ H' => ∃ y : Option V, σ = [some (.int n), some (.int (k : Int)), some (.int (n ^ i)), y] ∧ H' = H) ⟨_, by rw [Int.pow_zero], rfl⟩ ?_ ?_
    · rintro i σ H' hi ⟨y, rfl, rfl⟩
      repeat walk_at "st"
      refine ⟨_, _, rfl, rfl, Sm.cmul (m := B * i + 1) (n := B) (sn.pow i) sn (by omega) (by omega) (by have : B * i ≤ 10000 * 50 := Nat.mul_le_mul hB (by omega); omega), ?_⟩
      repeat walk_at "st"
      exact ⟨_, by rw [Int.pow_succ], rfl⟩
    · rintro σ H' ⟨y, rfl, rfl⟩
      exact J _ _ ⟨_, rfl, rfl⟩
  rintro σ H' ⟨y, rfl, rfl⟩
  repeat walk_at "st"
  exact q
theorem ok_l_worth (F : Fn K mg "_law_worth" s_l_worth) (G_power : Kn P w K mg base 1 "_law_power" ["_law_number_here", "_law_count"] spPow) (z_len : mg "len" = none) (z_range : mg "range" = none) (z_max : mg "max" = none) : Kn P w K mg base 2 "_law_worth" ["_law_form", "_law_numbers_here"] (spLWorth K) := by
  refine F.kn sc_l_worth (fun vs H Q E h => ?_) (fun f cdv A outer s H vs Q E hr h => ?_) (fun _ _ _ _ _ _ us hl => match us, hl with | [_, _], _ => rfl)
  · obtain ⟨f, l, Fo, ws, rs, m, S, b, c, rfl, _⟩ := h
    rfl
  obtain ⟨f, l, Fo, ws, rs, m, S, b, c, rfl, hf, ok, hc, hc2, hl, sF, hL, fr, hm, hm2, hb, hS, hb2, hb1, q⟩ := h
  obtain ⟨us, ef, tF⟩ := id hf
  have l1 := Paired.length tF
  have lW := Paired.length fr
  refine ⟨_, (pss_cons (ps_setLc (i := 2) (own := [("_law_k", 5)]) (g := gName 5) (by rfl) sc_l_worth.nd rfl rfl (sw_true rfl rfl rfl (by decide +kernel)) (pi_range1 (by rfl) z_range (pa_cons (pe_callB call_len_seq (by rfl) z_len (by decide +kernel) (pa_cons (pv 1) pa_nil)) pa_nil)) (blkOk_by (own := [("_law_k", 5)]) (N := ["_law_form", "_law_numbers_here", "_law_most", "_law_powers", "_law_number_here", "_law_k", "_law_top", "_law_part", "_law_bottom"]) (sc := (defScope s_l_worth)) (by decide +kernel)) (fun _ _ _ _ _ => pg_name (i := 5) sc_l_worth.nd rfl (.inr rfl)) (fun _ _ _ _ _ => pts_nil) (fun _ _ _ _ _ => (pe_callB (show CallR _ (.builtin "max") (rMax K) from cr_max (by rfl)) (by rfl) z_max (by decide +kernel) (pa_cons (pe_op op_cat (pe_lst (pa_cons pe_int pa_nil)) (pe_lc (own := [("_law_powers", 3), ("_law_number_here", 4)]) (g := gTup K 2 (gCons (gName 3) (gCons (gName 4) gNil))) (by rfl) sc_l_worth.nd (show PI _ _ _ (iTup K _) from pi_tup (pv 0)) (blkOk_by (own := [("_law_powers", 3), ("_law_number_here", 4)]) (N := ["_law_form", "_law_numbers_here", "_law_most", "_law_powers", "_law_number_here", "_law_k", "_law_top", "_law_part", "_law_bottom"]) (sc := ({ kind := .function, names := [(".0", .local), ("_law_k", .cell), ("max", .globalImplicit), ("_law_form", .cell)], isGenerator := false, isCoroutine := false } : Scope)) (by decide +kernel)) (fun _ _ _ _ _ => pg_tup (by rfl) (pgs_cons (pg_name (i := 3) sc_l_worth.nd rfl (.inl rfl)) (pgs_cons (pg_name (i := 4) sc_l_worth.nd rfl (.inl rfl)) pgs_nil))) (fun _ _ _ _ _ => pts_nil) (fun _ _ _ _ _ => (pe_ix (show IxR _ (rIxT K) from ix_tup) (pv 3) (pv 5) (fun _ _ => rfl))))) pa_nil))))
    (pss_cons (ps_set (i := 6) sc_l_worth.nd rfl (.inl rfl) pe_int)
    (pss_cons (ps_for PassesOwn.never rfl (pi_tup (pv 0)) (pg_tup (by rfl) (pgs_cons (pg_name (i := 3) sc_l_worth.nd rfl (.inl rfl)) (pgs_cons (pg_name (i := 4) sc_l_worth.nd rfl (.inl rfl)) pgs_nil)))
    (pss_cons (ps_set (i := 7) sc_l_worth.nd rfl (.inl rfl) (pv 4))
    (pss_cons (ps_for PassesOwn.never rfl (pi_range1 (by rfl) z_range (pa_cons (pe_callB call_len_seq (by rfl) z_len (by decide +kernel) (pa_cons (pv 1) pa_nil)) pa_nil)) (pg_name (i := 5) sc_l_worth.nd rfl (.inl rfl))
    (pss_cons (ps_set (i := 7) sc_l_worth.nd rfl (.inl rfl) (pe_op op_mulW (pv 7) (pe_kn G_power (hr.mono (by decide)) (by rfl) (pa_cons (pe_ix ix_tup (pe_ix ix_list (pv 1) (pv 5) (fun _ _ => rfl)) pe_int (fun _ _ => rfl)) (pa_cons (pe_ix ix_tup (pv 3) (pv 5) (fun _ _ => rfl)) pa_nil)))))
    (pss_one (ps_set (i := 7) sc_l_worth.nd rfl (.inl rfl) (pe_op op_mulW (pv 7) (pe_kn G_power (hr.mono (by decide)) (by rfl) (pa_cons (pe_ix ix_tup (pe_ix ix_list (pv 1) (pv 5) (fun _ _ => rfl)) pe_int (fun _ _ => rfl)) (pa_cons (pe_op op_sub (pe_ix ix_list (pv 2) (pv 5) (fun _ _ => rfl)) (pe_ix ix_tup (pv 3) (pv 5) (fun _ _ => rfl))) pa_nil))))))))
    (pss_one (ps_set (i := 6) sc_l_worth.nd rfl (.inl rfl) (pe_op op_add (pv 6) (pv 7)))))))
    (pss_cons (ps_set (i := 8) sc_l_worth.nd rfl (.inl rfl) pe_int)
    (pss_cons (ps_for PassesOwn.never rfl (pi_range1 (by rfl) z_range (pa_cons (pe_callB call_len_seq (by rfl) z_len (by decide +kernel) (pa_cons (pv 1) pa_nil)) pa_nil)) (pg_name (i := 5) sc_l_worth.nd rfl (.inl rfl))
    (pss_one (ps_set (i := 8) sc_l_worth.nd rfl (.inl rfl) (pe_op op_mulW (pv 8) (pe_kn G_power (hr.mono (by decide)) (by rfl) (pa_cons (pe_ix ix_tup (pe_ix ix_list (pv 1) (pv 5) (fun _ _ => rfl)) pe_int (fun _ _ => rfl)) (pa_cons (pe_ix ix_list (pv 2) (pv 5) (fun _ _ => rfl)) pa_nil)))))))
    (pss_one (ps_ret (pe_tup (pa_cons (pv 6) (pa_cons (pv 8) pa_nil)))))))))), ?_⟩
  show (_ : TS) _ [some (.ref f), some (.ref l), none, none, none, none, none, none, none] _
  repeat walk_at "st"
  refine r_lcR ?_
  repeat walk_at "st"
  refine ⟨l, _, rfl, .inl hL, ?_⟩
  repeat walk_at "st"
  rw [lW, hm]
  refine ⟨(m : Int), rfl, by omega, by omega, fun D hD => ?_⟩
  rw [show ((m : Int)).toNat = m from by omega]
  refine lc_range (n := m) (fun k H' => ∃ ms : List Nat, Same H H' ∧ H' D = some (.lst (ms.map fun n : Nat => V.int (n : Int))) ∧ ms.length = k ∧ (∀ x ∈ ms, (x : Int) ≤ c) ∧ ∀ (j x : Nat), ms[j]? = some x → ∀ t ∈ Fo, t.1.getD j 0 ≤ (x : Int)) ⟨[], same_new hD _, upd_same, rfl, (fun x hx => by cases hx), fun j x hx => by simp at hx⟩ ?_ ?_
  · rintro k H1 hk ⟨ms, g1, d1, lms, mle, mall⟩
    refine ⟨rfl, ?_⟩
    refine r_yes ?_
    refine r_T ?_
    rw [Int.zero_add]
    show tCB _ _ [some (.ref f), some (.ref l), none, none, none, some (.int (k : Int)), none, none, none] H1 _
    repeat walk_at "st"
    refine ⟨sz rfl, fun Z nZ => ?_⟩
    obtain ⟨H2, e2, s2, k2⟩ := nw nZ (.lst [V.int 0])
    rw [← e2]
    clear e2
    obtain ⟨us2, ef2, tF2⟩ := hf.kt (Kt.same (g1.trans s2))
    repeat walk_at "st"
    refine r_lcT ?_
    repeat walk_at "st"
    refine lc_terms (fun _ v t => v = .int (t.1.getD k 0)) (fun _ h => h) ef2 tF2 (by omega) (fun _ _ => rfl) (fun t q' H' ht g pw S' kk => ?_) fun D2 vs H3 s3 n3 e3 pr => ?_
    · have la : k < t.1.length := by rw [(ok t ht).1]; exact hk
      obtain ⟨gm, ga⟩ := getD_at la
      repeat walk_at "st"
      refine r_ixT (tupOf pw) ga ?_
      exact kk _ H' (Same.refl _) rfl
    have ev : vs = (Fo.map fun t => t.1.getD k 0).map V.int := by
      clear e3 n3 s3 q hl ok tF2 ef2 hf mall tF l1 ef sF
      induction pr with
      | nil => rfl
      | cons h _ ih => rw [h, ih]; rfl
    rw [ev] at e3
    refine Mb.r_catL (s3 _ _ k2) e3 (by rw [List.length_map, List.length_map]; exact Nat.le_of_lt (Nat.lt_of_le_of_lt (show _ ≤ 10000 by simp; omega) (by decide))) fun p H4 s4 e4 => ?_
    have e4' : H4 p = some (.lst (((0 : Int) :: Fo.map fun t => t.1.getD k 0).map V.int)) := e4
    repeat walk_at "st"
    refine ⟨p, _, rfl, lstOf e4', by simp, fun mx hmx hle => ?_⟩
    have m0 : 0 ≤ mx := hle 0 List.mem_cons_self
    have mc : mx ≤ c := by
      rcases List.mem_cons.mp hmx with h | h
      · omega
      · obtain ⟨t, ht, rfl⟩ := List.mem_map.mp h
        have la : k < t.1.length := by rw [(ok t ht).1]; exact hk
        exact ((ok t ht).2 _ (getD_at la).1).2
    obtain ⟨mn, rfl⟩ : ∃ mn : Nat, mx = (mn : Int) := ⟨mx.toNat, by omega⟩
    have g4 := (s2.trans s3).trans s4
    have d4 := g4 _ _ d1
    refine ⟨_, d4, by rw [List.length_map]; exact Nat.lt_of_le_of_lt (show _ ≤ 1000 by omega) (by decide), ms ++ [mn], same_updS (g1.trans g4) hD, ?_, by simp [lms], fun x hx => ?_, fun j x hx t ht => ?_⟩
    · rw [upd_same, List.map_append]
      rfl
    · rcases List.mem_append.mp hx with hx | hx
      · exact mle x hx
      · rw [List.mem_singleton.mp hx]; exact mc
    · by_cases hj : j < ms.length
      · rw [List.getElem?_append_left hj] at hx
        exact mall j x hx t ht
      · rw [List.getElem?_append_right (by omega)] at hx
        have hj0 : j - ms.length = 0 := by
          have := (List.getElem?_eq_some_iff.mp hx).1
          simp at this
          omega
        rw [hj0] at hx
        obtain rfl : mn = x := by simpa using hx
        obtain rfl : j = k := by omega
        exact hle _ (List.mem_cons_of_mem _ (List.mem_map.mpr ⟨t, ht, rfl⟩))
  rintro H1 ⟨ms, g1, d1, lms, mle, mall⟩
  have un : ∀ t ∈ Fo, Under ms t.1 := fun t ht => under_of (by rw [lms, (ok t ht).1]) (fun j x hx => mall j x hx t ht) fun p hp => ((ok t ht).2 p hp).1
  have mM : ∀ x ∈ ms, x ≤ c.toNat := fun x hx => by have := mle x hx; omega
  have lm : ms.length = rs.length := by omega
  obtain ⟨us1, ef1, tF1⟩ := hf.kt (Kt.same g1)
  have l2 := Paired.length tF1
  have hL1 : SqL K H1 l ws := g1.seq hL
  have fr1 := fr.up g1
  repeat walk_at "st"
  with_reducible refine r_cut (fun σ H' => ∃ (y3 y4 y5 y7 : Option V), σ = [some (.ref f), some (.ref l), some (.ref D), y3, y4, y5, some (.int (wsum (mon ms rs) Fo)), y7, none] ∧ H' = H1) ?U1 ?V1
  case V1 =>
    intro N J
    refine ⟨.ref f, rfl, f, rfl, ⟨us1, tupOf ef1⟩, ?_⟩
    refine for_tup (xs := us1) (fun i σ H' => ∃ (y3 y4 y5 y7 : Option V), σ = [some (.ref f), some (.ref l), some (.ref D), y3, y4, y5, some (.int (wsum (mon ms rs) (Fo.take i))), y7, none] ∧ H' = H1) ?_ ?_ ?_ ?_
    · exact ⟨_, _, _, _, rfl, rfl⟩
    · rintro i σ H' _ ⟨_, _, _, _, _, rfl⟩
      exact tupOf ef1
    · rintro i v σ H4 hv ⟨y3, y4, y5, y7, rfl, rfl⟩
      obtain ⟨t, ht, a, qa, rfl, ta, pw⟩ := tF1.at hv
      have htm := List.mem_of_getElem? ht
      have unt := un t htm
      have e1 : Fo.take (i + 1) = Fo.take i ++ [t] := by rw [List.take_succ, ht, Option.toList_some]
      refine r_gT (tupOf ta) rfl ?_
      refine r_g2 ?_
      repeat walk_at "st"
      with_reducible refine r_cut (fun σ H' => ∃ (y5 : Option V), σ = [some (.ref f), some (.ref l), some (.ref D), some (.ref qa), some (.int t.2), y5, some (.int (wsum (mon ms rs) (Fo.take i))), some (.int (t.2 * mon ms rs t.1)), none] ∧ H' = H4) ?U2 ?V2
      case V2 =>
        intro N J
        refine ⟨.ref l, rfl, l, ws, rfl, .inl hL1, (ws.length : Int), rfl, by omega, by omega, ?_⟩
        rw [show ((ws.length : Int)).toNat = rs.length from by omega]
        refine for_range (n := rs.length) (fun j σ H' => ∃ (y5 : Option V), σ = [some (.ref f), some (.ref l), some (.ref D), some (.ref qa), some (.int t.2), y5, some (.int (wsum (mon ms rs) (Fo.take i))), some (.int (t.2 * mon (ms.take j) (rs.take j) (t.1.take j))), none] ∧ H' = H4) ?_ ?_ ?_
        · refine ⟨y5, ?_, rfl⟩
          rw [List.take_zero, show mon [] (rs.take 0) (t.1.take 0) = 1 from rfl, Int.mul_one]
        · rintro j σ H' hj ⟨y5', rfl, rfl⟩
          have hr' : rs[j]? = some (rs[j]'hj) := List.getElem?_eq_getElem hj
          have hw : ws[j]? = some (ws[j]'(by omega)) := List.getElem?_eq_getElem (by omega)
          have hk : t.1[j]? = some (t.1[j]'(by have := unt.len; omega)) := List.getElem?_eq_getElem (by have := unt.len; omega)
          have hx : ms[j]? = some (ms[j]'(by omega)) := List.getElem?_eq_getElem (by omega)
          obtain ⟨r2, hr2, px⟩ := LiI.paired_get fr1 hw
          obtain rfl : rs[j]'hj = r2 := by rw [hr'] at hr2; exact Option.some.inj hr2
          obtain ⟨k0, kg⟩ := unt.at hx hk
          generalize rs[j]'hj = r at *
          generalize ws[j]'(by omega) = wv at *
          generalize t.1[j]'(by have := unt.len; omega) = k at *
          generalize ms[j]'(by omega) = gn at *
          obtain ⟨kn, rfl⟩ : ∃ kn : Nat, k = (kn : Int) := ⟨k.toNat, by omega⟩
          have bz := hb.at (List.mem_of_getElem? hr')
          have gc := mM gn (List.mem_of_getElem? hx)
          have h1 : b * kn ≤ 5000 * 50 := Nat.mul_le_mul hb2 (by omega)
          have h2 : b * (gn - kn) ≤ 5000 * 50 := Nat.mul_le_mul hb2 (by omega)
          have ps := part_sm j hb mM unt (sF t htm)
          have cm1 : CMulW (t.2 * mon (ms.take j) (rs.take j) (t.1.take j)) (r.num ^ kn) := Sm.cmul ps (bz.t.pow kn) (by omega) (by omega) (by omega)
          have cm2 : CMulW (t.2 * mon (ms.take j) (rs.take j) (t.1.take j) * r.num ^ kn) ((r.den : Int) ^ (gn - kn)) := Sm.cmul (ps.mul (bz.t.pow kn)) (bz.b.pow _) (by omega) (by omega) (by omega)
          have ak : atI (t.1.map V.int) (0 + (j : Int)) = some (.int (kn : Int)) := by rw [Int.zero_add]; exact atI_nat (by rw [List.getElem?_map, hk]; rfl)
          have am : atI (ms.map fun n : Nat => V.int (n : Int)) (0 + (j : Int)) = some (.int (gn : Int)) := by rw [Int.zero_add]; exact atI_nat (by rw [List.getElem?_map, hx]; rfl)
          have aw : atI ws (0 + (j : Int)) = some wv := by rw [Int.zero_add]; exact atI_nat hw
          repeat walk_at "st"
          refine r_ixL hL1 aw ?_
          repeat walk_at "st"
          refine r_ixF0 px ?_
          repeat walk_at "st"
          refine r_ixT (tupOf pw) ak ?_
          repeat walk_at "st"
          refine ⟨r.num, kn, b, rfl, bz.t, by omega, hb1, by omega, ?_⟩
          repeat walk_at "st"
          refine r_ixL hL1 aw ?_
          repeat walk_at "st"
          refine r_ixF1 px ?_
          repeat walk_at "st"
          refine r_ixL (lstOf d1) am ?_
          repeat walk_at "st"
          refine r_ixT (tupOf pw) ak ?_
          repeat walk_at "st"
          rw [show (gn : Int) - (kn : Int) = ((gn - kn : Nat) : Int) by omega]
          refine ⟨(r.den : Int), gn - kn, b, rfl, bz.b, by omega, hb1, by omega, ?_⟩
          repeat walk_at "st"
          refine ⟨some (.int (0 + (j : Int))), ?_, rfl⟩
          rw [mon_take hx hr' hk, show ((kn : Int)).toNat = kn by omega, ← Int.mul_assoc (mon _ _ _), ← Int.mul_assoc, ← Int.mul_assoc]
        · rintro σ H5 ⟨y5', rfl, rfl⟩
          refine J _ _ ⟨y5', ?_, rfl⟩
          have := unt.len
          rw [List.take_of_length_le (show ms.length ≤ rs.length by omega), List.take_of_length_le (Nat.le_refl _), List.take_of_length_le (show t.1.length ≤ rs.length by omega)]
      rintro σ H5 ⟨y5', rfl, rfl⟩
      have ew : wsum (mon ms rs) (Fo.take i) + t.2 * mon ms rs t.1 = wsum (mon ms rs) (Fo.take (i + 1)) := by
        rw [e1, wsum_app, wsum_cons, show wsum (mon ms rs) [] = 0 from rfl, Int.add_zero]
      repeat walk_at "st"
      exact ⟨some (.ref qa), some (.int t.2), y5', some (.int (t.2 * mon ms rs t.1)), by rw [← ew], rfl⟩
    · rintro σ H4 ⟨y3, y4, y5, y7, rfl, rfl⟩
      rw [l2, List.take_length]
      exact J _ _ ⟨_, _, _, _, rfl, rfl⟩
  rintro σ H4 ⟨y3, y4, y5, y7, rfl, rfl⟩
  repeat walk_at "st"
  with_reducible refine r_cut (fun σ H' => ∃ (y3 y4 y5 y7 : Option V), σ = [some (.ref f), some (.ref l), some (.ref D), y3, y4, y5, some (.int (wsum (mon ms rs) Fo)), y7, some (.int (bot ms rs))] ∧ H' = H4) ?U3 ?V3
  case V3 =>
    intro N J
    refine ⟨.ref l, rfl, l, ws, rfl, .inl hL1, (ws.length : Int), rfl, by omega, by omega, ?_⟩
    rw [show ((ws.length : Int)).toNat = rs.length from by omega]
    refine for_range (n := rs.length) (fun j σ H' => ∃ (y3 y4 y5 y7 : Option V), σ = [some (.ref f), some (.ref l), some (.ref D), y3, y4, y5, some (.int (wsum (mon ms rs) Fo)), y7, some (.int (bot (ms.take j) (rs.take j)))] ∧ H' = H4) ?_ ?_ ?_
    · refine ⟨y3, y4, y5, y7, ?_, rfl⟩
      rw [List.take_zero]
      rfl
    · rintro j σ H' hj ⟨y3', y4', y5', y7', rfl, rfl⟩
      have hr' : rs[j]? = some (rs[j]'hj) := List.getElem?_eq_getElem hj
      have hw : ws[j]? = some (ws[j]'(by omega)) := List.getElem?_eq_getElem (by omega)
      have hx : ms[j]? = some (ms[j]'(by omega)) := List.getElem?_eq_getElem (by omega)
      obtain ⟨r2, hr2, px⟩ := LiI.paired_get fr1 hw
      obtain rfl : rs[j]'hj = r2 := by rw [hr'] at hr2; exact Option.some.inj hr2
      generalize rs[j]'hj = r at *
      generalize ws[j]'(by omega) = wv at *
      generalize ms[j]'(by omega) = gn at *
      have bz := hb.at (List.mem_of_getElem? hr')
      have gc := mM gn (List.mem_of_getElem? hx)
      have h1 : b * gn ≤ 5000 * 50 := Nat.mul_le_mul hb2 (by omega)
      have h2 : c.toNat * b ≤ 50 * 5000 := Nat.mul_le_mul (by omega) hb2
      have bs0 := bot_le (M := c.toNat) (ms := ms.take j) (hb.take j) fun x hx => mM x (List.mem_of_mem_take hx)
      have cm : CMulW (bot (ms.take j) (rs.take j)) ((r.den : Int) ^ gn) := Sm.cmul (sm_of_le bs0) (bz.b.pow gn) (by omega) (by omega) (by omega)
      have am : atI (ms.map fun n : Nat => V.int (n : Int)) (0 + (j : Int)) = some (.int (gn : Int)) := by rw [Int.zero_add]; exact atI_nat (by rw [List.getElem?_map, hx]; rfl)
      have aw : atI ws (0 + (j : Int)) = some wv := by rw [Int.zero_add]; exact atI_nat hw
      repeat walk_at "st"
      refine r_ixL hL1 aw ?_
      repeat walk_at "st"
      refine r_ixF1 px ?_
      repeat walk_at "st"
      refine r_ixL (lstOf d1) am ?_
      repeat walk_at "st"
      refine ⟨(r.den : Int), gn, b, rfl, bz.b, by omega, hb1, by omega, ?_⟩
      repeat walk_at "st"
      exact ⟨y3', y4', some (.int (0 + (j : Int))), y7', by rw [bot_take hx hr'], rfl⟩
    · rintro σ H5 ⟨y3', y4', y5', y7', rfl, rfl⟩
      refine J _ _ ⟨y3', y4', y5', y7', ?_, rfl⟩
      rw [List.take_of_length_le (show ms.length ≤ rs.length by omega), List.take_of_length_le (Nat.le_refl _)]
  rintro σ H5 ⟨y3', y4', y5', y7', rfl, rfl⟩
  repeat walk_at "st"
  refine ⟨sz rfl, fun p np => ?_⟩
  have bp := bot_pos ms rs
  have bl := bot_le (M := c.toNat) hb mM
  exact q _ _ (g1.trans (same_new np _)) ⟨p, _, _, rfl, tupOf upd_same, by omega, worth_rat lm un, wsum_sm hb mM (fun t ht => ⟨un t ht, sF t ht⟩) hl, (sm_of_le bl).mono (by omega)⟩
theorem ok_drawn (F : Fn K mg "_law_drawn" s_drawn) (G_terms : Kn P w K mg base 3 "_law_terms" ["_law_pool_here", "_law_many", "_law_most"] (spTerms K)) (G_gather : Kn P w K mg base 1 "_law_gather" ["_law_terms_here"] (spSummed K)) (z_max : mg "max" = none) (z_min : mg "min" = none) (z_tuple : mg "tuple" = none) : Kn P w K mg base 4 "_law_drawn" ["_law_pool_here", "_law_many", "_law_most"] (spDrawn K) := by
  refine F.kn sc_drawn (fun vs H Q E h => ?_) (fun f cdv A outer s H vs Q E hr h => ?_) (fun _ _ _ _ _ _ us hl => match us, hl with | [_, _, _], _ => rfl)
  · obtain ⟨p, m, most, b, rfl, _⟩ := h
    rfl
  obtain ⟨p, m, most, b, rfl, hp, hb, hm, hmo, q⟩ := h
  refine ⟨_, (pss_cons (ps_set (i := 3) sc_drawn.nd rfl (.inr rfl) (pe_op op_sub (pe_op op_pow pe_int pe_int) pe_int))
    (pss_cons (ps_set (i := 4) sc_drawn.nd rfl (.inl rfl) (pe_kn G_gather (hr.mono (by decide)) (by rfl) (pa_cons (pe_kn G_terms (hr.mono (by decide)) (by rfl) (pa_cons (pv 0) (pa_cons (pv 1) (pa_cons (pv 2) pa_nil)))) pa_nil)))
    (pss_one (ps_ret (pe_tupleOf (by rfl) z_tuple (pe_lc (own := [("_law_powers", 5), ("_law_number_here", 6)]) (g := gTup K 2 (gCons (gName 5) (gCons (gName 6) gNil))) (by rfl) sc_drawn.nd (pi_tup (pv 4)) (blkOk_by (own := [("_law_powers", 5), ("_law_number_here", 6)]) (N := ["_law_pool_here", "_law_many", "_law_most", "_law_most_number", "_law_form", "_law_powers", "_law_number_here"]) (sc := (defScope s_drawn)) (by decide +kernel)) (fun _ _ _ _ _ => pg_tup (by rfl) (pgs_cons (pg_name (i := 5) sc_drawn.nd rfl (.inl rfl)) (pgs_cons (pg_name (i := 6) sc_drawn.nd rfl (.inl rfl)) pgs_nil))) (fun _ _ _ _ _ => pts_nil) (fun _ _ _ _ _ => (pe_tup (pa_cons (pv 5) (pa_cons (pe_callB (show CallR _ (.builtin "max") (fun xs H Q => ∃ i j, xs = [.int i, .int j] ∧ Q (.int (if j > i then j else i)) H) from call_max2 (by rfl)) (by rfl) z_max (by decide +kernel) (pa_cons (pe_un un_neg (pv 3)) (pa_cons (pe_callB (show CallR _ (.builtin "min") (fun xs H Q => ∃ i j, xs = [.int i, .int j] ∧ Q (.int (if j < i then j else i)) H) from call_min2 (by rfl)) (by rfl) z_min (by decide +kernel) (pa_cons (pv 6) (pa_cons (pv 3) pa_nil))) pa_nil))) pa_nil)))))))))), ?_⟩
  show (_ : TS) _ [some (.ref p), some (.int (m : Int)), some (.int (most : Int)), none, none, none, none] _
  repeat walk_at "st"
  refine ⟨p, m, most, b, rfl, hp, hb, hm, hmo, fun l us ts H1 b1 hp1 nl el tm ok lt sz1 => ?_⟩
  repeat walk_at "st"
  refine ⟨l, us, ts, m, 12, rfl, lstOf el, tm, ok, by omega, fun f1 F1 H2 s2 n2 f2 fm => ?_⟩
  have lf := fm.len
  obtain ⟨us2, hf2, tm2⟩ := f2
  repeat walk_at "st"
  refine r_then ?_
  refine r_lcT ?_
  repeat walk_at "st"
  refine lc_terms (fun H v t => Tm H v (t.1, clampI (10 ^ Int.toNat 60 - 1) t.2)) (fun k h => Tm.kt k h) hf2 tm2 (by omega) (fun _ _ => rfl) (fun t q' H' ht g' pw S k => ?_) fun D vs H3 s3 n3 e3 pr => ?_
  · show tTup _ [some (.ref p), some (.int (m : Int)), some (.int (most : Int)), some (.int (10 ^ Int.toNat 60 - 1)), some (.ref f1), some (.ref q'), some (.int t.2)] H' S
    repeat walk_at "st"
    refine ⟨t.2, _, rfl, ?_⟩
    repeat walk_at "st"
    refine ⟨_, _, rfl, ?_⟩
    repeat walk_at "st"
    refine ⟨sz rfl, fun p4 np4 => ?_⟩
    exact k _ _ (same_new np4 _) ⟨p4, q', rfl, upd_same, same_new np4 _ _ _ pw⟩
  have hM : (0 : Int) < 10 ^ Int.toNat 60 - 1 := by decide
  refine .inl ⟨D, vs, rfl, lstOf e3, fun f4 n4 => ?_⟩
  have s4 := same_new n4 (.tup vs)
  have nfl : H f4 = none := but_free b1 hp1 ((s2.trans s3).free n4)
  have upC : (clampT (10 ^ Int.toNat 60 - 1) F1).Pairwise fun x y => lexL x.1 y.1 = true := List.pairwise_map.mpr fm.up
  refine q f4 (clampT (10 ^ Int.toNat 60 - 1) F1) _ (b1.trans (But.same (s2.trans (s3.trans s4)))) (hp1.same (s2.trans (s3.trans s4))) nfl ⟨vs, upd_same, (tmclamp pr).tmk (Kt.same s4)⟩ (fm_self upC fun x hx => ?_) (fun x hx => ?_) (by unfold clampT; rw [List.length_map]; omega) fun x hx => ?_
  · obtain ⟨t, ht, rfl⟩ := List.mem_map.mp hx
    exact clamp_nz hM ((fm.mem t).mp ht).1
  · obtain ⟨t, ht, rfl⟩ := List.mem_map.mp hx
    exact fm.ok ok t ht
  · obtain ⟨t, ht, rfl⟩ := List.mem_map.mp hx
    exact Nat.lt_of_le_of_lt (clamp_le hM) (by decide)
theorem ok_numbers (F : Fn K mg "_law_numbers" s_numbers) (G_take : Kn P w K mg base 1 "_law_take" ["_law_pool_here", "_law_wide_here"] spTakeW) (G_low : Kn P w K mg base 2 "_law_low" ["_law_top", "_law_bottom"] spLow) (G_frac : Kn P w K mg base 3 "_law_frac" ["_law_pool_here"] spFracB) (z_max : mg "max" = none) (z_range : mg "range" = none) : Kn P w K mg base 4 "_law_numbers" ["_law_pool_here", "_law_many"] (spNumbers K) := by
  refine F.kn sc_numbers (fun vs H Q E h => ?_) (fun f cdv A outer s H vs Q E hr h => ?_) (fun _ _ _ _ _ _ us hl => match us, hl with | [_, _], _ => rfl)
  · obtain ⟨p, m, b, rfl, _⟩ := h
    rfl
  obtain ⟨p, m, b, rfl, hp, hb, hm, q⟩ := h
  refine ⟨_, (pss_cons (ps_set (i := 2) sc_numbers.nd rfl (.inl rfl) (pe_kn G_take (hr.mono (by decide)) (by rfl) (pa_cons (pv 0) (pa_cons (pe_callB (call_max2 (by rfl)) (by rfl) z_max (by decide +kernel) (pa_cons pe_int (pa_cons (pv 1) pa_nil))) pa_nil))))
    (pss_cons (ps_set (i := 3) sc_numbers.nd rfl (.inl rfl) (pe_lst pa_nil))
    (pss_cons (ps_for PassesOwn.never rfl (pi_range1 (by rfl) z_range (pa_cons (pv 1) pa_nil)) (pg_name (i := 4) sc_numbers.nd rfl (.inl rfl))
    (pss_one (ps_if (PW.pt (pw_or (pt_cmpR op_eq (pv 4) (pv 2) (nomark _)) (pw_or1 (pt_cmpR op_eq (pv 4) (pe_op op_add (pv 2) pe_int) (nomark _)))))
    (pss_one (ps_expr (pe_bm PySem.F.plainAttrs_list PySem.F.slot_list_append PySem.F.type_list_append mt_append (pv 3) (pa_cons (pe_kn G_frac (hr.mono (by decide)) (by rfl) (pa_cons (pv 0) pa_nil)) pa_nil))))
    (pss_one (ps_expr (pe_bm PySem.F.plainAttrs_list PySem.F.slot_list_append PySem.F.type_list_append mt_append (pv 3) (pa_cons (pe_kn G_low (hr.mono (by decide)) (by rfl) (pa_cons (pe_op op_sub (pe_kn G_take (hr.mono (by decide)) (by rfl) (pa_cons (pv 0) (pa_cons pe_int pa_nil))) pe_int) (pa_cons (pe_op op_add pe_int (pe_kn G_take (hr.mono (by decide)) (by rfl) (pa_cons (pv 0) (pa_cons pe_int pa_nil)))) pa_nil))) pa_nil)))))))
    (pss_one (ps_ret (pv 3)))))), ?_⟩
  show (_ : TS) _ [some (.ref p), some (.int (m : Int)), none, none, none] _
  repeat walk_at "st"
  refine ⟨_, _, rfl, ?_⟩
  repeat walk_at "st"
  refine ⟨p, _, _, rfl, hp, by omega, by split <;> omega, by split <;> omega, fun at_ H1 b1 hp1 a0 a1 => ?_⟩
  repeat walk_at "st"
  refine ⟨sz rfl, fun L nL => ?_⟩
  have sL := same_new nL (.lst [])
  have eL : upd H1 L (.lst []) L = some (.lst []) := upd_same
  have nLp := hp1.ne2 nL
  have nL0 := but_free b1 hp1 nL
  have g2 : But p H (upd H1 L (.lst [])) := but_updR b1 nL0
  have hp2 := hp1.same sL
  generalize upd H1 L (.lst []) = H2 at *
  repeat walk_at "st"
  with_reducible refine r_cut (fun σ H' => ∃ (y : Option V) (ws : List V) (rs : List Rat), σ = [some (.ref p), some (.int (m : Int)), some (.int at_), some (.ref L), y] ∧ But p H H' ∧ Pl H' p (b + 1000) ∧ H' L = some (.lst ws) ∧ Frs K H' ws rs ∧ rs.length = m ∧ Bt rs 90) ?U1 ?V1
  case V1 =>
    intro N J
    refine ⟨.int (m : Int), rfl, (m : Int), rfl, by omega, by omega, ?_⟩
    rw [show ((m : Int)).toNat = m from by omega]
    refine for_range (n := m) (fun i σ H' => ∃ (y : Option V) (ws : List V) (rs : List Rat), σ = [some (.ref p), some (.int (m : Int)), some (.int at_), some (.ref L), y] ∧ But p H H' ∧ Pl H' p (b + 1 + 20 * i) ∧ H' L = some (.lst ws) ∧ Frs K H' ws rs ∧ rs.length = i ∧ Bt rs (4 * i + (if at_ < (i : Int) then 31 else 0) + (if at_ + 1 < (i : Int) then 31 else 0))) ⟨_, [], [], rfl, g2, hp2.mono (by omega), eL, .nil, rfl, trivial⟩ ?_ ?_
    · rintro i σ H5 hi ⟨y, ws, rs, rfl, g5, hp5, e5, fr5, lr, bt⟩
      have lw := Paired.length fr5
      have fin : ∀ (o : Addr) (r : Rat) (n : Nat) (H6 : Hp), But p H5 H6 → Pl H6 p (b + 1 + 20 * i + 20) → Fq K H6 (.ref o) r → Sz n r → n + (4 * i + (if at_ < (i : Int) then 31 else 0) + (if at_ + 1 < (i : Int) then 31 else 0)) ≤ 4 * (i + 1) + (if at_ < ((i + 1 : Nat) : Int) then 31 else 0) + (if at_ + 1 < ((i + 1 : Nat) : Int) then 31 else 0) → H6 L = some (.lst ws) ∧ ∃ (ws' : List V) (rs' : List Rat), upd H6 L (.lst (ws ++ [.ref o])) L = some (.lst ws') ∧ But p H (upd H6 L (.lst (ws ++ [.ref o]))) ∧ Pl (upd H6 L (.lst (ws ++ [.ref o]))) p (b + 1 + 20 * ((i + 1 : Nat) : Int)) ∧ Frs K (upd H6 L (.lst (ws ++ [.ref o]))) ws' rs' ∧ rs'.length = i + 1 ∧ Bt rs' (4 * (i + 1) + (if at_ < ((i + 1 : Nat) : Int) then 31 else 0) + (if at_ + 1 < ((i + 1 : Nat) : Int) then 31 else 0)) := fun o r n H6 b6 hp6 fo so le => by
        have e6 := b6 _ _ (Ne.symm nLp) e5
        have bL : But L H6 (upd H6 L (.lst (ws ++ [.ref o]))) := But.upd _ _ _
        refine ⟨e6, ws ++ [.ref o], rs ++ [r], upd_same, but_updR (g5.trans b6) nL0, (hp6.but nLp bL).mono (by omega), ((fr5.plB hp5 b6).but e6 bL).snoc (fo.but e6 bL), by simp [lr], (bt.snoc so).mono (by omega)⟩
      repeat walk_at "st"
      refine r_ite (fun c => ?_) (fun c => ?_)
      · repeat walk_at "st"
        refine r_bm ?_
        repeat walk_at "st"
        refine ⟨.inl ⟨rfl, _, lstOf e5⟩, ?_⟩
        repeat walk_at "st"
        refine ⟨p, _, rfl, hp5, by omega, fun o t u H6 b6 hp6 e6 fb => ?_⟩
        obtain ⟨r, fo, so⟩ := fb.fq (K := K) e6
        obtain ⟨e7, ws', rs', h1, h2, h3, h4, h5, h6⟩ := fin o r 31 H6 b6 (hp6.mono (by omega)) fo so (by (repeat' split) <;> omega)
        repeat walk_at "st"
        refine ⟨L, ws, .ref o, rfl, rfl, e7, by rw [lw]; exact Nat.lt_of_le_of_lt (show _ ≤ 1000 by omega) (by decide), ?_⟩
        exact ⟨_, ws', rs', rfl, h2, h3, h1, h4, h5, h6⟩
      · repeat walk_at "st"
        refine r_ite (fun c2 => ?_) (fun c2 => ?_)
        · repeat walk_at "st"
          refine r_bm ?_
          repeat walk_at "st"
          refine ⟨.inl ⟨rfl, _, lstOf e5⟩, ?_⟩
          repeat walk_at "st"
          refine ⟨p, _, rfl, hp5, by omega, fun o t u H6 b6 hp6 e6 fb => ?_⟩
          obtain ⟨r, fo, so⟩ := fb.fq (K := K) e6
          obtain ⟨e7, ws', rs', h1, h2, h3, h4, h5, h6⟩ := fin o r 31 H6 b6 (hp6.mono (by omega)) fo so (by (repeat' split) <;> omega)
          repeat walk_at "st"
          refine ⟨L, ws, .ref o, rfl, rfl, e7, by rw [lw]; exact Nat.lt_of_le_of_lt (show _ ≤ 1000 by omega) (by decide), ?_⟩
          exact ⟨_, ws', rs', rfl, h2, h3, h1, h4, h5, h6⟩
        · repeat walk_at "st"
          refine r_bm ?_
          repeat walk_at "st"
          refine ⟨.inl ⟨rfl, _, lstOf e5⟩, ?_⟩
          repeat walk_at "st"
          refine ⟨p, _, _, rfl, hp5, by omega, by decide, by decide, fun t H6 b6 hp6 t0 t1 => ?_⟩
          repeat walk_at "st"
          refine ⟨p, _, _, rfl, hp6, by omega, by decide, by decide, fun u H7 b7 hp7 u0 u1 => ?_⟩
          repeat walk_at "st"
          have nb : (1 + u : Int) ≠ 0 := by omega
          have s1 : Sm 4 (t - 6) := by unfold Sm; omega
          have s2 : Sm 4 (1 + u) := by unfold Sm; omega
          refine ⟨_, _, rfl, nb, s2.mono (by decide), fun o H8 s8 n8 e8 => ?_⟩
          have b8 := (b6.trans b7).trans (But.same (p := p) s8)
          obtain ⟨e7, ws', rs', h1, h2, h3, h4, h5, h6⟩ := fin o (Rat.divInt (t - 6) (1 + u)) 4 H8 b8 ((hp7.same s8).mono (by omega)) (Fq.of _ nb rfl e8) (Sz.divInt nb s1 s2) (by (repeat' split) <;> omega)
          repeat walk_at "st"
          refine ⟨L, ws, .ref o, rfl, rfl, e7, by rw [lw]; exact Nat.lt_of_le_of_lt (show _ ≤ 1000 by omega) (by decide), ?_⟩
          exact ⟨_, ws', rs', rfl, h2, h3, h1, h4, h5, h6⟩
    · rintro σ H5 ⟨y, ws, rs, rfl, g5, hp5, e5, fr5, lr, bt⟩
      exact J _ _ ⟨_, ws, rs, rfl, g5, hp5.mono (by omega), e5, fr5, lr, bt.mono (by split <;> split <;> omega)⟩
  rintro σ H5 ⟨y, ws, rs, rfl, g5, hp5, e5, fr5, lr, bt⟩
  repeat walk_at "st"
  exact q L ws rs H5 g5 hp5 nL0 e5 fr5 lr bt
theorem ok_is_worth (F : Fn K mg "_law_is_worth" s_is_worth) (G_is_frac : Kn P w K mg base 2 "_law_is_frac" ["_law_found"] (spIsFr K)) (G_even : Kn P w K mg base 1 "_law_even" ["_law_one", "_law_other"] (spS2 K)) : Kn P w K mg base 3 "_law_is_worth" ["_law_found", "_law_due"] (spIsWorth K) := by
  refine F.kn sc_is_worth (fun vs H Q E h => ?_) (fun f cdv A outer s H vs Q E hr h => ?_) (fun _ _ _ _ _ _ us hl => match us, hl with | [_, _], _ => rfl)
  · obtain ⟨v, w, q', q'', n, m, rfl, _⟩ := h
    rfl
  obtain ⟨v, u, x, y, n, m, rfl, hx, sx, hy, e, hn, hm, q⟩ := h
  refine ⟨_, (pss_one (ps_ret (pe_and (pe_kn G_is_frac (hr.mono (by decide)) (by rfl) (pa_cons (pv 0) pa_nil)) (pe_one (pe_kn G_even (hr.mono (by decide)) (by rfl) (pa_cons (pv 0) (pa_cons (pv 1) pa_nil))))))), ?_⟩
  show (_ : TS) _ [some v, some u] _
  have rx := hx.rq sx
  obtain ⟨a, rfl, ta⟩ := id hx
  repeat walk_at "st"
  refine ⟨a, _, _, rfl, ta, den_pos x, x.reduced, ?_⟩
  repeat walk_at "st"
  refine ⟨.ref a, u, x, y, n, m, rfl, rx, hy, by omega, by omega, ?_⟩
  rw [decide_eq_true e]
  exact q
theorem ok_great (F : Fn K mg "_law_great" s_great) (G_take : Kn P w K mg base 1 "_law_take" ["_law_pool_here", "_law_wide_here"] spTakeW) (G_low : Kn P w K mg base 2 "_law_low" ["_law_top", "_law_bottom"] spLow) (G_drawn : Kn P w K mg base 4 "_law_drawn" ["_law_pool_here", "_law_many", "_law_most"] (spDrawn K)) (G_worth : Kn P w K mg base 3 "worth" ["form", "numbers"] (spWorth K)) (G_l_worth : Kn P w K mg base 2 "_law_worth" ["_law_form", "_law_numbers_here"] (spLWorth K)) (G_is_worth : Kn P w K mg base 3 "_law_is_worth" ["_law_found", "_law_due"] (spIsWorth K)) (z_range : mg "range" = none) (z_list : mg "list" = none) : Kn P w K mg base 5 "_law_great" ["_law_pool_here", "_law_many"] spGreatW := by
  refine F.kn sc_great (fun vs H Q E h => ?_) (fun f cdv A outer s H vs Q E hr h => ?_) (fun _ _ _ _ _ _ us hl => match us, hl with | [_, _], _ => rfl)
  · obtain ⟨p, m, b, rfl, _⟩ := h
    rfl
  obtain ⟨p, m, b, rfl, hp, hb, hm, q⟩ := h
  refine ⟨_, (pss_cons (ps_set (i := 2) sc_great.nd rfl (.inl rfl) (pe_kn G_drawn (hr.mono (by decide)) (by rfl) (pa_cons (pv 0) (pa_cons (pv 1) (pa_cons pe_int pa_nil)))))
    (pss_cons (ps_setLc (i := 3) (own := [("_law_k", 4)]) (g := gName 4) (by rfl) sc_great.nd rfl rfl (sw_true rfl rfl rfl (by decide +kernel)) (pi_range1 (by rfl) z_range (pa_cons (pv 1) pa_nil)) (blkOk_by (own := [("_law_k", 4)]) (N := ["_law_pool_here", "_law_many", "_law_form", "_law_numbers_here", "_law_k"]) (sc := (defScope s_great)) (by decide +kernel)) (fun _ _ _ _ _ => pg_name (i := 4) sc_great.nd rfl (.inl rfl)) (fun _ _ _ _ _ => pts_nil) (fun _ _ _ _ _ => (pe_kn G_low (hr.mono (by decide)) (by rfl) (pa_cons (pe_op op_sub (pe_kn G_take (hr.mono (by decide)) (by rfl) (pa_cons (pv 0) (pa_cons pe_int pa_nil))) pe_int) (pa_cons (pe_op op_add pe_int (pe_kn G_take (hr.mono (by decide)) (by rfl) (pa_cons (pv 0) (pa_cons pe_int pa_nil)))) pa_nil)))))
    (pss_one (ps_ret (pe_kn G_is_worth (hr.mono (by decide)) (by rfl) (pa_cons (pe_kn G_worth (hr.mono (by decide)) (by rfl) (pa_cons (pv 2) (pa_cons (pe_callTy call_list_of (by rfl) z_list (by decide +kernel) (pa_cons (pv 3) pa_nil)) pa_nil))) (pa_cons (pe_kn G_l_worth (hr.mono (by decide)) (by rfl) (pa_cons (pv 2) (pa_cons (pv 3) pa_nil))) pa_nil))))))), ?_⟩
  show (_ : TS) _ [some (.ref p), some (.int (m : Int)), none, none, none] _
  repeat walk_at "st"
  refine ⟨p, m, 60, b, rfl, hp, by omega, hm, by decide, fun g Fo H1 b1 hp1 ng hg fm ok lF sF => ?_⟩
  repeat walk_at "st"
  refine r_lcR ?_
  repeat walk_at "st"
  refine ⟨(m : Int), rfl, by omega, by omega, fun D hD => ?_⟩
  rw [show ((m : Int)).toNat = m from by omega]
  have nDp := hp1.ne2 hD
  have nD0 := but_free b1 hp1 hD
  refine lc_range (n := m) (fun k H' => ∃ (ws : List V) (rs : List Rat), But p H1 H' ∧ But p H H' ∧ Pl H' p (b + 3000 + 10 * k) ∧ H' D = some (.lst ws) ∧ Frs K H' ws rs ∧ rs.length = k ∧ Bt rs (4 * k)) ⟨[], [], But.same (same_new hD _), but_updR b1 nD0, (hp1.same (same_new hD _)).mono (by omega), upd_same, .nil, rfl, trivial⟩ ?_ ?_
  · rintro k H5 hk ⟨ws, rs, g5, gg5, hp5, e5, fr5, lr, bt⟩
    have lw := Paired.length fr5
    refine ⟨rfl, ?_⟩
    refine r_yes ?_
    refine r_T ?_
    show tCall _ _ _ _ [some (.ref p), some (.int (m : Int)), some (.ref g), none, some (.int (0 + (k : Int)))] H5 _
    repeat walk_at "st"
    refine ⟨p, _, _, rfl, hp5, by omega, by decide, by decide, fun t H6 b6 hp6 t0 t1 => ?_⟩
    repeat walk_at "st"
    refine ⟨p, _, _, rfl, hp6, by omega, by decide, by decide, fun u H7 b7 hp7 u0 u1 => ?_⟩
    repeat walk_at "st"
    have nb : (1 + u : Int) ≠ 0 := by omega
    have s1 : Sm 4 (t - 3) := by unfold Sm; omega
    have s2 : Sm 4 (1 + u) := by unfold Sm; omega
    refine ⟨_, _, rfl, nb, s2.mono (by decide), fun o H8 s8 n8 e8 => ?_⟩
    have b8 := (b6.trans b7).trans (But.same (p := p) s8)
    obtain ⟨fo, so⟩ := low_fq (K := K) e8 nb s1 s2
    have e9 := b8 _ _ (Ne.symm nDp) e5
    have bL : But D H8 (upd H8 D (.lst (ws ++ [.ref o]))) := But.upd _ _ _
    refine ⟨_, e9, by rw [lw]; exact Nat.lt_of_le_of_lt (show _ ≤ 1000 by omega) (by decide), ws ++ [.ref o], rs ++ [Rat.divInt (t - 3) (1 + u)], but_updR (g5.trans b8) hD, but_updR (gg5.trans b8) nD0, ((hp7.same s8).but nDp bL).mono (by omega), upd_same, ((fr5.plB hp5 b8).but e9 bL).snoc (fo.but e9 bL), by simp [lr], bt.snoc so⟩
  rintro H5 ⟨ws, rs, g5, gg5, hp5, e5, fr5, lr, bt⟩
  have hg5 := hg.kt (Kt.but g5 hp1)
  have s200 : ∀ t ∈ Fo, Sm 200 t.2 := fun t ht => sm60 (sF t ht)
  repeat walk_at "st"
  refine ⟨D, ws, rfl, .inl (lstOf e5), fun l nl => ?_⟩
  obtain ⟨H6, e6, s6, k6⟩ := nw nl (.lst ws)
  rw [← e6]
  clear e6
  have bt4 : Bt rs (4 * m + 4) := bt.mono (by omega)
  have t12 : (12 : Int).toNat * (4 * m + 4) ≤ 384 := by
    show 12 * (4 * m + 4) ≤ 384
    omega
  repeat walk_at "st"
  refine ⟨g, l, Fo, ws, rs, m, 200, 4 * m + 4, 12, rfl, hg5.kt (Kt.same s6), ok, by decide, by decide, by omega, s200, lstOf k6, fr5.up s6, lr, by omega, bt4, by omega, by omega, fun r H7 s7 n7 fq7 => ?_⟩
  have g7 := s6.trans s7
  repeat walk_at "st"
  refine ⟨g, D, Fo, ws, rs, m, 200, 4 * m + 4, 12, rfl, hg5.kt (Kt.same g7), ok, by decide, by decide, by omega, s200, lstOf (g7 _ _ e5), fr5.up g7, lr, by omega, bt4, by omega, by omega, by omega, fun v H8 s8 rq8 => ?_⟩
  repeat walk_at "st"
  refine ⟨.ref r, v, _, _, _, _, rfl, fq7.up s8, wR_sz lr bt4 ok (by decide) s200 (by omega) rfl, rq8, rfl, by omega, by omega, ?_⟩
  exact q H8 (gg5.trans (But.same (g7.trans s8)))
theorem ok_wide (F : Fn K mg "_law_wide" s_wide) (G_take : Kn P w K mg base 1 "_law_take" ["_law_pool_here", "_law_wide_here"] spTakeW) (G_low : Kn P w K mg base 2 "_law_low" ["_law_top", "_law_bottom"] spLow) (G_number : Kn P w K mg base 2 "_law_number" ["_law_pool_here"] spNum) (G_gather : Kn P w K mg base 1 "_law_gather" ["_law_terms_here"] (spSummed K)) (G_worth : Kn P w K mg base 3 "worth" ["form", "numbers"] (spWorth K)) (G_l_worth : Kn P w K mg base 2 "_law_worth" ["_law_form", "_law_numbers_here"] (spLWorth K)) (G_is_worth : Kn P w K mg base 3 "_law_is_worth" ["_law_found", "_law_due"] (spIsWorth K)) (z_range : mg "range" = none) (z_tuple : mg "tuple" = none) (z_max : mg "max" = none) (z_abs : mg "abs" = none) (z_list : mg "list" = none) : Kn P w K mg base 5 "_law_wide" ["_law_pool_here", "_law_many"] spGreatW := by
  refine F.kn sc_wide (fun vs H Q E h => ?_) (fun f cdv A outer s H vs Q E hr h => ?_) (fun _ _ _ _ _ _ us hl => match us, hl with | [_, _], _ => rfl)
  · obtain ⟨p, m, b, rfl, _⟩ := h
    rfl
  obtain ⟨p, m, b, rfl, hp, hb, hm, q⟩ := h
  refine ⟨_, (pss_cons (ps_set (i := 2) sc_wide.nd rfl (.inl rfl) (pe_lst pa_nil))
    (pss_cons (ps_for PassesOwn.never rfl (pi_range1 (by rfl) z_range (pa_cons pe_int pa_nil)) (pg_name (i := 3) sc_wide.nd rfl (.inl rfl))
    (pss_cons (ps_set (i := 4) sc_wide.nd rfl (.inl rfl) (pe_tupleOf (by rfl) z_tuple (pe_lc (own := [("_law_at", 5)]) (g := gName 5) (by rfl) sc_wide.nd (pi_range1 (by rfl) z_range (pa_cons (pv 1) pa_nil)) (blkOk_by (own := [("_law_at", 5)]) (N := ["_law_pool_here", "_law_many", "_law_terms_here", "_law_k", "_law_powers", "_law_at", "_law_form", "_law_numbers_here", "_law_top"]) (sc := (defScope s_wide)) (by decide +kernel)) (fun _ _ _ _ _ => pg_name (i := 5) sc_wide.nd rfl (.inl rfl)) (fun _ _ _ _ _ => pts_nil) (fun _ _ _ _ _ => (pe_kn G_take (hr.mono (by decide)) (by rfl) (pa_cons (pv 0) (pa_cons pe_int pa_nil)))))))
    (pss_one (ps_expr (pe_bm PySem.F.plainAttrs_list PySem.F.slot_list_append PySem.F.type_list_append mt_append (pv 2) (pa_cons (pe_tup (pa_cons (pv 4) (pa_cons (pe_op op_fdivW (pe_kn G_number (hr.mono (by decide)) (by rfl) (pa_cons (pv 0) pa_nil)) pe_int) pa_nil))) pa_nil))))))
    (pss_cons (ps_set (i := 6) sc_wide.nd rfl (.inl rfl) (pe_kn G_gather (hr.mono (by decide)) (by rfl) (pa_cons (pv 2) pa_nil)))
    (pss_cons (ps_set (i := 7) sc_wide.nd rfl (.inl rfl) (pe_lst pa_nil))
    (pss_cons (ps_for PassesOwn.never rfl (pi_range1 (by rfl) z_range (pa_cons (pv 1) pa_nil)) (pg_name (i := 3) sc_wide.nd rfl (.inl rfl))
    (pss_cons (ps_set (i := 8) sc_wide.nd rfl (.inl rfl) (pe_kn G_number (hr.mono (by decide)) (by rfl) (pa_cons (pv 0) pa_nil)))
    (pss_one (ps_expr (pe_bm PySem.F.plainAttrs_list PySem.F.slot_list_append PySem.F.type_list_append mt_append (pv 7) (pa_cons (pe_kn G_low (hr.mono (by decide)) (by rfl) (pa_cons (pv 8) (pa_cons (pe_callB (call_max2 (by rfl)) (by rfl) z_max (by decide +kernel) (pa_cons pe_int (pa_cons (pe_callB call_abs (by rfl) z_abs (by decide +kernel) (pa_cons (pe_kn G_number (hr.mono (by decide)) (by rfl) (pa_cons (pv 0) pa_nil)) pa_nil)) pa_nil))) pa_nil))) pa_nil))))))
    (pss_one (ps_ret (pe_kn G_is_worth (hr.mono (by decide)) (by rfl) (pa_cons (pe_kn G_worth (hr.mono (by decide)) (by rfl) (pa_cons (pv 6) (pa_cons (pe_callTy call_list_of (by rfl) z_list (by decide +kernel) (pa_cons (pv 7) pa_nil)) pa_nil))) (pa_cons (pe_kn G_l_worth (hr.mono (by decide)) (by rfl) (pa_cons (pv 6) (pa_cons (pv 7) pa_nil))) pa_nil)))))))))), ?_⟩
  show (_ : TS) _ [some (.ref p), some (.int (m : Int)), none, none, none, none, none, none, none] _
  repeat walk_at "st"
  refine ⟨sz rfl, fun T nT => ?_⟩
  have sT := same_new nT (.lst [])
  have eT : upd H T (.lst []) T = some (.lst []) := upd_same
  have nTp := hp.ne2 nT
  have hpT := hp.same sT
  have g0 : But p H (upd H T (.lst [])) := But.same sT
  generalize upd H T (.lst []) = H0 at *
  repeat walk_at "st"
  with_reducible refine r_cut (fun σ H' => ∃ (y3 y4 : Option V) (us : List V) (ts : List Trm), σ = [some (.ref p), some (.int (m : Int)), some (.ref T), y3, y4, none, none, none, none] ∧ But p H H' ∧ Pl H' p (b + 100) ∧ H' T = some (.lst us) ∧ Tms H' us ts ∧ OkT m 2 ts ∧ ts.length ≤ 3 ∧ ∀ t ∈ ts, Sm 200 t.2) ?U1 ?V1
  case V1 =>
    intro N J
    refine ⟨_, rfl, by decide, by decide, for_range (n := 3) (fun i σ H' => ∃ (y3 y4 : Option V) (us : List V) (ts : List Trm), σ = [some (.ref p), some (.int (m : Int)), some (.ref T), y3, y4, none, none, none, none] ∧ But p H H' ∧ Pl H' p (b + 30 * i) ∧ H' T = some (.lst us) ∧ Tms H' us ts ∧ OkT m 2 ts ∧ ts.length ≤ i ∧ ∀ t ∈ ts, Sm 200 t.2) ⟨_, _, [], [], rfl, g0, hpT.mono (by omega), eT, .nil, (fun t ht => by cases ht), by decide, fun t ht => by cases ht⟩ ?_ ?_⟩
    · rintro i σ H5 hi ⟨y3, y4, us, ts, rfl, g5, hp5, e5, tm5, ok5, l5, n5⟩
      have ln : us.length = ts.length := Paired.length tm5
      repeat walk_at "st"
      refine r_then ?_
      refine r_lcR ?_
      repeat walk_at "st"
      refine ⟨(m : Int), rfl, by omega, by omega, fun D hD => ?_⟩
      rw [show ((m : Int)).toNat = m from by omega]
      refine lc_range (n := m) (fun j H' => ∃ ks : List Int, But p H5 H' ∧ Pl H' p (b + 30 * i + j) ∧ H' D = some (.lst (ks.map V.int)) ∧ ks.length = j ∧ ∀ x ∈ ks, 0 ≤ x ∧ x ≤ 2) ?_ ?_ ?_
      · exact ⟨[], But.same (same_new hD _), (hp5.same (same_new hD _)).mono (by omega), upd_same, rfl, fun x hx => by cases hx⟩
      · rintro j H8 hj ⟨ks, g8, hp8, d8, lk, ok8⟩
        have nDp := hp5.ne2 hD
        refine ⟨rfl, ?_⟩
        refine r_yes ?_
        refine r_T ?_
        show tCall _ _ _ _ [some (.ref p), some (.int (m : Int)), some (.ref T), some (.int (0 + (i : Int))), y4, some (.int (0 + (j : Int))), none, none, none] H8 _
        repeat walk_at "st"
        refine ⟨p, _, _, rfl, hp8, by omega, by decide, by decide, fun x H9 b9 hp9 x0 x1 => ?_⟩
        have d9 := b9 _ _ (Ne.symm nDp) d8
        have bL : But D H9 (upd H9 D (.lst (ks.map V.int ++ [.int x]))) := But.upd _ _ _
        refine ⟨_, d9, by rw [List.length_map]; exact Nat.lt_of_le_of_lt (show _ ≤ 1000 by omega) (by decide), ks ++ [x], but_updR (g8.trans b9) hD, (hp9.but nDp bL).mono (by omega), by rw [upd_same, List.map_append]; rfl, by simp [lk], fun z hz => ?_⟩
        rcases List.mem_append.mp hz with hz | hz
        · exact ok8 z hz
        · rw [List.mem_singleton.mp hz]; omega
      rintro H8 ⟨ks, g8, hp8, d8, lk, ok8⟩
      refine .inl ⟨D, _, rfl, lstOf d8, fun p9 np9 => ?_⟩
      obtain ⟨H9, e9, s9, k9⟩ := nw np9 (.tup (ks.map V.int))
      rw [← e9]
      clear e9
      have g9 : But p H5 H9 := g8.trans (But.same s9)
      have hp9 := hp8.same s9
      have eT9 := g9 _ _ (Ne.symm nTp) e5
      repeat walk_at "st"
      refine r_bm ?_
      repeat walk_at "st"
      refine ⟨.inl ⟨rfl, _, lstOf eT9⟩, ?_⟩
      repeat walk_at "st"
      refine ⟨p, _, rfl, hp9, by omega, fun nu H10 b10 hp10 nn => ?_⟩
      have cd : CDivW nu 100 := Sm.cdiv (n := 64) (by decide) (by decide)
      repeat walk_at "st"
      refine ⟨sz rfl, fun p11 np11 => ?_⟩
      obtain ⟨H11, e11, s11, k11⟩ := nw np11 (.tup [V.ref p9, .int (nu / 100)])
      rw [← e11]
      clear e11
      have g11 := (g9.trans b10).trans (But.same (p := p) s11)
      have eT11 := g11 _ _ (Ne.symm nTp) e5
      have pw11 : H11 p9 = some (.tup (ks.map V.int)) := s11 _ _ (Kt.but b10 hp9 _ _ k9)
      have kt : Kt H11 (upd H11 T (.lst (us ++ [.ref p11]))) := Kt.lst eT11
      have bT : But T H11 (upd H11 T (.lst (us ++ [.ref p11]))) := But.upd _ _ _
      repeat walk_at "st"
      refine ⟨T, us, .ref p11, rfl, rfl, eT11, by rw [ln]; exact Nat.lt_of_le_of_lt (show _ ≤ 1000 by omega) (by decide), ?_⟩
      have tm11 : Tms H11 us ts := tm5.tmk (Kt.but g11 hp5)
      refine ⟨_, _, us ++ [.ref p11], ts ++ [(ks, nu / 100)], rfl, but_updR (g5.trans g11) nT, (((hp10.same s11).but nTp bT)).mono (by omega), upd_same, tms_snoc (tm11.tmk kt) ⟨p11, p9, rfl, kt _ _ k11, kt _ _ pw11⟩, fun x hx => ?_, by simp; omega, fun x hx => ?_⟩
      · rcases List.mem_append.mp hx with hx | hx
        · exact ok5 x hx
        · rw [List.mem_singleton.mp hx]; exact ⟨lk, ok8⟩
      · rcases List.mem_append.mp hx with hx | hx
        · exact n5 x hx
        · rw [List.mem_singleton.mp hx]
          have := sm60 nn
          unfold Sm at this ⊢
          show (nu / 100).natAbs < 2 ^ 200
          omega
    · rintro σ H5 ⟨y3, y4, us, ts, rfl, g5, hp5, e5, tm5, ok5, l5, n5⟩
      exact J _ _ ⟨_, _, us, ts, rfl, g5, hp5.mono (by omega), e5, tm5, ok5, l5, n5⟩
  rintro σ H5 ⟨y3, y4, us, ts, rfl, g5, hp5, e5, tm5, ok5, l5, n5⟩
  have nT0 : H T = none := nT
  repeat walk_at "st"
  refine ⟨T, us, ts, m, 2, rfl, lstOf e5, tm5, ok5, by omega, fun g Fo H6 s6 n6 hg fm => ?_⟩
  have okF := fm.ok ok5
  have lF := fm.len
  have sF := fm.sm n5 (by omega)
  have g6 : But p H H6 := g5.trans (But.same s6)
  have hp6 := hp5.same s6
  repeat walk_at "st"
  refine ⟨sz rfl, fun L nL => ?_⟩
  have sL := same_new nL (.lst [])
  have eL : upd H6 L (.lst []) L = some (.lst []) := upd_same
  have nLp := hp6.ne2 nL
  have nL0 := but_free g6 hp6 nL
  have g7 : But p H (upd H6 L (.lst [])) := but_updR g6 nL0
  have hp7 := hp6.same sL
  have hg7 := hg.kt (Kt.same sL)
  generalize upd H6 L (.lst []) = H7 at *
  repeat walk_at "st"
  with_reducible refine r_cut (fun σ H' => ∃ (y3 y8 : Option V) (ws : List V) (rs : List Rat), σ = [some (.ref p), some (.int (m : Int)), some (.ref T), y3, y4, none, some (.ref g), some (.ref L), y8] ∧ FmAt H' g Fo ∧ But p H H' ∧ Pl H' p (b + 1000) ∧ H' L = some (.lst ws) ∧ Frs K H' ws rs ∧ rs.length = m ∧ Bt rs (200 * m)) ?U2 ?V2
  case V2 =>
    intro N J
    refine ⟨.int (m : Int), rfl, (m : Int), rfl, by omega, by omega, ?_⟩
    rw [show ((m : Int)).toNat = m from by omega]
    refine for_range (n := m) (fun i σ H' => ∃ (y3 y8 : Option V) (ws : List V) (rs : List Rat), σ = [some (.ref p), some (.int (m : Int)), some (.ref T), y3, y4, none, some (.ref g), some (.ref L), y8] ∧ FmAt H' g Fo ∧ But p H H' ∧ Pl H' p (b + 100 + 50 * i) ∧ H' L = some (.lst ws) ∧ Frs K H' ws rs ∧ rs.length = i ∧ Bt rs (200 * i)) ⟨_, _, [], [], rfl, hg7, g7, hp7.mono (by omega), eL, .nil, rfl, trivial⟩ ?_ ?_
    · rintro i σ H8 hi ⟨y3, y8, ws, rs, rfl, hg8, gg8, hp8, e8, fr8, lr, bt⟩
      have lw := Paired.length fr8
      repeat walk_at "st"
      refine ⟨p, _, rfl, hp8, by omega, fun t H9 b9 hp9 nt => ?_⟩
      have e9 := b9 _ _ (Ne.symm nLp) e8
      repeat walk_at "st"
      refine r_bm ?_
      repeat walk_at "st"
      refine ⟨.inl ⟨rfl, _, lstOf e9⟩, ?_⟩
      repeat walk_at "st"
      refine ⟨p, _, rfl, hp9, by omega, fun u H10 b10 hp10 nu => ?_⟩
      repeat walk_at "st"
      refine ⟨u, rfl, ?_⟩
      repeat walk_at "st"
      refine ⟨_, _, rfl, ?_⟩
      obtain ⟨w0, hw0, wp, ws0⟩ : ∃ w0 : Int, (if (if u < 0 then -u else u) > 1 then (if u < 0 then -u else u) else 1) = w0 ∧ w0 ≠ 0 ∧ Sm 200 w0 := by
        have su := sm60 nu
        have s1 : Sm 200 1 := by decide
        refine ⟨_, rfl, ?_, ?_⟩
        · split <;> omega
        · have sz' : Sm 200 (if u < 0 then -u else u) := by
            split
            · exact su.neg
            · exact su
          generalize (if u < 0 then -u else u) = z at *
          split
          · exact sz'
          · exact s1
      rw [hw0]
      clear hw0
      repeat walk_at "st"
      refine ⟨_, _, rfl, wp, ws0.mono (by decide), fun o H11 s11 n11 e11 => ?_⟩
      have b11 := (b9.trans b10).trans (But.same (p := p) s11)
      obtain ⟨fo, so⟩ := low_fq (K := K) e11 wp (sm60 nt) ws0
      have eL11 := b11 _ _ (Ne.symm nLp) e8
      have bL : But L H11 (upd H11 L (.lst (ws ++ [.ref o]))) := But.upd _ _ _
      have kt : Kt H11 (upd H11 L (.lst (ws ++ [.ref o]))) := Kt.lst eL11
      repeat walk_at "st"
      refine ⟨L, ws, .ref o, rfl, rfl, eL11, by rw [lw]; exact Nat.lt_of_le_of_lt (show _ ≤ 1000 by omega) (by decide), ?_⟩
      exact ⟨_, _, ws ++ [.ref o], rs ++ [_], rfl, hg8.kt ((Kt.but b11 hp8).trans kt), but_updR (gg8.trans b11) nL0, ((hp10.same s11).but nLp bL).mono (by omega), upd_same, ((fr8.plB hp8 b11).but eL11 bL).snoc (fo.but eL11 bL), by simp [lr], bt.snoc so⟩
    · rintro σ H8 ⟨y3, y8, ws, rs, rfl, hg8, gg8, hp8, e8, fr8, lr, bt⟩
      exact J _ _ ⟨_, _, ws, rs, rfl, hg8, gg8, hp8.mono (by omega), e8, fr8, lr, bt⟩
  rintro σ H8 ⟨y3, y8, ws, rs, rfl, hg8, gg8, hp8, e8, fr8, lr, bt⟩
  repeat walk_at "st"
  refine ⟨L, ws, rfl, .inl (lstOf e8), fun l nl => ?_⟩
  obtain ⟨H9, e9, s9, k9⟩ := nw nl (.lst ws)
  rw [← e9]
  clear e9
  have bt4 : Bt rs (200 * m + 4) := bt.mono (by omega)
  have t12 : (2 : Int).toNat * (200 * m + 4) ≤ 2808 := by
    show 2 * (200 * m + 4) ≤ 2808
    omega
  repeat walk_at "st"
  refine ⟨g, l, Fo, ws, rs, m, 210, 200 * m + 4, 2, rfl, hg8.kt (Kt.same s9), okF, by decide, by decide, by omega, sF, lstOf k9, fr8.up s9, lr, by omega, bt4, by omega, by omega, fun r H10 s10 n10 fq10 => ?_⟩
  have g10 := s9.trans s10
  repeat walk_at "st"
  refine ⟨g, L, Fo, ws, rs, m, 210, 200 * m + 4, 2, rfl, hg8.kt (Kt.same g10), okF, by decide, by decide, by omega, sF, lstOf (g10 _ _ e8), fr8.up g10, lr, by omega, bt4, by omega, by omega, by omega, fun v H11 s11 rq11 => ?_⟩
  repeat walk_at "st"
  refine ⟨.ref r, v, _, _, _, _, rfl, fq10.up s11, wR_sz lr bt4 okF (by decide) sF (by omega) rfl, rq11, rfl, by omega, by omega, ?_⟩
  exact q H11 (gg8.trans (But.same (g10.trans s11)))
theorem ok_law {f : Addr} {fd : FuncData} (F : FnP K "law" s_law f fd) (G_pool : Kn P w K mg base 1 "_law_pool" ["_law_script", "_law_at"] (spPool K)) (G_take : Kn P w K mg base 1 "_law_take" ["_law_pool_here", "_law_wide_here"] spTakeW) (G_drawn : Kn P w K mg base 4 "_law_drawn" ["_law_pool_here", "_law_many", "_law_most"] (spDrawn K)) (G_numbers : Kn P w K mg base 4 "_law_numbers" ["_law_pool_here", "_law_many"] (spNumbers K)) (G_l_worth : Kn P w K mg base 2 "_law_worth" ["_law_form", "_law_numbers_here"] (spLWorth K)) (G_worth : Kn P w K mg base 3 "worth" ["form", "numbers"] (spWorth K)) (G_is_worth : Kn P w K mg base 3 "_law_is_worth" ["_law_found", "_law_due"] (spIsWorth K)) (G_added : Kn P w K mg base 2 "added" ["form", "other"] (spAdded K)) (G_taken : Kn P w K mg base 3 "taken" ["form", "other"] (spTaken K)) (G_multiplied : Kn P w K mg base 3 "multiplied" ["form", "other"] (spMul K)) (G_put_in : Kn P w K mg base 2 "put_in" ["form", "at", "number"] (spPutIn K)) (G_l_plus : Kn P w K mg base 1 "_law_plus" ["_law_one", "_law_other"] (spR2 K (· + ·))) (G_l_less : Kn P w K mg base 1 "_law_less" ["_law_one", "_law_other"] (spR2 K (· - ·))) (G_l_times : Kn P w K mg base 1 "_law_times" ["_law_one", "_law_other"] (spR2 K (· * ·))) (G_great : Kn P w K mg base 5 "_law_great" ["_law_pool_here", "_law_many"] spGreatW) (G_wide : Kn P w K mg base 5 "_law_wide" ["_law_pool_here", "_law_many"] spGreatW) (z_max : mg "max" = none) (z_list : mg "list" = none) : FnOk P w K mg base CX0 (6 + 1) f fd ["_law_script"] (spLaw K) := by
  refine fnp_ok F sc_law (fun vs H Q E h => ?_) (fun cdv A outer s H vs Q E hr h => ?_)
  · obtain ⟨a, ns, rfl, _⟩ := h
    rfl
  obtain ⟨a, ns, rfl, hS, hl, q⟩ := h
  refine ⟨_, (pss_cons (ps_set (i := 1) sc_law.nd rfl (.inl rfl) (pe_kn G_pool (hr.mono (by decide)) (by rfl) (pa_cons (pv 0) (pa_cons pe_int pa_nil))))
    (pss_cons (ps_set (i := 2) sc_law.nd rfl (.inl rfl) (pe_kn G_take (hr.mono (by decide)) (by rfl) (pa_cons (pv 1) (pa_cons pe_int pa_nil))))
    (pss_cons (ps_set (i := 3) sc_law.nd rfl (.inl rfl) (pe_kn G_drawn (hr.mono (by decide)) (by rfl) (pa_cons (pv 1) (pa_cons (pv 2) (pa_cons pe_int pa_nil)))))
    (pss_cons (ps_set (i := 4) sc_law.nd rfl (.inl rfl) (pe_kn G_drawn (hr.mono (by decide)) (by rfl) (pa_cons (pe_kn G_pool (hr.mono (by decide)) (by rfl) (pa_cons (pv 0) (pa_cons pe_int pa_nil))) (pa_cons (pv 2) (pa_cons pe_int pa_nil)))))
    (pss_cons (ps_set (i := 5) sc_law.nd rfl (.inl rfl) (pe_kn G_drawn (hr.mono (by decide)) (by rfl) (pa_cons (pe_kn G_pool (hr.mono (by decide)) (by rfl) (pa_cons (pv 0) (pa_cons pe_int pa_nil))) (pa_cons (pv 2) (pa_cons pe_int pa_nil)))))
    (pss_cons (ps_set (i := 1) sc_law.nd rfl (.inl rfl) (pe_kn G_pool (hr.mono (by decide)) (by rfl) (pa_cons (pv 0) (pa_cons pe_int pa_nil))))
    (pss_cons (ps_set (i := 6) sc_law.nd rfl (.inl rfl) (pe_kn G_take (hr.mono (by decide)) (by rfl) (pa_cons (pv 1) (pa_cons (pe_callB (call_max2 (by rfl)) (by rfl) z_max (by decide +kernel) (pa_cons pe_int (pa_cons (pv 2) pa_nil))) pa_nil))))
    (pss_cons (ps_set (i := 7) sc_law.nd rfl (.inl rfl) (pe_op op_sub (pe_kn G_take (hr.mono (by decide)) (by rfl) (pa_cons (pv 1) (pa_cons pe_int pa_nil))) pe_int))
    (pss_cons (ps_set (i := 8) sc_law.nd rfl (.inl rfl) (pe_kn G_numbers (hr.mono (by decide)) (by rfl) (pa_cons (pv 1) (pa_cons (pv 2) pa_nil))))
    (pss_cons (ps_set (i := 9) sc_law.nd rfl (.inl rfl) (pe_callTy call_list_of (by rfl) z_list (by decide +kernel) (pa_cons (pv 8) pa_nil)))
    (pss_cons (ps_set (i := 10) sc_law.nd rfl (.inl rfl) (pe_kn G_l_worth (hr.mono (by decide)) (by rfl) (pa_cons (pv 3) (pa_cons (pv 8) pa_nil))))
    (pss_cons (ps_set (i := 11) sc_law.nd rfl (.inl rfl) (pe_kn G_l_worth (hr.mono (by decide)) (by rfl) (pa_cons (pv 4) (pa_cons (pv 8) pa_nil))))
    (pss_cons (ps_if (PW.pt (pw_or (pt_not (pt_val (pe_kn G_is_worth (hr.mono (by decide)) (by rfl) (pa_cons (pe_kn G_worth (hr.mono (by decide)) (by rfl) (pa_cons (pv 3) (pa_cons (pv 9) pa_nil))) (pa_cons (pv 10) pa_nil))))) (pw_or1 (pt_cmpR (op_neD hr.units) (pv 9) (pv 8) (nomark _)))))
    (pss_one (ps_ret pe_bl))
    pss_nil)
    (pss_cons (ps_expr (pe_bm PySem.F.plainAttrs_list PySem.F.slot_list_append PySem.F.type_list_append mt_append (pv 9) (pa_cons (pe_tup (pa_cons pe_int (pa_cons pe_int pa_nil))) pa_nil)))
    (pss_cons (ps_asg (pe_tup (pa_cons pe_int (pa_cons pe_int pa_nil))) (pg_sub (pv 9) pe_int set_list))
    (pss_cons (ps_if (pt_not (pt_val (pe_kn G_is_worth (hr.mono (by decide)) (by rfl) (pa_cons (pe_kn G_worth (hr.mono (by decide)) (by rfl) (pa_cons (pv 4) (pa_cons (pe_callTy call_list_of (by rfl) z_list (by decide +kernel) (pa_cons (pv 8) pa_nil)) pa_nil))) (pa_cons (pv 11) pa_nil)))))
    (pss_one (ps_ret pe_bl))
    pss_nil)
    (pss_cons (ps_if (pt_not (pt_val (pe_kn G_is_worth (hr.mono (by decide)) (by rfl) (pa_cons (pe_kn G_worth (hr.mono (by decide)) (by rfl) (pa_cons (pe_kn G_added (hr.mono (by decide)) (by rfl) (pa_cons (pv 3) (pa_cons (pv 4) pa_nil))) (pa_cons (pe_callTy call_list_of (by rfl) z_list (by decide +kernel) (pa_cons (pv 8) pa_nil)) pa_nil))) (pa_cons (pe_kn G_l_plus (hr.mono (by decide)) (by rfl) (pa_cons (pv 10) (pa_cons (pv 11) pa_nil))) pa_nil)))))
    (pss_one (ps_ret pe_bl))
    pss_nil)
    (pss_cons (ps_if (pt_not (pt_val (pe_kn G_is_worth (hr.mono (by decide)) (by rfl) (pa_cons (pe_kn G_worth (hr.mono (by decide)) (by rfl) (pa_cons (pe_kn G_taken (hr.mono (by decide)) (by rfl) (pa_cons (pv 3) (pa_cons (pv 4) pa_nil))) (pa_cons (pe_callTy call_list_of (by rfl) z_list (by decide +kernel) (pa_cons (pv 8) pa_nil)) pa_nil))) (pa_cons (pe_kn G_l_less (hr.mono (by decide)) (by rfl) (pa_cons (pv 10) (pa_cons (pv 11) pa_nil))) pa_nil)))))
    (pss_one (ps_ret pe_bl))
    pss_nil)
    (pss_cons (ps_if (pt_not (pt_val (pe_kn G_is_worth (hr.mono (by decide)) (by rfl) (pa_cons (pe_kn G_worth (hr.mono (by decide)) (by rfl) (pa_cons (pe_kn G_multiplied (hr.mono (by decide)) (by rfl) (pa_cons (pv 3) (pa_cons (pv 4) pa_nil))) (pa_cons (pe_callTy call_list_of (by rfl) z_list (by decide +kernel) (pa_cons (pv 8) pa_nil)) pa_nil))) (pa_cons (pe_kn G_l_times (hr.mono (by decide)) (by rfl) (pa_cons (pv 10) (pa_cons (pv 11) pa_nil))) pa_nil)))))
    (pss_one (ps_ret pe_bl))
    pss_nil)
    (pss_cons (ps_if (pt_cmpR op_gt (pv 2) pe_int (nomark _))
    (pss_cons (ps_set (i := 12) sc_law.nd rfl (.inl rfl) (pe_op op_cat (pe_op op_cat (pe_slice sl_list (pv 8) po_none (po_some (pv 6))) (pe_lst (pa_cons (pe_tup (pa_cons (pv 7) (pa_cons pe_int pa_nil))) pa_nil))) (pe_slice sl_list (pv 8) (po_some (pe_op op_add (pv 6) pe_int)) po_none)))
    (pss_one (ps_if (pt_not (pt_val (pe_kn G_is_worth (hr.mono (by decide)) (by rfl) (pa_cons (pe_kn G_worth (hr.mono (by decide)) (by rfl) (pa_cons (pe_kn G_put_in (hr.mono (by decide)) (by rfl) (pa_cons (pv 3) (pa_cons (pv 6) (pa_cons (pv 7) pa_nil)))) (pa_cons (pe_callTy call_list_of (by rfl) z_list (by decide +kernel) (pa_cons (pv 8) pa_nil)) pa_nil))) (pa_cons (pe_kn G_l_worth (hr.mono (by decide)) (by rfl) (pa_cons (pv 3) (pa_cons (pv 12) pa_nil))) pa_nil)))))
    (pss_one (ps_ret pe_bl))
    pss_nil)))
    pss_nil)
    (pss_cons (ps_if (PW.pt (pw_or (pt_cmpR (op_neD hr.units) (pe_kn G_worth (hr.mono (by decide)) (by rfl) (pa_cons (pe_tup pa_nil) (pa_cons (pe_callTy call_list_of (by rfl) z_list (by decide +kernel) (pa_cons (pv 8) pa_nil)) pa_nil))) (pe_tup (pa_cons pe_int (pa_cons pe_int pa_nil))) (nomark _)) (pw_or1 (pt_not (pt_val (pe_kn G_is_worth (hr.mono (by decide)) (by rfl) (pa_cons (pe_kn G_worth (hr.mono (by decide)) (by rfl) (pa_cons (pv 3) (pa_cons (pe_callTy call_list_of (by rfl) z_list (by decide +kernel) (pa_cons (pv 8) pa_nil)) pa_nil))) (pa_cons (pv 10) pa_nil))))))))
    (pss_one (ps_ret pe_bl))
    pss_nil)
    (pss_cons (ps_set (i := 13) sc_law.nd rfl (.inl rfl) (pe_kn G_multiplied (hr.mono (by decide)) (by rfl) (pa_cons (pe_kn G_added (hr.mono (by decide)) (by rfl) (pa_cons (pv 3) (pa_cons (pv 4) pa_nil))) (pa_cons (pv 5) pa_nil))))
    (pss_cons (ps_if (PW.pt (pw_or (pt_not (pt_val (pe_kn G_great (hr.mono (by decide)) (by rfl) (pa_cons (pe_kn G_pool (hr.mono (by decide)) (by rfl) (pa_cons (pv 0) (pa_cons pe_int pa_nil))) (pa_cons (pv 2) pa_nil))))) (pw_or1 (pt_not (pt_val (pe_kn G_wide (hr.mono (by decide)) (by rfl) (pa_cons (pe_kn G_pool (hr.mono (by decide)) (by rfl) (pa_cons (pv 0) (pa_cons pe_int pa_nil))) (pa_cons (pv 2) pa_nil))))))))
    (pss_one (ps_ret pe_bl))
    pss_nil)
    (pss_one (ps_ret (pe_and (pe_cmpR (op_eqD hr.units) (pv 13) (pe_kn G_added (hr.mono (by decide)) (by rfl) (pa_cons (pe_kn G_multiplied (hr.mono (by decide)) (by rfl) (pa_cons (pv 3) (pa_cons (pv 5) pa_nil))) (pa_cons (pe_kn G_multiplied (hr.mono (by decide)) (by rfl) (pa_cons (pv 4) (pa_cons (pv 5) pa_nil))) pa_nil))) (nomark _)) (pe_one (pe_cmpR (op_eqD hr.units) (pe_kn G_taken (hr.mono (by decide)) (by rfl) (pa_cons (pe_kn G_added (hr.mono (by decide)) (by rfl) (pa_cons (pv 3) (pa_cons (pv 4) pa_nil))) (pa_cons (pv 4) pa_nil))) (pv 3) (nomark _))))))))))))))))))))))))))))), ?_⟩
  show (_ : TS) _ [some (.ref a), none, none, none, none, none, none, none, none, none, none, none, none, none] _
  repeat walk_at "st"
  refine ⟨a, ns, _, rfl, hS, hl, by decide, by decide, fun p H1 g1 np hp1 => ?_⟩
  repeat walk_at "st"
  refine ⟨p, _, _, rfl, hp1, by omega, by decide, by decide, fun r2 H2 b2 hp2 r20 r21 => ?_⟩
  obtain ⟨m, rfl⟩ : ∃ m : Nat, r2 = (m : Int) := ⟨r2.toNat, by omega⟩
  repeat walk_at "st"
  refine ⟨p, m, 8, _, rfl, hp2, by omega, by omega, by decide, fun f1 F1 H3 b3 hp3 nf1 ff1 fs1 ok1 l1 sz1 => ?_⟩
  have g3 : Same H H3 := Same.but g1 np (b2.trans b3)
  have s1 : ∀ t ∈ F1, Sm 200 t.2 := fun t ht => sm60 (sz1 t ht)
  clear g1 hp1 b2 hp2 b3 hp3 np nf1
  repeat walk_at "st"
  refine ⟨a, ns, _, rfl, g3.seq hS, hl, by decide, by decide, fun p2 H4 g4 np2 hp4 => ?_⟩
  repeat walk_at "st"
  refine ⟨p2, m, 8, _, rfl, hp4, by omega, by omega, by decide, fun f2 F2 H5 b5 hp5 nf2 ff2 fs2 ok2 l2 sz2 => ?_⟩
  have g5 : Same H3 H5 := Same.but g4 np2 b5
  have s2 : ∀ t ∈ F2, Sm 200 t.2 := fun t ht => sm60 (sz2 t ht)
  replace ff1 := ff1.kt (Kt.same g5)
  replace g5 := g3.trans g5
  clear g4 np2 hp4 b5 hp5 nf2 g3
  repeat walk_at "st"
  refine ⟨a, ns, _, rfl, g5.seq hS, hl, by decide, by decide, fun p3 H6 g6 np3 hp6 => ?_⟩
  repeat walk_at "st"
  refine ⟨p3, m, 4, _, rfl, hp6, by omega, by omega, by decide, fun f3 F3 H7 b7 hp7 nf3 ff3 fs3 ok3 l3 sz3 => ?_⟩
  have g7 : Same H5 H7 := Same.but g6 np3 b7
  have s3 : ∀ t ∈ F3, Sm 200 t.2 := fun t ht => sm60 (sz3 t ht)
  replace ff1 := ff1.kt (Kt.same g7)
  replace ff2 := ff2.kt (Kt.same g7)
  replace g7 := g5.trans g7
  clear g6 np3 hp6 b7 hp7 nf3 g5
  repeat walk_at "st"
  refine ⟨a, ns, _, rfl, g7.seq hS, hl, by decide, by decide, fun p4 H8 g8 np4 hp8 => ?_⟩
  repeat walk_at "st"
  refine ⟨_, _, rfl, ?_⟩
  obtain ⟨mx, hmx, mx1, mx2, mx3⟩ : ∃ mx : Int, (if (m : Int) > 1 then (m : Int) else 1) = mx ∧ 1 ≤ mx ∧ mx ≤ 10 ∧ (0 < m → mx = (m : Int)) := ⟨_, rfl, by split <;> omega, by split <;> omega, fun h => by split <;> omega⟩
  rw [hmx]
  clear hmx
  repeat walk_at "st"
  refine ⟨p4, _, _, rfl, hp8, by omega, by omega, by omega, fun at_ H9 b9 hp9 a90 a91 => ?_⟩
  obtain ⟨at', rfl⟩ : ∃ at' : Nat, at_ = (at' : Int) := ⟨at_.toNat, by omega⟩
  repeat walk_at "st"
  refine ⟨p4, _, _, rfl, hp9, by omega, by decide, by decide, fun n9 H10 b10 hp10 n90 n91 => ?_⟩
  obtain ⟨n, hn⟩ : ∃ n : Int, n9 - 4 = n := ⟨_, rfl⟩
  have hn4 : Sm 4 n := by unfold Sm; omega
  repeat walk_at "st"
  rw [hn]
  repeat walk_at "st"
  refine ⟨p4, m, _, rfl, hp10, by omega, by omega, fun L ws rs H11 b11 hp11 nL eL fr lr bt => ?_⟩
  have g11 : Same H7 H11 := Same.but g8 np4 (b9.trans (b10.trans b11))
  replace ff1 := ff1.kt (Kt.same g11)
  replace ff2 := ff2.kt (Kt.same g11)
  replace ff3 := ff3.kt (Kt.same g11)
  replace g11 := g7.trans g11
  clear g8 np4 hp8 b9 hp9 b10 hp10 b11 hp11 nL g7
  repeat walk_at "st"
  refine ⟨L, ws, rfl, .inl (lstOf eL), fun h nh => ?_⟩
  obtain ⟨H12, e12, s12, k12⟩ := nw nh (.lst ws)
  rw [← e12]
  clear e12
  have lw := Paired.length fr
  have nLh : L ≠ h := fun e => by rw [e, nh] at eL; cases eL
  have nh0 : H h = none := g11.free nh
  repeat walk_at "st"
  refine ⟨f1, L, F1, ws, rs, m, 200, 90, 12, rfl, ff1.kt (Kt.same s12), ok1, by decide, by decide, by omega, s1, lstOf (s12 _ _ eL), fr.up s12, lr, by omega, bt, by decide, by decide, by decide, fun v1 H13 s13 w1 => ?_⟩
  have t13 := s12.trans s13
  repeat walk_at "st"
  refine ⟨f2, L, F2, ws, rs, m, 200, 90, 12, rfl, ff2.kt (Kt.same t13), ok2, by decide, by decide, by omega, s2, lstOf (t13 _ _ eL), fr.up t13, lr, by omega, bt, by decide, by decide, by decide, fun v2 H14 s14 w2 => ?_⟩
  have t14 := t13.trans s14
  replace w1 := w1.up s14
  have k14 := s14 _ _ (s13 _ _ k12)
  replace ff1 := ff1.kt (Kt.same t14)
  replace ff2 := ff2.kt (Kt.same t14)
  replace ff3 := ff3.kt (Kt.same t14)
  replace eL := t14 _ _ eL
  replace fr := fr.up t14
  replace g11 := g11.trans t14
  have c0 : (0 : Int) ≤ 12 := by decide
  have z1 := wR_sz lr bt ok1 c0 s1 (by omega) rfl
  have z2 := wR_sz lr bt ok2 c0 s2 (by omega) rfl
  clear s12 s13 s14 t13 t14 k12 nh
  repeat walk_at "st"
  refine r_seq ?_
  repeat walk_at "st"
  refine ⟨f1, h, F1, ws, rs, m, 200, 90, 12, rfl, ff1, ok1, by decide, by decide, by omega, s1, lstOf k14, fr, lr, by omega, bt, by decide, by decide, fun r H15 s15 n15 q15 => ?_⟩
  repeat walk_at "st"
  refine ⟨.ref r, v1, _, _, _, _, rfl, q15, z1, w1.up s15, rfl, by decide, by decide, ?_⟩
  repeat walk_at "st"
  refine r_neFrs (lstOf (s15 _ _ k14)) (lstOf (s15 _ _ eL)) (fr.up s15) ?_
  repeat walk_at "st"
  refine r_bm ?_
  repeat walk_at "st"
  refine ⟨.inl ⟨rfl, _, lstOf (s15 _ _ k14)⟩, ?_⟩
  repeat walk_at "st"
  refine ⟨sz rfl, fun o1 no1 => ?_⟩
  obtain ⟨H16, e16, s16, k16⟩ := nw no1 (.tup [V.int 1, .int 2])
  rw [← e16]
  clear e16
  have t16 := s15.trans s16
  have h16 := t16 _ _ k14
  repeat walk_at "st"
  refine ⟨h, ws, .ref o1, rfl, rfl, h16, by rw [lw]; exact Nat.lt_of_le_of_lt (show _ ≤ 1000 by omega) (by decide), ?_⟩
  have bA : But h H16 (upd H16 h (.lst (ws ++ [V.ref o1]))) := But.upd _ _ _
  have kA : Kt H16 (upd H16 h (.lst (ws ++ [V.ref o1]))) := Kt.lst h16
  have eA : upd H16 h (.lst (ws ++ [V.ref o1])) h = some (.lst (ws ++ [V.ref o1])) := upd_same
  have gA : Same H (upd H16 h (.lst (ws ++ [V.ref o1]))) := same_updS (g11.trans t16) nh0
  have LA := bA _ _ nLh (t16 _ _ eL)
  have frA := (fr.up t16).but h16 bA
  have w1A := (w1.up t16).but h16 bA
  have w2A := (w2.up t16).but h16 bA
  have k3A := (Kt.same t16).trans kA
  generalize upd H16 h (.lst (ws ++ [V.ref o1])) = H17 at *
  repeat walk_at "st"
  refine ⟨sz rfl, fun o2 no2 => ?_⟩
  obtain ⟨H18, e18, s18, k18⟩ := nw no2 (.tup [V.int 7, .int 3])
  rw [← e18]
  clear e18
  have h18 := s18 _ _ eA
  repeat walk_at "st"
  refine r_setL (j := 0) h18 (by unfold ixN; rw [if_pos (by decide), if_pos (by simp)]; rfl) ?_
  have bB : But h H18 (upd H18 h (.lst ((ws ++ [V.ref o1]).set 0 (V.ref o2)))) := But.upd _ _ _
  have kB : Kt H18 (upd H18 h (.lst ((ws ++ [V.ref o1]).set 0 (V.ref o2)))) := Kt.lst h18
  have gB : Same H (upd H18 h (.lst ((ws ++ [V.ref o1]).set 0 (V.ref o2)))) := same_updS (gA.trans s18) nh0
  have LB := bB _ _ nLh (s18 _ _ LA)
  have frB := (frA.up s18).but h18 bB
  have w1B := (w1A.up s18).but h18 bB
  have w2B := (w2A.up s18).but h18 bB
  have k3B := k3A.trans ((Kt.same s18).trans kB)
  have ff1B := ff1.kt k3B
  have ff2B := ff2.kt k3B
  have ff3B := ff3.kt k3B
  generalize upd H18 h (.lst ((ws ++ [V.ref o1]).set 0 (V.ref o2))) = Hm at *
  clear bB kB gA LA frA w1A w2A k3A k3B h18 s18 k18 no2 eA kA bA h16 t16 s16 k16 no1 q15 n15 s15 k14 ff1 ff2 ff3 fr w1 w2 eL g11 nh0
  have all : ∀ {H' : Hp}, Same Hm H' → FmAt H' f1 F1 ∧ FmAt H' f2 F2 ∧ FmAt H' f3 F3 ∧ SqL K H' L ws ∧ Frs K H' ws rs ∧ Rq K H' v1 (wR rs F1) (200 + (12 : Int).toNat * 90 + 12) ∧ Rq K H' v2 (wR rs F2) (200 + (12 : Int).toNat * 90 + 12) ∧ Same H H' := fun s' =>
    ⟨ff1B.kt (Kt.same s'), ff2B.kt (Kt.same s'), ff3B.kt (Kt.same s'), lstOf (s' _ _ LB), frB.up s', w1B.up s', w2B.up s', gB.trans s'⟩
  have LL : ∀ {H' : Hp}, Same Hm H' → H' L = some (.lst ws) := fun s' => s' _ _ LB
  clear ff1B ff2B ff3B LB frB w1B w2B gB
  have lr' : m = rs.length := lr.symm
  have s1b : ∀ t ∈ F1, Sm 100000 t.2 := fun t ht => (s1 t ht).mono (by decide)
  have s2b : ∀ t ∈ F2, Sm 100000 t.2 := fun t ht => (s2 t ht).mono (by decide)
  have s3b : ∀ t ∈ F3, Sm 100000 t.2 := fun t ht => (s3 t ht).mono (by decide)
  have o12 := okT_oks ok1 lr
  have o22 := okT_oks ok2 lr
  have lnA : (F1 ++ F2).length ≤ 20 := by rw [List.length_append]; omega
  have lnN : (F1 ++ negT F2).length ≤ 20 := by have : (negT F2).length = F2.length := List.length_map _; rw [List.length_append]; omega
  have ln12 : (mulT F1 F2).length ≤ 64 := by rw [mul_len]; exact Nat.mul_le_mul l1 l2
  have lm12 : F1.length * F2.length ≤ 4000 := Nat.le_trans (Nat.mul_le_mul l1 l2) (by decide)
  have lm13 : F1.length * F3.length ≤ 4000 := Nat.le_trans (Nat.mul_le_mul l1 l3) (by decide)
  have lm23 : F2.length * F3.length ≤ 4000 := Nat.le_trans (Nat.mul_le_mul l2 l3) (by decide)
  -- the second form
  repeat walk_at "st"
  refine r_seq ?_
  repeat walk_at "st"
  obtain ⟨x1, x2, x3, x4, x5, x6, x7, x8⟩ := all (Same.refl _)
  refine ⟨L, ws, rfl, .inl x4, fun l nl => ?_⟩
  obtain ⟨H20, e20, s20, k20⟩ := nw nl (.lst ws)
  rw [← e20]
  clear e20
  repeat walk_at "st"
  refine ⟨f2, l, F2, ws, rs, m, 200, 90, 12, rfl, x2.kt (Kt.same s20), ok2, by decide, by decide, by omega, s2, lstOf k20, x5.up s20, lr, by omega, bt, by decide, by decide, fun r H21 s21 n21 q21 => ?_⟩
  repeat walk_at "st"
  refine ⟨.ref r, v2, _, _, _, _, rfl, q21, z2, x7.up (s20.trans s21), rfl, by decide, by decide, ?_⟩
  have T1 := s20.trans s21
  clear s20 s21 k20 nl n21 q21 x1 x2 x3 x4 x5 x6 x7 x8
  -- the sum
  repeat walk_at "st"
  refine r_seq ?_
  repeat walk_at "st"
  obtain ⟨x1, x2, x3, x4, x5, x6, x7, x8⟩ := all T1
  refine ⟨f1, f2, F1, F2, m, 12, rfl, x1, x2, ok1, ok2, by omega, by omega, fun a1 A1 H22 s22 n22 fa1 ma1 => ?_⟩
  repeat walk_at "st"
  refine ⟨L, ws, rfl, .inl (s22.seq x4), fun l nl => ?_⟩
  obtain ⟨H23, e23, s23, k23⟩ := nw nl (.lst ws)
  rw [← e23]
  clear e23
  have okA := ma1.ok (app_ok ok1 ok2)
  have lA := ma1.len
  have sA : ∀ t ∈ A1, Sm 210 t.2 := fun t ht => (ma1.sm (app_sm s1 s2) (by omega) t ht).mono (by decide)
  repeat walk_at "st"
  refine ⟨a1, l, A1, ws, rs, m, 210, 90, 12, rfl, fa1.kt (Kt.same s23), okA, by decide, by decide, by omega, sA, lstOf k23, (x5.up s22).up s23, lr, by omega, bt, by decide, by decide, fun r H24 s24 n24 q24 => ?_⟩
  have t24 := s22.trans (s23.trans s24)
  repeat walk_at "st"
  refine ⟨v1, v2, _, _, _, _, rfl, x6.up t24, x7.up t24, by decide, by decide, fun v H25 s25 w25 => ?_⟩
  repeat walk_at "st"
  refine ⟨.ref r, v, _, _, _, _, rfl, q24.up s25, wR_sz lr bt okA c0 sA (by omega) rfl, w25, (ma1.wR lr' (app_ok ok1 ok2)).trans (wR_app _ _), by decide, by decide, ?_⟩
  have T2 := T1.trans (t24.trans s25)
  clear s22 s23 s24 s25 t24 n22 n24 nl k23 fa1 ma1 okA lA sA q24 w25 x1 x2 x3 x4 x5 x6 x7 x8 T1
  -- the difference
  repeat walk_at "st"
  refine r_seq ?_
  repeat walk_at "st"
  obtain ⟨x1, x2, x3, x4, x5, x6, x7, x8⟩ := all T2
  refine ⟨f1, f2, F1, F2, m, 12, rfl, x1, x2, ok1, ok2, by omega, by omega, s2b, fun a1 A1 H22 s22 n22 fa1 ma1 => ?_⟩
  repeat walk_at "st"
  refine ⟨L, ws, rfl, .inl (s22.seq x4), fun l nl => ?_⟩
  obtain ⟨H23, e23, s23, k23⟩ := nw nl (.lst ws)
  rw [← e23]
  clear e23
  have okA := ma1.ok (app_ok ok1 (neg_ok ok2))
  have lA := ma1.len
  have sA : ∀ t ∈ A1, Sm 210 t.2 := fun t ht => (ma1.sm (app_sm s1 (neg_sm s2)) (by omega) t ht).mono (by decide)
  repeat walk_at "st"
  refine ⟨a1, l, A1, ws, rs, m, 210, 90, 12, rfl, fa1.kt (Kt.same s23), okA, by decide, by decide, by omega, sA, lstOf k23, (x5.up s22).up s23, lr, by omega, bt, by decide, by decide, fun r H24 s24 n24 q24 => ?_⟩
  have t24 := s22.trans (s23.trans s24)
  repeat walk_at "st"
  refine ⟨v1, v2, _, _, _, _, rfl, x6.up t24, x7.up t24, by decide, by decide, fun v H25 s25 w25 => ?_⟩
  repeat walk_at "st"
  refine ⟨.ref r, v, _, _, _, _, rfl, q24.up s25, wR_sz lr bt okA c0 sA (by omega) rfl, w25, (ma1.wR lr' (app_ok ok1 (neg_ok ok2))).trans (by rw [wR_app, wR_neg]; exact (Rat.sub_eq_add_neg _ _).symm), by decide, by decide, ?_⟩
  have T3 := T2.trans (t24.trans s25)
  clear s22 s23 s24 s25 t24 n22 n24 nl k23 fa1 ma1 okA lA sA q24 w25 x1 x2 x3 x4 x5 x6 x7 x8 T2
  -- the product
  repeat walk_at "st"
  refine r_seq ?_
  repeat walk_at "st"
  obtain ⟨x1, x2, x3, x4, x5, x6, x7, x8⟩ := all T3
  refine ⟨f1, f2, F1, F2, m, 12, rfl, x1, x2, ok1, ok2, c0, by decide, by omega, lm12, by omega, by omega, s1b, s2b, fun a1 A1 H22 s22 n22 fa1 ma1 => ?_⟩
  repeat walk_at "st"
  refine ⟨L, ws, rfl, .inl (s22.seq x4), fun l nl => ?_⟩
  obtain ⟨H23, e23, s23, k23⟩ := nw nl (.lst ws)
  rw [← e23]
  clear e23
  have okA := ma1.ok (mul_ok ok1 ok2)
  have lA := ma1.len
  have sA : ∀ t ∈ A1, Sm 410 t.2 := fun t ht => (ma1.sm (mul_sm s1 s2) (by omega) t ht).mono (by decide)
  repeat walk_at "st"
  refine ⟨a1, l, A1, ws, rs, m, 410, 90, 12 + 12, rfl, fa1.kt (Kt.same s23), okA, by decide, by decide, by omega, sA, lstOf k23, (x5.up s22).up s23, lr, by omega, bt, by decide, by decide, fun r H24 s24 n24 q24 => ?_⟩
  have t24 := s22.trans (s23.trans s24)
  repeat walk_at "st"
  refine ⟨v1, v2, _, _, _, _, rfl, x6.up t24, x7.up t24, by decide, by decide, fun v H25 s25 w25 => ?_⟩
  repeat walk_at "st"
  refine ⟨.ref r, v, _, _, _, _, rfl, q24.up s25, wR_sz lr bt okA (by decide) sA (by omega) rfl, w25, (ma1.wR lr' (mul_ok ok1 ok2)).trans (wR_mul o22 o12), by decide, by decide, ?_⟩
  have T4 := T3.trans (t24.trans s25)
  clear s22 s23 s24 s25 t24 n22 n24 nl k23 fa1 ma1 okA lA sA q24 w25 x1 x2 x3 x4 x5 x6 x7 x8 T3
  repeat walk_at "st"


  with_reducible refine r_cut (fun σ H' => ∃ (y12 : Option V), σ = [some (.ref a), some (.ref p4), some (.int (m : Int)), some (.ref f1), some (.ref f2), some (.ref f3), some (.int (at' : Int)), some (.int n), some (.ref L), some (.ref h), some v1, some v2, y12, none] ∧ Same Hm H') ?U1 ?V1
  case V1 =>
    intro N J
    repeat walk_at "st"
    refine r_ite (fun c => ?_) (fun c => ?_)
    · obtain ⟨x1, x2, x3, x4, x5, x6, x7, x8⟩ := all T4
      have am : at' < m := by have := mx3 (by omega); omega
      repeat walk_at "st"
      refine r_slR ?_
      repeat walk_at "st"
      refine r_noPart ?_
      refine r_partR ?_
      repeat walk_at "st"
      refine ⟨L, ws, rfl, x4, fun b1 nb1 => ?_⟩
      obtain ⟨H31, e31, s31, k31⟩ := nw nb1 (.lst (cutV ws none (some (at' : Int))))
      rw [← e31]
      clear e31
      rw [cut_take (by omega)] at k31
      repeat walk_at "st"
      refine ⟨sz rfl, fun b2 nb2 => ?_⟩
      obtain ⟨H32, e32, s32, k32⟩ := nw nb2 (.tup [V.int n, .int 1])
      rw [← e32]
      clear e32
      repeat walk_at "st"
      refine ⟨sz rfl, fun b3 nb3 => ?_⟩
      obtain ⟨H33, e33, s33, k33⟩ := nw nb3 (.lst [V.ref b2])
      rw [← e33]
      clear e33
      have t33 := s31.trans (s32.trans s33)
      repeat walk_at "st"
      refine Mb.r_catL (s33 _ _ (s32 _ _ k31)) k33 (Nat.le_trans (show _ ≤ 1000 by simp; omega) (by decide)) fun b4 H34 s34 k34 => ?_
      have t34 := t33.trans s34
      repeat walk_at "st"
      refine r_slR ?_
      repeat walk_at "st"
      refine r_partR ?_
      repeat walk_at "st"
      refine r_noPart ?_
      refine ⟨L, ws, rfl, t34.seq x4, fun b5 nb5 => ?_⟩
      obtain ⟨H35, e35, s35, k35⟩ := nw nb5 (.lst (cutV ws (some ((at' : Int) + 1)) none))
      rw [← e35]
      clear e35
      rw [cut_drop (by omega)] at k35
      repeat walk_at "st"
      refine Mb.r_catL (s35 _ _ k34) k35 (Nat.le_trans (show _ ≤ 1000 by simp; omega) (by decide)) fun b6 H36 s36 k36 => ?_
      rw [set_parts (by omega)] at k36
      have t36 := t34.trans (s35.trans s36)
      have fn : Fq K H36 (.ref b2) (n : Rat) := Fq.int ((s33.trans (s34.trans (s35.trans s36))) _ _ k32)
      have frS := frs_set fn at' (x5.up t36)
      have btS : Bt (rs.set at' (n : Rat)) 94 := bt.set (Sz.int hn4 (by decide)) at'
      have lrS : (rs.set at' (n : Rat)).length = m := by rw [List.length_set, lr]
      have T5 := T4.trans t36
      clear s31 k31 nb1 s32 k32 nb2 s33 k33 nb3 t33 s34 k34 t34 s35 k35 nb5 s36 fn x1 x2 x3 x4 x5 x6 x7 x8
      repeat walk_at "st"
      obtain ⟨x1, x2, x3, x4, x5, x6, x7, x8⟩ := all T5
      refine ⟨f1, F1, at', m, 4, 200, 12, n, rfl, x1, ok1, c0, by decide, am, by omega, by omega, hn4, by decide, by decide, s1, by decide, by decide, fun a1 A1 H22 s22 n22 fa1 ma1 => ?_⟩
      repeat walk_at "st"
      refine ⟨L, ws, rfl, .inl (s22.seq x4), fun l nl => ?_⟩
      obtain ⟨H23, e23, s23, k23⟩ := nw nl (.lst ws)
      rw [← e23]
      clear e23
      have okA := ma1.ok (put_ok c0 ok1)
      have lp : (putT at' n F1).length = F1.length := List.length_map _
      have lA := ma1.len
      have sA : ∀ t ∈ A1, Sm 300 t.2 := fun t ht => (ma1.sm (put_sm ok1 am hn4 s1) (by omega) t ht).mono (by decide)
      repeat walk_at "st"
      refine ⟨a1, l, A1, ws, rs, m, 300, 90, 12, rfl, fa1.kt (Kt.same s23), okA, by decide, by decide, by omega, sA, lstOf k23, (x5.up s22).up s23, lr, by omega, bt, by decide, by decide, fun r H24 s24 n24 q24 => ?_⟩
      have t24 := s22.trans (s23.trans s24)
      repeat walk_at "st"
      refine ⟨f1, b6, F1, _, _, m, 200, 94, 12, rfl, x1.kt (Kt.same t24), ok1, by decide, by decide, by omega, s1, lstOf (t24 _ _ k36), frS.up t24, lrS, by omega, btS, by decide, by decide, by decide, fun v H25 s25 w25 => ?_⟩
      repeat walk_at "st"
      refine ⟨.ref r, v, _, _, _, _, rfl, q24.up s25, wR_sz lr bt okA c0 sA (by omega) rfl, w25, (ma1.wR lr' (put_ok c0 ok1)).trans (wR_put (by omega) fun u hu => (o12 u hu).1), by decide, by decide, ?_⟩
      repeat walk_at "st"
      exact J _ _ ⟨_, rfl, T5.trans (t24.trans s25)⟩
    · repeat walk_at "st"
      exact J _ _ ⟨_, rfl, T4⟩
  rintro σ H30 ⟨y12, rfl, T5⟩
  clear T4
  -- nought
  repeat walk_at "st"
  refine r_seq ?_
  repeat walk_at "st"
  obtain ⟨x1, x2, x3, x4, x5, x6, x7, x8⟩ := all T5
  have nok : OkT m 12 [] := fun t ht => by cases ht
  refine ⟨sz rfl, fun z nz => ?_⟩
  obtain ⟨H31, e31, s31, k31⟩ := nw nz (.tup [])
  rw [← e31]
  clear e31
  repeat walk_at "st"
  refine ⟨L, ws, rfl, .inl (s31.seq x4), fun l nl => ?_⟩
  obtain ⟨H32, e32, s32, k32⟩ := nw nl (.lst ws)
  rw [← e32]
  clear e32
  repeat walk_at "st"
  refine ⟨z, l, [], ws, rs, m, 200, 90, 12, rfl, ⟨[], s32 _ _ k31, .nil⟩, nok, by decide, by decide, by decide, (fun t ht => by cases ht), lstOf k32, (x5.up s31).up s32, lr, by omega, bt, by decide, by decide, fun r H33 s33 n33 q33 => ?_⟩
  repeat walk_at "st"
  refine ⟨sz rfl, fun z2 nz2 => ?_⟩
  obtain ⟨H34, e34, s34, k34⟩ := nw nz2 (.tup [V.int 0, .int 1])
  rw [← e34]
  clear e34
  repeat walk_at "st"
  refine r_neQ (q33.up s34) (Fq.int k34) (by rw [wR_nil]; rfl) ?_
  have T6 := T5.trans (s31.trans (s32.trans (s33.trans s34)))
  clear s31 k31 nz s32 k32 nl s33 n33 q33 s34 k34 nz2 x1 x2 x3 x4 x5 x6 x7 x8 T5
  obtain ⟨x1, x2, x3, x4, x5, x6, x7, x8⟩ := all T6
  repeat walk_at "st"
  refine ⟨L, ws, rfl, .inl x4, fun l nl => ?_⟩
  obtain ⟨H20, e20, s20, k20⟩ := nw nl (.lst ws)
  rw [← e20]
  clear e20
  repeat walk_at "st"
  refine ⟨f1, l, F1, ws, rs, m, 200, 90, 12, rfl, x1.kt (Kt.same s20), ok1, by decide, by decide, by omega, s1, lstOf k20, x5.up s20, lr, by omega, bt, by decide, by decide, fun r H21 s21 n21 q21 => ?_⟩
  repeat walk_at "st"
  refine ⟨.ref r, v1, _, _, _, _, rfl, q21, z1, x6.up (s20.trans s21), rfl, by decide, by decide, ?_⟩
  have T7 := T6.trans (s20.trans s21)
  clear s20 s21 k20 nl n21 q21 x1 x2 x3 x4 x5 x6 x7 x8 T6
  -- the two ways
  repeat walk_at "st"
  obtain ⟨x1, x2, x3, x4, x5, x6, x7, x8⟩ := all T7
  refine ⟨f1, f2, F1, F2, m, 12, rfl, x1, x2, ok1, ok2, by omega, by omega, fun a1 A1 H22 s22 n22 fa1 ma1 => ?_⟩
  have okA := ma1.ok (app_ok ok1 ok2)
  have lA := ma1.len
  have sA : ∀ t ∈ A1, Sm 100000 t.2 := fun t ht => (ma1.sm (app_sm s1 s2) (by omega) t ht).mono (by decide)
  have lmA : A1.length * F3.length ≤ 4000 := Nat.le_trans (Nat.mul_le_mul (show A1.length ≤ 20 by omega) l3) (by decide)
  repeat walk_at "st"
  refine ⟨a1, f3, A1, F3, m, 12, rfl, fa1, x3.kt (Kt.same s22), okA, ok3, c0, by decide, by omega, lmA, by omega, by omega, sA, s3b, fun g1 R1 H23 s23 n23 fg1 mg1 => ?_⟩
  have T8 := T7.trans (s22.trans s23)
  clear fa1 s22 s23 n22 n23 x1 x2 x3 x4 x5 x6 x7 x8 T7
  repeat walk_at "st"
  refine r_seq ?_
  repeat walk_at "st"
  obtain ⟨x1, x2, x3, x4, x5, x6, x7, x8⟩ := all T8
  refine ⟨a, ns, _, rfl, x8.seq hS, hl, by decide, by decide, fun p5 H40 g40 np5 hp40 => ?_⟩
  repeat walk_at "st"
  refine ⟨p5, m, _, rfl, hp40, by omega, by omega, fun H41 b41 => ?_⟩
  have g41 := Same.but g40 np5 b41
  repeat walk_at "st"
  refine ⟨a, ns, _, rfl, (x8.trans g41).seq hS, hl, by decide, by decide, fun p6 H42 g42 np6 hp42 => ?_⟩
  repeat walk_at "st"
  refine ⟨p6, m, _, rfl, hp42, by omega, by omega, fun H43 b43 => ?_⟩
  have g43 := Same.but g42 np6 b43
  have T9 := T8.trans (g41.trans g43)
  have fg := fg1.kt (Kt.same (g41.trans g43))
  clear fg1 g40 np5 hp40 b41 g42 np6 hp42 b43 g41 g43 x1 x2 x3 x4 x5 x6 x7 x8 T8
  have l13 : (mulT F1 F3).length ≤ 32 := by rw [mul_len]; exact Nat.mul_le_mul l1 l3
  have l23 : (mulT F2 F3).length ≤ 32 := by rw [mul_len]; exact Nat.mul_le_mul l2 l3
  repeat walk_at "st"
  obtain ⟨x1, x2, x3, x4, x5, x6, x7, x8⟩ := all T9
  refine ⟨f1, f3, F1, F3, m, 12, rfl, x1, x3, ok1, ok3, c0, by decide, by omega, lm13, by omega, by omega, s1b, s3b, fun a2 A2 H44 s44 n44 fa2 ma2 => ?_⟩
  repeat walk_at "st"
  refine ⟨f2, f3, F2, F3, m, 12, rfl, x2.kt (Kt.same s44), x3.kt (Kt.same s44), ok2, ok3, c0, by decide, by omega, lm23, by omega, by omega, s2b, s3b, fun a3 A3 H45 s45 n45 fa3 ma3 => ?_⟩
  have lA2 := ma2.len
  have lA3 := ma3.len
  repeat walk_at "st"
  refine ⟨a2, a3, A2, A3, m, 12 + 12, rfl, fa2.kt (Kt.same s45), fa3, ma2.ok (mul_ok ok1 ok3), ma3.ok (mul_ok ok2 ok3), by omega, by omega, fun a4 A4 H46 s46 n46 fa4 ma4 => ?_⟩
  have e4 : A4 = R1 := ma4.uniq mg1 fun k => by
    rw [sumK_app, ma2.sum, ma3.sum, ← sumK_app, ← mul_app]
    exact (mul_same ma1.sum k).symm
  rw [e4] at fa4
  have fgB := fg.kt (Kt.same (s44.trans (s45.trans s46)))
  repeat walk_at "st"
  refine r_eqForm fgB fa4 ?_
  have T10 := T9.trans (s44.trans (s45.trans s46))
  clear x1 x2 x3 x4 x5 x6 x7 x8 s44 s45 s46 fa2 fa3 n44 n45 n46 T9
  repeat walk_at "st"
  obtain ⟨x1, x2, x3, x4, x5, x6, x7, x8⟩ := all T10
  refine ⟨f1, f2, F1, F2, m, 12, rfl, x1, x2, ok1, ok2, by omega, by omega, fun a5 A5 H47 s47 n47 fa5 ma5 => ?_⟩
  have lA5 := ma5.len
  repeat walk_at "st"
  refine ⟨a5, f2, A5, F2, m, 12, rfl, fa5, x2.kt (Kt.same s47), ma5.ok (app_ok ok1 ok2), ok2, by omega, by omega, s2b, fun a6 A6 H48 s48 n48 fa6 ma6 => ?_⟩
  have e6 : A6 = F1 := ma6.uniq fs1 fun k => by
    rw [sumK_app, sumK_neg, ma5.sum, sumK_app]
    omega
  rw [e6] at fa6
  repeat walk_at "st"
  refine r_eqForm fa6 (x1.kt (Kt.same (s47.trans s48))) ?_
  exact q _
end
end Mb
namespace Mb
open PySem PySem.Spec PyProof.Rows L2
def d_common_divisor : He.DefD := ⟨("common_divisor", none), "common_divisor", "common_divisor", defArgs s_common_divisor, defBody s_common_divisor, defScope s_common_divisor, [], []⟩
def d_fraction : He.DefD := ⟨("fraction", none), "fraction", "fraction", defArgs s_fraction, defBody s_fraction, defScope s_fraction, [], []⟩
def d_added : He.DefD := ⟨("added", none), "added", "added", defArgs s_added, defBody s_added, defScope s_added, [], []⟩
def d_taken : He.DefD := ⟨("taken", none), "taken", "taken", defArgs s_taken, defBody s_taken, defScope s_taken, [], []⟩
def d_scaled : He.DefD := ⟨("scaled", none), "scaled", "scaled", defArgs s_scaled, defBody s_scaled, defScope s_scaled, [], []⟩
def d_multiplied : He.DefD := ⟨("multiplied", none), "multiplied", "multiplied", defArgs s_multiplied, defBody s_multiplied, defScope s_multiplied, [], []⟩
def d_put_in : He.DefD := ⟨("put_in", none), "put_in", "put_in", defArgs s_put_in, defBody s_put_in, defScope s_put_in, [], []⟩
def d_worth : He.DefD := ⟨("worth", none), "worth", "worth", defArgs s_worth, defBody s_worth, defScope s_worth, [], []⟩
def d_summed : He.DefD := ⟨("summed", none), "summed", "summed", defArgs s_summed, defBody s_summed, defScope s_summed, [], []⟩
def d_greatest_power : He.DefD := ⟨("greatest_power", none), "greatest_power", "greatest_power", defArgs s_greatest_power, defBody s_greatest_power, defScope s_greatest_power, [], []⟩
def d_powers_of : He.DefD := ⟨("powers_of", none), "powers_of", "powers_of", defArgs s_powers_of, defBody s_powers_of, defScope s_powers_of, [], []⟩
def d_packed : He.DefD := ⟨("packed", none), "packed", "packed", defArgs s_packed, defBody s_packed, defScope s_packed, [], []⟩
def d_joined : He.DefD := ⟨("joined", none), "joined", "joined", defArgs s_joined, defBody s_joined, defScope s_joined, [], []⟩
def d_unpacked : He.DefD := ⟨("unpacked", none), "unpacked", "unpacked", defArgs s_unpacked, defBody s_unpacked, defScope s_unpacked, [], []⟩
def d_pool : He.DefD := ⟨("_law_pool", none), "_law_pool", "_law_pool", defArgs s_pool, defBody s_pool, defScope s_pool, [], []⟩
def d_take : He.DefD := ⟨("_law_take", none), "_law_take", "_law_take", defArgs s_take, defBody s_take, defScope s_take, [], []⟩
def d_gcd : He.DefD := ⟨("_law_gcd", none), "_law_gcd", "_law_gcd", defArgs s_gcd, defBody s_gcd, defScope s_gcd, [], []⟩
def d_low : He.DefD := ⟨("_law_low", none), "_law_low", "_law_low", defArgs s_low, defBody s_low, defScope s_low, [], []⟩
def d_l_plus : He.DefD := ⟨("_law_plus", none), "_law_plus", "_law_plus", defArgs s_l_plus, defBody s_l_plus, defScope s_l_plus, [], []⟩
def d_l_less : He.DefD := ⟨("_law_less", none), "_law_less", "_law_less", defArgs s_l_less, defBody s_l_less, defScope s_l_less, [], []⟩
def d_l_times : He.DefD := ⟨("_law_times", none), "_law_times", "_law_times", defArgs s_l_times, defBody s_l_times, defScope s_l_times, [], []⟩
def d_even : He.DefD := ⟨("_law_even", none), "_law_even", "_law_even", defArgs s_even, defBody s_even, defScope s_even, [], []⟩
def d_whole : He.DefD := ⟨("_law_whole", none), "_law_whole", "_law_whole", defArgs s_whole, defBody s_whole, defScope s_whole, [], []⟩
def d_is_frac : He.DefD := ⟨("_law_is_frac", none), "_law_is_frac", "_law_is_frac", defArgs s_is_frac, defBody s_is_frac, defScope s_is_frac, [], []⟩
def d_frac : He.DefD := ⟨("_law_frac", none), "_law_frac", "_law_frac", defArgs s_frac, defBody s_frac, defScope s_frac, [], []⟩
def d_number : He.DefD := ⟨("_law_number", none), "_law_number", "_law_number", defArgs s_number, defBody s_number, defScope s_number, [], []⟩
def d_terms : He.DefD := ⟨("_law_terms", none), "_law_terms", "_law_terms", defArgs s_terms, defBody s_terms, defScope s_terms, [], []⟩
def d_gather : He.DefD := ⟨("_law_gather", none), "_law_gather", "_law_gather", defArgs s_gather, defBody s_gather, defScope s_gather, [], []⟩
def d_power : He.DefD := ⟨("_law_power", none), "_law_power", "_law_power", defArgs s_power, defBody s_power, defScope s_power, [], []⟩
def d_l_worth : He.DefD := ⟨("_law_worth", none), "_law_worth", "_law_worth", defArgs s_l_worth, defBody s_l_worth, defScope s_l_worth, [], []⟩
def d_drawn : He.DefD := ⟨("_law_drawn", none), "_law_drawn", "_law_drawn", defArgs s_drawn, defBody s_drawn, defScope s_drawn, [], []⟩
def d_numbers : He.DefD := ⟨("_law_numbers", none), "_law_numbers", "_law_numbers", defArgs s_numbers, defBody s_numbers, defScope s_numbers, [], []⟩
def d_is_worth : He.DefD := ⟨("_law_is_worth", none), "_law_is_worth", "_law_is_worth", defArgs s_is_worth, defBody s_is_worth, defScope s_is_worth, [], []⟩
def d_great : He.DefD := ⟨("_law_great", none), "_law_great", "_law_great", defArgs s_great, defBody s_great, defScope s_great, [], []⟩
def d_wide : He.DefD := ⟨("_law_wide", none), "_law_wide", "_law_wide", defArgs s_wide, defBody s_wide, defScope s_wide, [], []⟩
def d_law : He.DefD := ⟨("law", none), "law", "law", defArgs s_law, defBody s_law, defScope s_law, [], []⟩
def fn : List He.DefD := [d_common_divisor, d_fraction, d_added, d_taken, d_scaled, d_multiplied, d_put_in, d_worth, d_summed, d_greatest_power, d_powers_of, d_packed, d_joined, d_unpacked, d_pool, d_take, d_gcd, d_low, d_l_plus, d_l_less, d_l_times, d_even, d_whole, d_is_frac, d_frac, d_number, d_terms, d_gather, d_power, d_l_worth, d_drawn, d_numbers, d_is_worth, d_great, d_wide, d_law]
def fa : List He.Fa := [.glo "common_divisor", .glo "fraction", .glo "added", .glo "taken", .glo "scaled", .glo "multiplied", .glo "put_in", .glo "worth", .glo "summed", .glo "greatest_power", .glo "powers_of", .glo "packed", .glo "joined", .glo "unpacked", .glo "_law_pool", .glo "_law_take", .glo "_law_gcd", .glo "_law_low", .glo "_law_plus", .glo "_law_less", .glo "_law_times", .glo "_law_even", .glo "_law_whole", .glo "_law_is_frac", .glo "_law_frac", .glo "_law_number", .glo "_law_terms", .glo "_law_gather", .glo "_law_power", .glo "_law_worth", .glo "_law_drawn", .glo "_law_numbers", .glo "_law_is_worth", .glo "_law_great", .glo "_law_wide", .glo "law", .free "abs", .free "bool", .free "int", .free "isinstance", .free "len", .free "list", .free "max", .free "min", .free "range", .free "sorted", .free "tuple", .free "zip"]
abbrev R : PySem.W.OpenRow := PySem.W.OpenLaw.row PySem.Challenge.rw_movebook_k72_whole_worths
abbrev hk : PySem.W.Hook := He.hookD 5 fa fn
def ob (s : PySem.W.SharedT) : He.AlD := He.obsDG 5 fa fn (HandSHeadRun.getT s)
theorem ob_eq (s : PySem.W.SharedT) : ob s = hk.obs s.abs := He.obsDG_eq (HandSHeadRun.getT_eq s)
def names : List PySem.Str := [("BookError" : PySem.Str), ("NoNumber" : PySem.Str), ("common_divisor" : PySem.Str), ("fraction" : PySem.Str), ("added" : PySem.Str), ("taken" : PySem.Str), ("scaled" : PySem.Str), ("multiplied" : PySem.Str), ("put_in" : PySem.Str), ("worth" : PySem.Str), ("summed" : PySem.Str), ("greatest_power" : PySem.Str), ("powers_of" : PySem.Str), ("packed" : PySem.Str), ("joined" : PySem.Str), ("unpacked" : PySem.Str), ("_law_pool" : PySem.Str), ("_law_take" : PySem.Str), ("_law_gcd" : PySem.Str), ("_law_low" : PySem.Str), ("_law_plus" : PySem.Str), ("_law_less" : PySem.Str), ("_law_times" : PySem.Str), ("_law_even" : PySem.Str), ("_law_whole" : PySem.Str), ("_law_is_frac" : PySem.Str), ("_law_frac" : PySem.Str), ("_law_number" : PySem.Str), ("_law_terms" : PySem.Str), ("_law_gather" : PySem.Str), ("_law_power" : PySem.Str), ("_law_worth" : PySem.Str), ("_law_drawn" : PySem.Str), ("_law_numbers" : PySem.Str), ("_law_is_worth" : PySem.Str), ("_law_great" : PySem.Str), ("_law_wide" : PySem.Str)]
theorem run (w : World) : HandSHeadRun.RunEq R (PySem.W.view R.prog [42]) hk ob 9000 names w := by
  intro os
  kernel_rfl
theorem facts {P : Program} {w : World} {K : PySem.W.Frag} {h : Heap} {mg : Str → Option Value} {f : Addr} (X : K.In h) (G : h.Ns mainGlobals mg) (hfa : mg ("law" : Str) = some (.ref f)) (c : He.SaysD fa fn K) :
    ∃ fd : FuncData, (∀ (s : Shared) (v : Value), BindsTo s fd ⟨[v], []⟩ [("_law_script", v)]) ∧ ∀ base : Heap, K.In base → base.Ns mainGlobals mg → FnOk P w K mg base CX0 7 f fd ["_law_script"] (spLaw K) := by
  have F_common_divisor : Fn K mg "common_divisor" s_common_divisor := by
    obtain ⟨fd, F⟩ := c.def_ 0 (d := d_common_divisor) rfl
    exact ⟨_, fd, F, He.glo_ok X G (c.fact 0 (f := .glo "common_divisor") rfl)⟩
  have F_fraction : Fn K mg "fraction" s_fraction := by
    obtain ⟨fd, F⟩ := c.def_ 1 (d := d_fraction) rfl
    exact ⟨_, fd, F, He.glo_ok X G (c.fact 1 (f := .glo "fraction") rfl)⟩
  have F_added : Fn K mg "added" s_added := by
    obtain ⟨fd, F⟩ := c.def_ 2 (d := d_added) rfl
    exact ⟨_, fd, F, He.glo_ok X G (c.fact 2 (f := .glo "added") rfl)⟩
  have F_taken : Fn K mg "taken" s_taken := by
    obtain ⟨fd, F⟩ := c.def_ 3 (d := d_taken) rfl
    exact ⟨_, fd, F, He.glo_ok X G (c.fact 3 (f := .glo "taken") rfl)⟩
  have F_scaled : Fn K mg "scaled" s_scaled := by
    obtain ⟨fd, F⟩ := c.def_ 4 (d := d_scaled) rfl
    exact ⟨_, fd, F, He.glo_ok X G (c.fact 4 (f := .glo "scaled") rfl)⟩
  have F_multiplied : Fn K mg "multiplied" s_multiplied := by
    obtain ⟨fd, F⟩ := c.def_ 5 (d := d_multiplied) rfl
    exact ⟨_, fd, F, He.glo_ok X G (c.fact 5 (f := .glo "multiplied") rfl)⟩
  have F_put_in : Fn K mg "put_in" s_put_in := by
    obtain ⟨fd, F⟩ := c.def_ 6 (d := d_put_in) rfl
    exact ⟨_, fd, F, He.glo_ok X G (c.fact 6 (f := .glo "put_in") rfl)⟩
  have F_worth : Fn K mg "worth" s_worth := by
    obtain ⟨fd, F⟩ := c.def_ 7 (d := d_worth) rfl
    exact ⟨_, fd, F, He.glo_ok X G (c.fact 7 (f := .glo "worth") rfl)⟩
  have F_summed : Fn K mg "summed" s_summed := by
    obtain ⟨fd, F⟩ := c.def_ 8 (d := d_summed) rfl
    exact ⟨_, fd, F, He.glo_ok X G (c.fact 8 (f := .glo "summed") rfl)⟩
  have F_greatest_power : Fn K mg "greatest_power" s_greatest_power := by
    obtain ⟨fd, F⟩ := c.def_ 9 (d := d_greatest_power) rfl
    exact ⟨_, fd, F, He.glo_ok X G (c.fact 9 (f := .glo "greatest_power") rfl)⟩
  have F_powers_of : Fn K mg "powers_of" s_powers_of := by
    obtain ⟨fd, F⟩ := c.def_ 10 (d := d_powers_of) rfl
    exact ⟨_, fd, F, He.glo_ok X G (c.fact 10 (f := .glo "powers_of") rfl)⟩
  have F_packed : Fn K mg "packed" s_packed := by
    obtain ⟨fd, F⟩ := c.def_ 11 (d := d_packed) rfl
    exact ⟨_, fd, F, He.glo_ok X G (c.fact 11 (f := .glo "packed") rfl)⟩
  have F_joined : Fn K mg "joined" s_joined := by
    obtain ⟨fd, F⟩ := c.def_ 12 (d := d_joined) rfl
    exact ⟨_, fd, F, He.glo_ok X G (c.fact 12 (f := .glo "joined") rfl)⟩
  have F_unpacked : Fn K mg "unpacked" s_unpacked := by
    obtain ⟨fd, F⟩ := c.def_ 13 (d := d_unpacked) rfl
    exact ⟨_, fd, F, He.glo_ok X G (c.fact 13 (f := .glo "unpacked") rfl)⟩
  have F_pool : Fn K mg "_law_pool" s_pool := by
    obtain ⟨fd, F⟩ := c.def_ 14 (d := d_pool) rfl
    exact ⟨_, fd, F, He.glo_ok X G (c.fact 14 (f := .glo "_law_pool") rfl)⟩
  have F_take : Fn K mg "_law_take" s_take := by
    obtain ⟨fd, F⟩ := c.def_ 15 (d := d_take) rfl
    exact ⟨_, fd, F, He.glo_ok X G (c.fact 15 (f := .glo "_law_take") rfl)⟩
  have F_gcd : Fn K mg "_law_gcd" s_gcd := by
    obtain ⟨fd, F⟩ := c.def_ 16 (d := d_gcd) rfl
    exact ⟨_, fd, F, He.glo_ok X G (c.fact 16 (f := .glo "_law_gcd") rfl)⟩
  have F_low : Fn K mg "_law_low" s_low := by
    obtain ⟨fd, F⟩ := c.def_ 17 (d := d_low) rfl
    exact ⟨_, fd, F, He.glo_ok X G (c.fact 17 (f := .glo "_law_low") rfl)⟩
  have F_l_plus : Fn K mg "_law_plus" s_l_plus := by
    obtain ⟨fd, F⟩ := c.def_ 18 (d := d_l_plus) rfl
    exact ⟨_, fd, F, He.glo_ok X G (c.fact 18 (f := .glo "_law_plus") rfl)⟩
  have F_l_less : Fn K mg "_law_less" s_l_less := by
    obtain ⟨fd, F⟩ := c.def_ 19 (d := d_l_less) rfl
    exact ⟨_, fd, F, He.glo_ok X G (c.fact 19 (f := .glo "_law_less") rfl)⟩
  have F_l_times : Fn K mg "_law_times" s_l_times := by
    obtain ⟨fd, F⟩ := c.def_ 20 (d := d_l_times) rfl
    exact ⟨_, fd, F, He.glo_ok X G (c.fact 20 (f := .glo "_law_times") rfl)⟩
  have F_even : Fn K mg "_law_even" s_even := by
    obtain ⟨fd, F⟩ := c.def_ 21 (d := d_even) rfl
    exact ⟨_, fd, F, He.glo_ok X G (c.fact 21 (f := .glo "_law_even") rfl)⟩
  have F_whole : Fn K mg "_law_whole" s_whole := by
    obtain ⟨fd, F⟩ := c.def_ 22 (d := d_whole) rfl
    exact ⟨_, fd, F, He.glo_ok X G (c.fact 22 (f := .glo "_law_whole") rfl)⟩
  have F_is_frac : Fn K mg "_law_is_frac" s_is_frac := by
    obtain ⟨fd, F⟩ := c.def_ 23 (d := d_is_frac) rfl
    exact ⟨_, fd, F, He.glo_ok X G (c.fact 23 (f := .glo "_law_is_frac") rfl)⟩
  have F_frac : Fn K mg "_law_frac" s_frac := by
    obtain ⟨fd, F⟩ := c.def_ 24 (d := d_frac) rfl
    exact ⟨_, fd, F, He.glo_ok X G (c.fact 24 (f := .glo "_law_frac") rfl)⟩
  have F_number : Fn K mg "_law_number" s_number := by
    obtain ⟨fd, F⟩ := c.def_ 25 (d := d_number) rfl
    exact ⟨_, fd, F, He.glo_ok X G (c.fact 25 (f := .glo "_law_number") rfl)⟩
  have F_terms : Fn K mg "_law_terms" s_terms := by
    obtain ⟨fd, F⟩ := c.def_ 26 (d := d_terms) rfl
    exact ⟨_, fd, F, He.glo_ok X G (c.fact 26 (f := .glo "_law_terms") rfl)⟩
  have F_gather : Fn K mg "_law_gather" s_gather := by
    obtain ⟨fd, F⟩ := c.def_ 27 (d := d_gather) rfl
    exact ⟨_, fd, F, He.glo_ok X G (c.fact 27 (f := .glo "_law_gather") rfl)⟩
  have F_power : Fn K mg "_law_power" s_power := by
    obtain ⟨fd, F⟩ := c.def_ 28 (d := d_power) rfl
    exact ⟨_, fd, F, He.glo_ok X G (c.fact 28 (f := .glo "_law_power") rfl)⟩
  have F_l_worth : Fn K mg "_law_worth" s_l_worth := by
    obtain ⟨fd, F⟩ := c.def_ 29 (d := d_l_worth) rfl
    exact ⟨_, fd, F, He.glo_ok X G (c.fact 29 (f := .glo "_law_worth") rfl)⟩
  have F_drawn : Fn K mg "_law_drawn" s_drawn := by
    obtain ⟨fd, F⟩ := c.def_ 30 (d := d_drawn) rfl
    exact ⟨_, fd, F, He.glo_ok X G (c.fact 30 (f := .glo "_law_drawn") rfl)⟩
  have F_numbers : Fn K mg "_law_numbers" s_numbers := by
    obtain ⟨fd, F⟩ := c.def_ 31 (d := d_numbers) rfl
    exact ⟨_, fd, F, He.glo_ok X G (c.fact 31 (f := .glo "_law_numbers") rfl)⟩
  have F_is_worth : Fn K mg "_law_is_worth" s_is_worth := by
    obtain ⟨fd, F⟩ := c.def_ 32 (d := d_is_worth) rfl
    exact ⟨_, fd, F, He.glo_ok X G (c.fact 32 (f := .glo "_law_is_worth") rfl)⟩
  have F_great : Fn K mg "_law_great" s_great := by
    obtain ⟨fd, F⟩ := c.def_ 33 (d := d_great) rfl
    exact ⟨_, fd, F, He.glo_ok X G (c.fact 33 (f := .glo "_law_great") rfl)⟩
  have F_wide : Fn K mg "_law_wide" s_wide := by
    obtain ⟨fd, F⟩ := c.def_ 34 (d := d_wide) rfl
    exact ⟨_, fd, F, He.glo_ok X G (c.fact 34 (f := .glo "_law_wide") rfl)⟩
  have F_law : Fn K mg "law" s_law := by
    obtain ⟨fd, F⟩ := c.def_ 35 (d := d_law) rfl
    exact ⟨_, fd, F, He.glo_ok X G (c.fact 35 (f := .glo "law") rfl)⟩
  have z_abs : mg "abs" = none := He.free_ok X G (c.fact 36 (f := .free "abs") rfl)
  have z_bool : mg "bool" = none := He.free_ok X G (c.fact 37 (f := .free "bool") rfl)
  have z_int : mg "int" = none := He.free_ok X G (c.fact 38 (f := .free "int") rfl)
  have z_isinstance : mg "isinstance" = none := He.free_ok X G (c.fact 39 (f := .free "isinstance") rfl)
  have z_len : mg "len" = none := He.free_ok X G (c.fact 40 (f := .free "len") rfl)
  have z_list : mg "list" = none := He.free_ok X G (c.fact 41 (f := .free "list") rfl)
  have z_max : mg "max" = none := He.free_ok X G (c.fact 42 (f := .free "max") rfl)
  have z_min : mg "min" = none := He.free_ok X G (c.fact 43 (f := .free "min") rfl)
  have z_range : mg "range" = none := He.free_ok X G (c.fact 44 (f := .free "range") rfl)
  have z_sorted : mg "sorted" = none := He.free_ok X G (c.fact 45 (f := .free "sorted") rfl)
  have z_tuple : mg "tuple" = none := He.free_ok X G (c.fact 46 (f := .free "tuple") rfl)
  have z_zip : mg "zip" = none := He.free_ok X G (c.fact 47 (f := .free "zip") rfl)
  obtain ⟨fd, FL⟩ := c.def_ 35 (d := d_law) rfl
  have e := hfa.symm.trans (He.glo_ok X G (c.fact 35 (f := .glo "law") rfl))
  cases e
  have b := FunD.bindsA (ps := ["_law_script"]) FL fun _ _ _ _ _ _ us hl => match us, hl with | [_], _ => rfl
  refine ⟨fd, fun s v => b s [v] rfl, fun base _ _ => ?_⟩
  have G_common_divisor := ok_common_divisor (P := P) (w := w) (base := base) F_common_divisor z_abs
  have G_fraction := ok_fraction (P := P) (w := w) (base := base) F_fraction G_common_divisor
  have G_summed := ok_summed (P := P) (w := w) (base := base) F_summed z_sorted z_tuple
  have G_powers_of := ok_powers_of (P := P) (w := w) (base := base) F_powers_of z_range
  have G_greatest_power := ok_greatest_power (P := P) (w := w) (base := base) F_greatest_power z_max
  have G_added := ok_added (P := P) (w := w) (base := base) F_added G_summed
  have G_scaled := ok_scaled (P := P) (w := w) (base := base) F_scaled G_summed
  have G_taken := ok_taken (P := P) (w := w) (base := base) F_taken G_added G_scaled
  have G_joined := ok_joined (P := P) (w := w) (base := base) F_joined
  have G_packed := ok_packed (P := P) (w := w) (base := base) F_packed G_joined
  have G_unpacked := ok_unpacked (P := P) (w := w) (base := base) F_unpacked z_range z_tuple
  have G_multiplied := ok_multiplied (P := P) (w := w) (base := base) F_multiplied G_greatest_power G_packed G_unpacked z_len z_sorted z_tuple
  have G_put_in := ok_put_in (P := P) (w := w) (base := base) F_put_in G_powers_of G_greatest_power G_summed
  have G_worth := ok_worth (P := P) (w := w) (base := base) F_worth G_greatest_power G_powers_of G_fraction z_zip
  have G_pool := ok_pool (P := P) (w := w) (base := base) F_pool z_len
  have G_take := ok_take (P := P) (w := w) (base := base) F_take
  have G_gcd := ok_gcd (P := P) (w := w) (base := base) F_gcd z_abs
  have G_low := ok_low (P := P) (w := w) (base := base) F_low G_gcd
  have G_l_plus := ok_l_plus (P := P) (w := w) (base := base) F_l_plus
  replace G_l_plus := G_l_plus.of fun _ _ _ _ h => plus_r2 (K := K) h
  have G_l_less := ok_l_less (P := P) (w := w) (base := base) F_l_less
  replace G_l_less := G_l_less.of fun _ _ _ _ h => minus_r2 (K := K) h
  have G_l_times := ok_l_times (P := P) (w := w) (base := base) F_l_times
  replace G_l_times := G_l_times.of fun _ _ _ _ h => times_r2 (K := K) h
  have G_even := ok_even (P := P) (w := w) (base := base) F_even
  replace G_even := G_even.of fun _ _ _ _ h => same_r2 (K := K) h
  have G_whole := ok_whole (P := P) (w := w) (base := base) F_whole z_isinstance z_int z_bool
  have G_is_frac := ok_is_frac (P := P) (w := w) (base := base) F_is_frac G_whole G_gcd z_isinstance z_tuple z_len
  have G_frac := ok_frac (P := P) (w := w) (base := base) F_frac G_take G_low
  have G_number := ok_number (P := P) (w := w) (base := base) F_number G_take z_range
  have G_terms := ok_terms (P := P) (w := w) (base := base) F_terms G_take G_number z_len z_range z_tuple
  have G_gather := ok_gather (P := P) (w := w) (base := base) F_gather z_sorted z_tuple
  have G_power := ok_power (P := P) (w := w) (base := base) F_power z_range
  have G_l_worth := ok_l_worth (P := P) (w := w) (base := base) F_l_worth G_power z_len z_range z_max
  have G_drawn := ok_drawn (P := P) (w := w) (base := base) F_drawn G_terms G_gather z_max z_min z_tuple
  have G_numbers := ok_numbers (P := P) (w := w) (base := base) F_numbers G_take G_low G_frac z_max z_range
  have G_is_worth := ok_is_worth (P := P) (w := w) (base := base) F_is_worth G_is_frac G_even
  have G_great := ok_great (P := P) (w := w) (base := base) F_great G_take G_low G_drawn G_worth G_l_worth G_is_worth z_range z_list
  have G_wide := ok_wide (P := P) (w := w) (base := base) F_wide G_take G_low G_number G_gather G_worth G_l_worth G_is_worth z_range z_tuple z_max z_abs z_list
  have G_law := ok_law (P := P) (w := w) (base := base) FL G_pool G_take G_drawn G_numbers G_l_worth G_worth G_is_worth G_added G_taken G_multiplied G_put_in G_l_plus G_l_less G_l_times G_great G_wide z_max z_list
  exact G_law
end Mb
open PySem PySem.W PySem.Calls PyProof.Rows
set_option maxRecDepth 100000 in
set_option maxHeartbeats 0 in
theorem PySem.Challenge.cw_movebook_k72_whole_worths_holds : PySem.Challenge.rw_movebook_k72_whole_worths.Holds := by
  w_on; o_law
  refine HandSHeadRun.head_any (r := OpenLaw.row PySem.Challenge.rw_movebook_k72_whole_worths) (q := view (OpenLaw.row PySem.Challenge.rw_movebook_k72_whole_worths).prog [42]) (H := Mb.hk) (ob := Mb.ob) (M := 9000) (loose := Mb.names) (d := HandSHeadRun.topDef (OpenLaw.row PySem.Challenge.rw_movebook_k72_whole_worths).prog 42) (kwd := []) Mb.ob_eq
    (by kernel_rfl) (fun s => by kernel_rfl) Mb.run (by kernel_rfl) (by kernel_rfl) (by kernel_rfl) (by rfl) (by first | assumption | decide +kernel) (by decide +kernel) ⟨rfl, rfl, rfl, rfl, rfl, by decide +kernel⟩ ?hw ?hc
  case hw => w_witness2
  case hc =>
    refine L2.walk_ofE (l := PySem.Challenge.rw_movebook_k72_whole_worths) (n := 63) (k := 7) (x := "_law_script") (CX := L2.CX0) rfl (by decide) (by kernel_rfl) ⟨rfl, by decide, by decide⟩ ?F (fun _ _ _ _ z => z)
    intro w mg fa h Y G hmg0
    obtain ⟨K, KX, c⟩ := Y
    have hmg : mg ("law" : PySem.Str) = some (.ref fa) := by
      have e : (HandSHeadRun.topDef (OpenLaw.row PySem.Challenge.rw_movebook_k72_whole_worths).prog 42).name = ("law" : PySem.Str) := by kernel_rfl
      rw [← e]
      exact hmg0
    obtain ⟨fd, hb, hF⟩ := Mb.facts (P := (PySem.Challenge.rw_movebook_k72_whole_worths).prog) (w := w) KX G hmg c
    exact ⟨K, fd, Mb.spLaw K, KX, hb, fun H a ns hl _ hS => ⟨a, ns, rfl, hS, hl, fun _ => rfl⟩, hF⟩
