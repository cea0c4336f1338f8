import PyProof.Rows.All
import Wide.All
import OpenK.AllK
import Wide.FinOn
import KE.KStateDown
import Lean
import HandS.ForMost
import HandS.More
import HandS.WordsExc
import HandS.ExcIs
import HandS.ExcOwn
import HandS.TryOnly
import HandS.Exc
import HandS.Defaults
import HandS.Wide
import HandS.WideBits
import HandS.IsInst
import HandS.Head0
import HandS.Head1
import HandS.Head2
import HandS.HeadEnd
import HandS.HeadHook1
import HandS.HeadHook2
import HandS.Conv
import HandS.FStr
import HandS.DeepEq
import HandS.ExcInit
import HandS.ExcValue
import HandS.ExcField
import KE.KExcIs
import HandS.HeadHook3
import HandS.ListItems
import HandS.Iter
import HandS.Dict
import HandS.Star
import HandS.Rev
import HandS.Style
import HandS.Walk
import HandS.More
import HandS.Sort
import HandS.SortOrd
import HandS.TupSets
import HandS.TupLe
import HandS.SortKw
import KE.DataMinMax
import HandS.TupAny
import HandS.SortInts
import KE.GoesMore
import KE.GoesEnum
import HandS.Zip
import HandS.Deep
import HandS.TupMul
import KE.KDictWalk
import PyProof.DictMoreH
import KE.GoesZip
import HandS.WordsDict
import HandS.HeadHook4
import PySem.Challenge.RW_movebook_k77_worked_heavy
set_option Elab.async false
set_option linter.all false
set_option maxRecDepth 100000
set_option maxHeartbeats 4000000
namespace Mb
def WrapW (P : Prop) : Prop := P
theorem ofW {P : Prop} (h : WrapW P) : P := h
theorem dischW {P : Prop} (h : P) : WrapW P = True := eq_true h
end Mb
namespace Mb
open PySem L2
/-! ### a def that keeps its promise, as its callers take it -/
structure Kn (P : Program) (w : World) (K : PySem.W.Frag) (mg : Str → Option Value) (base : Heap) (k : Nat) (x : Str) (ps : List Str) (sp : Sp) : Prop where
  ex : ∃ f fd, FnOk P w K mg base CX0 k f fd ps sp ∧ mg x = some (.ref f) ∧ PySem.W.keepIn K (.ref f) = true ∧ Binds K fd ps []
theorem pe_kn {X : Cx} {k : Nat} {x : Str} {ps : List Str} {sp : Sp} {e : Expr} {es : List Expr} {p pos : Pos} {t : TA} (G : Kn X.prog X.w X.K X.mg X.base k x ps sp) (hr : Room k X.A) (hg : Gl X x)
    (ha : PA X (e :: es) t) (hdb : (x == ("__debug__" : Str)) = false := by decide) (he : starEach (e :: es) X.env = (false, eval e X.env) :: starEach es X.env := by rfl) (hpl : (backTo pos (starEach es X.env)).any (·.1) = false := by rfl) :
    PE X (.Call (.Name x p) (e :: es) [] pos) (tCall sp [] E0 t) := by
  obtain ⟨f, fd, F, m, kp, b⟩ := G.ex
  exact pe_call F hr hg m kp b .nil pass0 ha hdb he hpl
/-- a def of the text: where it stands -/
abbrev FnP (K : PySem.W.Frag) (x : Str) (st : Stmt) (f : Addr) (fd : FuncData) : Prop := FunD K x x (defArgs st) (defBody st) (defScope st) [] [] f fd
structure Fn (K : PySem.W.Frag) (mg : Str → Option Value) (x : Str) (st : Stmt) : Prop where
  ex : ∃ f fd, FnP K x st f fd ∧ mg x = some (.ref f)
/-- from the walk of its body to its promise -/
theorem Fn.kn {P : Program} {w : World} {K : PySem.W.Frag} {mg : Str → Option Value} {base : Heap} {k : Nat} {x : Str} {st : Stmt} {N ps : List Str} {sp : Sp} (F : Fn K mg x st) (S : FnScope N ps (defScope st)) (len : ∀ vs H Q E, sp vs H Q E → vs.length = ps.length)
    (hbody : ∀ (f : Addr) (cdv : Value) (A : Around) (outer : List Env) (s : Shared) (H : Hp) (vs : List V) (Q : VK) (E : XK), Room k (A.deeper (PyProof.Rows.envOfC x (defScope st) s.heap.objs.size f cdv)) → sp vs H Q E →
      ∃ t, PSs (cxOf CX0 P w K mg base N x (defScope st) f cdv A outer s H E).nox (defBody st) t ∧ t { nx := fun _ H' => Q .non H', rt := Q } (start N vs) H)
    (hb : ∀ (kV doc pm : Value) (an : Option Addr) (cdv ct : Value) (us : List Value), us.length = ps.length → bindArgs (PySem.W.fnOf x x (defArgs st) (defBody st) (defScope st) .none kV doc pm an cdv ct) ⟨us, []⟩ = pure (ps.zip us)) :
    Kn P w K mg base (k + 1) x ps sp := by
  obtain ⟨f, fd, F, m⟩ := F.ex
  refine ⟨f, fd, F.ok S len fun cdv A outer s H vs Q E hr h => ?_, m, F.kp, F.bindsN hb⟩
  obtain ⟨t, p, q⟩ := hbody f cdv A outer s H vs Q E hr h
  exact ⟨t, p.nox, q⟩
/-- the same for the law itself, whose function object is known -/
theorem fnp_ok {P : Program} {w : World} {K : PySem.W.Frag} {mg : Str → Option Value} {base : Heap} {k : Nat} {x : Str} {st : Stmt} {N ps : List Str} {sp : Sp} {f : Addr} {fd : FuncData} (F : FnP K x st f fd) (S : FnScope N ps (defScope st)) (len : ∀ vs H Q E, sp vs H Q E → vs.length = ps.length)
    (hbody : ∀ (cdv : Value) (A : Around) (outer : List Env) (s : Shared) (H : Hp) (vs : List V) (Q : VK) (E : XK), Room k (A.deeper (PyProof.Rows.envOfC x (defScope st) s.heap.objs.size f cdv)) → sp vs H Q E →
      ∃ t, PSs (cxOf CX0 P w K mg base N x (defScope st) f cdv A outer s H E).nox (defBody st) t ∧ t { nx := fun _ H' => Q .non H', rt := Q } (start N vs) H) : FnOk P w K mg base CX0 (k + 1) f fd ps sp := by
  refine F.ok S len fun cdv A outer s H vs Q E hr h => ?_
  obtain ⟨t, p, q⟩ := hbody cdv A outer s H vs Q E hr h
  exact ⟨t, p.nox, q⟩
/-! ### x is True, x is False -/
theorem op_isB {X : Cx} : OpR X (compareOp .Is) (fun x y H Q => ∃ a b, x = .bl a ∧ y = .bl b ∧ Q (.bl (a == b)) H) := by
  intro pins s σ H x y v u Q I rx ry h
  obtain ⟨a, b, rfl, rfl, q⟩ := h
  cases (show v = Value.bool a from rx)
  cases (show u = Value.bool b from ry)
  exact PyProof.Rows.is_bool ⟨.bl (a == b), H, I, rfl, q⟩
/-! ### // by any great divisor but 0 -/
def CDivZ (_ j : Int) : Prop := j ≠ 0 ∧ j.natAbs.log2 < 9000
theorem op_fdivZ {X : Cx} : OpR X (binaryOp .FloorDiv) (rI CDivZ fun i j => .int (i.fdiv j)) := opI fun _ _ _ _ _ _ _ hc q => PyProof.Rows.floordiv_int hc.1 q (.inl (PyProof.noPylong_of_log2 hc.2))
theorem cdivZ {i j : Int} {b : Nat} (h : j ≠ 0) (hb : j.natAbs < 2 ^ b) (h0 : 0 < b) (h9 : b ≤ 9000) : CDivZ i j := ⟨h, Nat.lt_of_lt_of_le (PySem.Flt.log2_lt_of h0 hb) h9⟩
/-! ### readings, step by step -/
section
variable {σ : St} {H : Hp} {Q : VK} {D : Ends} {K : PySem.W.Frag}
theorem r_var {i : Nat} {v : V} (h : σ[i]? = some (some v)) (q : Q v H) : tVar i σ H Q := ⟨v, h, q⟩
theorem r_c {v : V} (q : Q v H) : tC v σ H Q := q
theorem r_op {r : R2} {ta tb : TE} (q : ta σ H fun x H1 => tb σ H1 fun y H2 => r x y H2 Q) : tOp r ta tb σ H Q := q
theorem r_un {r : V → Hp → VK → Prop} {ta : TE} (q : ta σ H fun x H1 => r x H1 Q) : tUn r ta σ H Q := q
theorem r_i {C : Int → Int → Prop} {g : Int → Int → V} {i j : Int} (c : C i j) (q : Q (g i j) H) : rI C g (.int i) (.int j) H Q := ⟨i, j, rfl, rfl, c, q⟩
theorem r_i0 {g : Int → Int → V} {i j : Int} (q : Q (g i j) H) : rI0 g (.int i) (.int j) H Q := ⟨i, j, rfl, rfl, q⟩
theorem r_u {g : Int → V} {i : Int} (q : Q (g i) H) : rU g (.int i) H Q := ⟨i, rfl, q⟩
theorem r_eqI {i j : Int} (q : Q (.bl (decide (i = j))) H) : rEq (.int i) (.int j) H Q := ⟨rfl, by
  rw [show decide (V.int i = V.int j) = decide (i = j) from by simp]; exact q⟩
theorem r_neI {i j : Int} (q : Q (.bl (!decide (i = j))) H) : rNe (.int i) (.int j) H Q := ⟨rfl, by
  rw [show decide (V.int i = V.int j) = decide (i = j) from by simp]; exact q⟩
theorem r_eqB {i j : Bool} (q : Q (.bl (i == j)) H) : rEq (.bl i) (.bl j) H Q := ⟨rfl, by
  rw [show decide (V.bl i = V.bl j) = (i == j) from by cases i <;> cases j <;> rfl]; exact q⟩
theorem r_eqS {i j : Str} (q : Q (.bl (decide (i = j))) H) : rEq (.str i) (.str j) H Q := ⟨rfl, by
  rw [show decide (V.str i = V.str j) = decide (i = j) from by simp]; exact q⟩
theorem r_bits {to : TE} (q : to σ H fun x H1 => ∃ i, x = .int i ∧ Q (.int (Builtin.Int.intBits i : Nat)) H1) : tBits to σ H Q := q
theorem r_int {i : Int} {Q : Int → Prop} (q : Q i) : ∃ k, V.int i = .int k ∧ Q k := ⟨i, rfl, q⟩
theorem r_cb {r : List V → Hp → VK → Prop} {t : TA} (q : t σ H fun vs H1 => r vs H1 Q) : tCB r t σ H Q := q
theorem r_nil {Q : List V → Hp → Prop} (q : Q [] H) : tNil σ H Q := q
theorem r_cons {ta : TE} {tr : TA} {Q : List V → Hp → Prop} (q : ta σ H fun x H1 => tr σ H1 fun xs H2 => Q (x :: xs) H2) : tCons ta tr σ H Q := q
theorem r_tup {t : TA} (q : t σ H fun xs H1 => xs.length ≤ sizeLine ∧ ∀ p, H1 p = none → Q (.ref p) (upd H1 p (.tup xs))) : tTup t σ H Q := q
theorem r_lst {t : TA} (q : t σ H fun xs H1 => xs.length ≤ sizeLine ∧ ∀ p, H1 p = none → Q (.ref p) (upd H1 p (.lst xs))) : tLst t σ H Q := q
theorem r_call {sp : Sp} {E : XK} {t : TA} (q : t σ H fun vs H1 => sp (vs ++ []) H1 Q E) : tCall sp [] E t σ H Q := q
theorem r_seq {t u : TS} (q : t { D with nx := u D } σ H) : tSeq t u D σ H := q
theorem r_seqA {te : TE} {g : TG} {u : TS} (q : te σ H fun x H1 => g x σ H1 (u D)) : tSeq (tAsg te g) u D σ H := q
theorem r_seqD {te : TE} {u : TS} (q : te σ H fun _ H1 => u D σ H1) : tSeq (tDrop te) u D σ H := q
theorem r_seqP {i j : Nat} {ta : TA} {u : TS} (q : ta σ H fun vs H1 => ∃ v w, vs = [v, w] ∧ u D ((σ.set i (some v)).set j (some w)) H1) : tSeq (tPar i j ta) u D σ H := q
theorem r_cut {t u : TS} (R : St → Hp → Prop) (k : ∀ σ1 H1, R σ1 H1 → u D σ1 H1) (h : ∀ N : St → Hp → Prop, (∀ σ1 H1, R σ1 H1 → N σ1 H1) → t { D with nx := N } σ H) : tSeq t u D σ H := h _ k
theorem r_next (q : D.nx σ H) : tNext D σ H := q
theorem r_nx {a c d : St → Hp → Prop} {b : VK} (q : a σ H) : (Ends.mk a b c d).nx σ H := q
theorem r_asg {te : TE} {g : TG} (q : te σ H fun x H1 => g x σ H1 D.nx) : tAsg te g D σ H := q
theorem r_gname {i : Nat} {v : V} {Q : St → Hp → Prop} (q : Q (σ.set i (some v)) H) : gName i v σ H Q := q
theorem r_gsub {to ti : TE} {t : TSet} {v : V} {Q : St → Hp → Prop} (q : to σ H fun o H1 => ti σ H1 fun i H2 => t o i v H2 fun H3 => Q σ H3) : gSub to ti t v σ H Q := q
theorem r_ret {te : TE} (q : te σ H D.rt) : tRet te D σ H := q
theorem r_drop {te : TE} (q : te σ H fun _ H1 => D.nx σ H1) : tDrop te D σ H := q
theorem r_ifs {c : TT} {t u : TS} (q : c σ H fun b H1 => if b = true then t D σ H1 else u D σ H1) : tIfS c t u D σ H := q
theorem r_test {t : TE} {Q : Bool → Hp → Prop} (q : t σ H fun x H' => ∃ k, x = .bl k ∧ Q k H') : tTest t σ H Q := q
theorem r_tB {t : TE} {Q : Bool → Hp → Prop} (q : t σ H fun x H' => ∃ k, x = .bl k ∧ Q k H') : tB t σ H Q := q
theorem r_bl {b : Bool} {Q : Bool → Prop} (q : Q b) : ∃ k, V.bl b = .bl k ∧ Q k := ⟨b, rfl, q⟩
theorem r_and {t u : TT} {Q : Bool → Hp → Prop} (q : t σ H fun c H1 => if c = true then u σ H1 Q else Q false H1) : tAnd t u σ H Q := q
theorem r_or {t u : TT} {Q : Bool → Hp → Prop} (q : t σ H fun c H1 => if c = true then Q true H1 else u σ H1 Q) : tOr t u σ H Q := q
theorem r_not {t : TT} {Q : Bool → Hp → Prop} (q : t σ H fun c H1 => Q (!c) H1) : tNot t σ H Q := q
theorem r_andV {ta tb : TE} (q : ta σ H fun x H1 => ∃ c, x = .bl c ∧ if c = true then tb σ H1 Q else Q (.bl false) H1) : tAndV ta tb σ H Q := q
theorem r_orV {ta tb : TE} (q : ta σ H fun x H1 => ∃ c, x = .bl c ∧ if c = true then Q (.bl true) H1 else tb σ H1 Q) : tOrV ta tb σ H Q := q
theorem r_notV {ta : TE} (q : ta σ H fun x H1 => ∃ c, x = .bl c ∧ Q (.bl (!c)) H1) : tNotV ta σ H Q := q
theorem r_par {i j : Nat} {ta : TA} (q : ta σ H fun vs H1 => ∃ v w, vs = [v, w] ∧ D.nx ((σ.set i (some v)).set j (some w)) H1) : tPar i j ta D σ H := q
theorem r_two {v w : V} {Q : V → V → Prop} (q : Q v w) : ∃ a b, [v, w] = [a, b] ∧ Q a b := ⟨v, w, rfl, q⟩
theorem r_ixL {p : Addr} {xs : List V} {i : Int} {v : V} (h : SqL K H p xs) (a : atI xs i = some v) (q : Q v H) : rIxL K (.ref p) (.int i) H Q := ⟨p, xs, i, v, rfl, rfl, h, a, q⟩
theorem r_ixT {p : Addr} {xs : List V} {i : Int} {v : V} (h : SqT K H p xs) (a : atI xs i = some v) (q : Q v H) : rIxT K (.ref p) (.int i) H Q := ⟨p, xs, i, v, rfl, rfl, h, a, q⟩
theorem r_setL {p : Addr} {xs : List V} {k : Int} {j : Nat} {v : V} {Q : Hp → Prop} (h : H p = some (.lst xs)) (a : ixN xs.length k = some j) (q : Q (upd H p (.lst (xs.set j v)))) : rSetL (.ref p) (.int k) v H Q := ⟨p, xs, k, j, rfl, rfl, h, a, q⟩
theorem r_isi {x : V} {a b : String} {r : Bool} (ty : TyX K H x (.type a)) (h : kitB a b = some r) (q : Q (.bl r) H) : rIsi K [x, .ty b] H Q := ⟨x, .ty b, .type a, .type b, r, rfl, .ty b, ty, kit_ty h, q⟩
theorem r_eqFr {p q : Addr} {a b c d : Int} (h1 : SqT K H p [.int a, .int b]) (h2 : SqT K H q [.int c, .int d]) (e : a = c ∧ b = d) (k : Q (.bl true) H) : rEqD K (.ref p) (.ref q) H Q := by
  obtain ⟨rfl, rfl⟩ := e
  refine ⟨.tuple [.int a, .int b], .tuple [.int a, .int b], .tup h1 (.cons (.int a) (.cons (.int b) .nil)), .tup h2 (.cons (.int a) (.cons (.int b) .nil)), rfl, rfl, ?_⟩
  rw [SeqAt.eqv_refl _ rfl]
  exact k
/-- a test that is open -/
theorem r_ite {c : Prop} [Decidable c] {A B : Prop} (h1 : c → A) (h2 : ¬ c → B) : if decide c = true then A else B := by
  by_cases h : c
  · rw [decide_eq_true h]; exact h1 h
  · rw [decide_eq_false h]; exact h2 h
theorem r_iteN {c : Prop} [Decidable c] {A B : Prop} (h1 : ¬ c → A) (h2 : c → B) : if (!decide c) = true then A else B := by
  by_cases h : c
  · rw [decide_eq_true h]; exact h2 h
  · rw [decide_eq_false h]; exact h1 h
theorem r_T {A B : Prop} (h : A) : if true = true then A else B := iteT h
theorem r_dT {c : Bool} {A B : Prop} (hc : c = true) (h : A) : if c = true then A else B := by rw [hc]; exact iteT h
theorem r_dF {c : Bool} {A B : Prop} (hc : c = false) (h : B) : if c = true then A else B := by rw [hc]; exact iteF h
theorem r_nT {A B : Prop} (h : B) : if (!true) = true then A else B := iteF h
theorem r_nF {A B : Prop} (h : A) : if (!false) = true then A else B := iteT h
theorem r_F {A B : Prop} (h : B) : if false = true then A else B := iteF h
end
/-- a while by a word and a measure -/
theorem r_while {σ : St} {H : Hp} {D : Ends} {c : TT} {tb : TS} (Pv : St → Hp → Prop) (μ : St → Hp → Nat) (h0 : Pv σ H)
    (hs : ∀ σ1 H1, Pv σ1 H1 → c σ1 H1 fun b H2 => if b = true then ∃ N : St → Hp → Prop, (∀ σ2 H2, N σ2 H2 → ∃ m, m < μ σ1 H1 ∧ m = μ σ2 H2 ∧ Pv σ2 H2) ∧ tb { D with nx := N, ct := N, bk := D.nx } σ1 H2 else D.nx σ1 H2) : tWhile c tb D σ H := by
  refine ⟨fun m σ H => m = μ σ H ∧ Pv σ H, ⟨_, rfl, h0⟩, ?_⟩
  rintro m σ H ⟨rfl, p⟩
  exact hs σ H p
theorem r_turn {σ : St} {H : Hp} {D : Ends} {tb : TS} {Pv : St → Hp → Prop} {μ : St → Hp → Nat} {n : Nat} (q : tb { D with nx := fun σ2 H2 => Pv σ2 H2 ∧ μ σ2 H2 < n, ct := fun σ2 H2 => Pv σ2 H2 ∧ μ σ2 H2 < n, bk := D.nx } σ H) :
    ∃ N : St → Hp → Prop, (∀ σ2 H2, N σ2 H2 → ∃ m, m < n ∧ m = μ σ2 H2 ∧ Pv σ2 H2) ∧ tb { D with nx := N, ct := N, bk := D.nx } σ H :=
  ⟨_, fun _ _ h => ⟨_, h.2, rfl, h.1⟩, q⟩
theorem sz {n : Nat} (h : Nat.ble n 1000 = true) : n ≤ sizeLine := Nat.le_of_lt (small1000 (Nat.le_of_ble_eq_true h))
/-! ### heaps -/
/-- all but p is as it was -/
def But (p : Addr) (H H' : Hp) : Prop := ∀ b o, b ≠ p → H b = some o → H' b = some o
theorem But.refl (p : Addr) (H : Hp) : But p H H := fun _ _ _ h => h
theorem But.trans {p : Addr} {H H1 H2 : Hp} (a : But p H H1) (b : But p H1 H2) : But p H H2 := fun c o n h => b c o n (a c o n h)
theorem But.upd (p : Addr) (H : Hp) (o : HO) : But p H (upd H p o) := fun b o' n h => by rw [upd_ne n]; exact h
theorem But.same {p : Addr} {H H' : Hp} (s : Same H H') : But p H H' := fun b o _ h => s b o h
/-- what stood ahead of p's making stands -/
theorem Same.but {H0 H H' : Hp} {p : Addr} (s : Same H0 H) (n : H0 p = none) (b : But p H H') : Same H0 H' := fun c o h => b c o (ne_of_none h n) (s c o h)
theorem same_new {H : Hp} {p : Addr} (h : H p = none) (o : HO) : Same H (upd H p o) := fun b u q => by rw [upd_ne (ne_of_none q h)]; exact q
theorem nw {H : Hp} {p : Addr} (n : H p = none) (o : HO) : ∃ H1, H1 = upd H p o ∧ Same H H1 ∧ H1 p = some o := ⟨_, rfl, same_new n o, upd_same⟩
theorem _root_.L2.Same.tp {K : PySem.W.Frag} {H H' : Hp} {a : Addr} {xs : List V} (e : Same H H') (h : SqT K H a xs) : SqT K H' a xs := by
  rcases h with (h | ⟨o, h⟩) | h
  · exact .inl (.inl (e _ _ h))
  · exact .inl (.inr ⟨o, e _ _ h⟩)
  · exact .inr h
theorem But.tup {K : PySem.W.Frag} {H H' : Hp} {a p : Addr} {xs ys : List V} (e : But p H H') (hp : H p = some (.lst ys)) (h : SqT K H a xs) : SqT K H' a xs := by
  rcases h with (h | ⟨o, h⟩) | h
  · exact .inl (.inl (e _ _ (fun z => by rw [z, hp] at h; cases h) h))
  · exact .inl (.inr ⟨o, e _ _ (fun z => by rw [z, hp] at h; cases h) h⟩)
  · exact .inr h
theorem tupOf {K : PySem.W.Frag} {H : Hp} {a : Addr} {xs : List V} (h : H a = some (.tup xs)) : SqT K H a xs := .inl (.inl h)
theorem lstOf {K : PySem.W.Frag} {H : Hp} {a : Addr} {xs : List V} (h : H a = some (.lst xs)) : SqL K H a xs := .inl (.inl h)
/-! ### sizes -/
abbrev Sm (n : Nat) (i : Int) : Prop := i.natAbs < 2 ^ n
theorem Sm.mono {m n : Nat} {i : Int} (h : Sm m i) (l : m ≤ n) : Sm n i := Nat.lt_of_lt_of_le h (Nat.pow_le_pow_right (by decide) l)
theorem Sm.le {n : Nat} {i j : Int} (h : Sm n j) (l : i.natAbs ≤ j.natAbs) : Sm n i := Nat.lt_of_le_of_lt l h
theorem Sm.mul {m n : Nat} {i j : Int} (h : Sm m i) (l : Sm n j) : Sm (m + n) (i * j) := wide_lt h l
theorem Sm.neg {n : Nat} {i : Int} (h : Sm n i) : Sm n (-i) := by rw [Sm, Int.natAbs_neg]; exact h
theorem Sm.add {n : Nat} {i j : Int} (h : Sm n i) (l : Sm n j) : Sm (n + 1) (i + j) := by
  have := Int.natAbs_add_le i j
  unfold Sm at *
  rw [Nat.pow_succ]
  omega
theorem Sm.sub {n : Nat} {i j : Int} (h : Sm n i) (l : Sm n j) : Sm (n + 1) (i - j) := by
  rw [Int.sub_eq_add_neg]; exact h.add l.neg
theorem Sm.cmul {m n : Nat} {i j : Int} (h : Sm m i) (l : Sm n j) (h0 : 0 < m := by decide) (h1 : 0 < n := by decide) (s : m + n ≤ 1000000 := by decide) : CMulW i j := wide_mul h l h0 h1 s
theorem Sm.cdiv {n : Nat} {i j : Int} (p : 0 < j) (l : Sm n j) (h1 : 0 < n := by decide) (s : n ≤ 9000 := by decide) : CDivW i j := wide_div p l h1 s
theorem Sm.of_lt {n : Nat} {i j : Int} (h0 : 0 ≤ i) (h : i < j) (s : j.natAbs ≤ 2 ^ n) : Sm n i := by unfold Sm; omega
end Mb
namespace Mb
open PySem L2
theorem Sm.addm {m n : Nat} {i j : Int} (h : Sm m i) (l : Sm n j) : Sm (max m n + 1) (i + j) := (h.mono (Nat.le_max_left _ _)).add (l.mono (Nat.le_max_right _ _))
theorem Sm.subm {m n : Nat} {i j : Int} (h : Sm m i) (l : Sm n j) : Sm (max m n + 1) (i - j) := (h.mono (Nat.le_max_left _ _)).sub (l.mono (Nat.le_max_right _ _))
theorem Sm.lit {i : Int} (h : i.natAbs < 2 ^ 64) : Sm 64 i := h
theorem Sm.lit2 {i : Int} (h : i.natAbs < 2 ^ 512) : Sm 512 i := h
/-! ### lowest terms -/
def lowT (t b : Int) : Int := (if b < 0 then -t else t) / (Int.gcd t b : Int)
def lowB (t b : Int) : Int := (if b < 0 then -b else b) / (Int.gcd t b : Int)
theorem gcd_pos {t b : Int} (hb : b ≠ 0) : 0 < (Int.gcd t b : Int) := by
  have := Int.gcd_pos_of_ne_zero_right t hb
  omega
theorem lowB_pos {t b : Int} (hb : b ≠ 0) : 0 < lowB t b := by
  unfold lowB
  have g := gcd_pos (t := t) hb
  have d : (Int.gcd t b : Int) ∣ (if b < 0 then -b else b) := by
    split
    · exact (Int.dvd_neg).mpr (Int.gcd_dvd_right t b)
    · exact Int.gcd_dvd_right t b
  have p : 0 < (if b < 0 then -b else b) := by split <;> omega
  exact Int.ediv_pos_of_pos_of_dvd p (by omega) d
theorem ediv_abs {x g : Int} (hg : 0 < g) (d : g ∣ x) : (x / g).natAbs ≤ x.natAbs := by
  obtain ⟨k, rfl⟩ := d
  rw [Int.mul_ediv_cancel_left k (by omega), Int.natAbs_mul]
  have : 1 ≤ g.natAbs := by omega
  calc k.natAbs = 1 * k.natAbs := by rw [Nat.one_mul]
    _ ≤ g.natAbs * k.natAbs := Nat.mul_le_mul_right _ this
theorem lowT_le {t b : Int} (hb : b ≠ 0) : (lowT t b).natAbs ≤ t.natAbs := by
  unfold lowT
  have g := gcd_pos (t := t) hb
  have d : (Int.gcd t b : Int) ∣ (if b < 0 then -t else t) := by
    split
    · exact (Int.dvd_neg).mpr (Int.gcd_dvd_left t b)
    · exact Int.gcd_dvd_left t b
  have := ediv_abs g d
  split at this <;> split <;> simp_all
theorem lowB_le {t b : Int} (hb : b ≠ 0) : (lowB t b).natAbs ≤ b.natAbs := by
  unfold lowB
  have g := gcd_pos (t := t) hb
  have d : (Int.gcd t b : Int) ∣ (if b < 0 then -b else b) := by
    split
    · exact (Int.dvd_neg).mpr (Int.gcd_dvd_right t b)
    · exact Int.gcd_dvd_right t b
  have := ediv_abs g d
  split at this <;> split <;> simp_all
theorem low_gcd {t b : Int} (hb : b ≠ 0) : Int.gcd (lowT t b) (lowB t b) = 1 := by
  have g : 0 < Int.gcd t b := Int.gcd_pos_of_ne_zero_right t hb
  have key : ∀ x y : Int, Int.gcd x y = Int.gcd t b → Int.gcd (x / (Int.gcd t b : Int)) (y / (Int.gcd t b : Int)) = 1 := by
    intro x y e
    rw [← e]
    rw [← e] at g
    exact Int.gcd_ediv_gcd_ediv_gcd g
  unfold lowT lowB
  split
  · exact key _ _ (by rw [Int.neg_gcd, Int.gcd_neg])
  · exact key _ _ rfl
theorem low_cross {t b : Int} (hb : b ≠ 0) : lowT t b * b = t * lowB t b := by
  have g := gcd_pos (t := t) hb
  obtain ⟨x, hx⟩ := Int.gcd_dvd_left t b
  obtain ⟨y, hy⟩ := Int.gcd_dvd_right t b
  have eT : ∀ s : Int, s = (Int.gcd t b : Int) * x → s / (Int.gcd t b : Int) = x := fun s e => by rw [e, Int.mul_ediv_cancel_left _ (by omega)]
  have eB : ∀ s : Int, s = (Int.gcd t b : Int) * y → s / (Int.gcd t b : Int) = y := fun s e => by rw [e, Int.mul_ediv_cancel_left _ (by omega)]
  unfold lowT lowB
  by_cases h : b < 0
  · rw [if_pos h, if_pos h]
    rw [show -t = (Int.gcd t b : Int) * (-x) by rw [Int.mul_neg, ← hx], show -b = (Int.gcd t b : Int) * (-y) by rw [Int.mul_neg, ← hy], Int.mul_ediv_cancel_left _ (by omega), Int.mul_ediv_cancel_left _ (by omega)]
    have e1 : b = (Int.gcd t b : Int) * y := hy
    have e2 : t = (Int.gcd t b : Int) * x := hx
    generalize (Int.gcd t b : Int) = q at *
    subst e1 e2
    simp only [Int.neg_mul, Int.mul_neg, Int.mul_assoc, Int.mul_comm, Int.mul_left_comm]
  · rw [if_neg h, if_neg h, eT t hx, eB b hy]
    have e1 : b = (Int.gcd t b : Int) * y := hy
    have e2 : t = (Int.gcd t b : Int) * x := hx
    generalize (Int.gcd t b : Int) = q at *
    subst e1 e2
    simp only [Int.mul_assoc, Int.mul_comm, Int.mul_left_comm]
theorem cop_dvd {u t y : Int} (g : Int.gcd t u = 1) (d : u ∣ t * y) : u ∣ y := by
  have d1 : u.natAbs ∣ t.natAbs * y.natAbs := by rw [← Int.natAbs_mul]; exact Int.natAbs_dvd_natAbs.mpr d
  have c : Nat.Coprime u.natAbs t.natAbs := by rw [Nat.coprime_comm]; exact g
  exact Int.natAbs_dvd_natAbs.mp (c.dvd_of_dvd_mul_left d1)
/-- one worth has one form in lowest terms -/
theorem frac_unique {t u x y : Int} (hu : 0 < u) (hy : 0 < y) (g1 : Int.gcd t u = 1) (g2 : Int.gcd x y = 1) (e : t * y = x * u) : t = x ∧ u = y := by
  have d1 : u ∣ y := cop_dvd g1 ⟨x, by rw [e, Int.mul_comm]⟩
  have d2 : y ∣ u := cop_dvd g2 ⟨t, by rw [← e, Int.mul_comm]⟩
  have e2 : u = y := Int.dvd_antisymm (by omega) (by omega) d1 d2
  subst e2
  exact ⟨Int.eq_of_mul_eq_mul_right (by omega) e, rfl⟩
theorem low_eq {a b t u : Int} (hb : b ≠ 0) (hu : 0 < u) (g : Int.gcd t u = 1) (e : a * u = t * b) : lowT a b = t ∧ lowB a b = u := by
  refine frac_unique (lowB_pos hb) hu (low_gcd hb) g ?_
  have c := low_cross (t := a) hb
  apply Int.eq_of_mul_eq_mul_right hb
  calc lowT a b * u * b = lowT a b * b * u := by simp only [Int.mul_assoc, Int.mul_comm, Int.mul_left_comm]
    _ = a * lowB a b * u := by rw [c]
    _ = a * u * lowB a b := by simp only [Int.mul_assoc, Int.mul_comm, Int.mul_left_comm]
    _ = t * b * lowB a b := by rw [e]
    _ = t * lowB a b * b := by simp only [Int.mul_assoc, Int.mul_comm, Int.mul_left_comm]
theorem fdiv_exact {x g : Int} (d : g ∣ x) (c : Bool) : x.fdiv (if c then -g else g) = (if c then -x else x) / g := by
  cases c with
  | false => exact Int.fdiv_eq_ediv_of_dvd d
  | true =>
    show x.fdiv (-g) = -x / g
    rw [Int.fdiv_eq_ediv_of_dvd (Int.neg_dvd.mpr d), Int.ediv_neg, Int.neg_ediv_of_dvd d]
theorem gcd_step {x y : Int} (hx : 0 ≤ x) (hy : 0 < y) : Int.gcd y (x % y) = Int.gcd x y := by
  have e : ∃ m n : Nat, x = m ∧ y = n := ⟨x.toNat, y.toNat, by omega, by omega⟩
  obtain ⟨m, n, rfl, rfl⟩ := e
  have c : ((m : Int) % (n : Int)) = ((m % n : Nat) : Int) := by norm_cast
  rw [c, Int.gcd_natCast_natCast, Int.gcd_natCast_natCast, Nat.gcd_comm n, ← Nat.gcd_rec, Nat.gcd_comm]
theorem gcd_sm {t b : Int} {n : Nat} (hb : b ≠ 0) (sb : Sm n b) : Sm n (Int.gcd t b : Int) := sb.le (by
  have : (Int.gcd t b : Int) ∣ b := Int.gcd_dvd_right t b
  have := Int.le_of_dvd (show 0 < (b.natAbs : Int) by omega) (Int.dvd_natAbs.mpr this)
  omega)
end Mb
namespace Mb
open PySem L2
/-! ### promises of the law's own drawing -/
/-- a pool of draws at p: three numbers, the second from 0 to b -/
def Pl (H : Hp) (p : Addr) (b : Int) : Prop := ∃ x y z : Int, H p = some (.lst [.int x, .int y, .int z]) ∧ 0 ≤ y ∧ y ≤ b
theorem Pl.mono {H : Hp} {p : Addr} {b c : Int} (h : Pl H p b) (l : b ≤ c) : Pl H p c := by
  obtain ⟨x, y, z, h1, h2, h3⟩ := h
  exact ⟨x, y, z, h1, h2, by omega⟩
theorem Pl.same {H H' : Hp} {p : Addr} {b : Int} (h : Pl H p b) (s : Same H H') : Pl H' p b := by
  obtain ⟨x, y, z, h1, h2, h3⟩ := h
  exact ⟨x, y, z, s _ _ h1, h2, h3⟩
theorem Pl.but {H H' : Hp} {p q : Addr} {b : Int} (h : Pl H p b) (n : p ≠ q) (s : But q H H') : Pl H' p b := by
  obtain ⟨x, y, z, h1, h2, h3⟩ := h
  exact ⟨x, y, z, s _ _ n h1, h2, h3⟩
theorem Pl.tup {K : PySem.W.Frag} {H H' : Hp} {a p : Addr} {b : Int} {xs : List V} (h : Pl H p b) (s : But p H H') (t : SqT K H a xs) : SqT K H' a xs := by
  obtain ⟨x, y, z, h1, _⟩ := h
  exact s.tup h1 t
def spPool (K : PySem.W.Frag) : Sp := fun vs H Q _ => ∃ (a : Addr) (ns : List Int) (i : Int), vs = [.ref a, .int i] ∧ SqL K H a (ns.map V.int) ∧ ns.length ≤ 63 ∧ 0 ≤ i ∧ i ≤ 1000 ∧
  ∀ (p : Addr) (H' : Hp), Same H H' → H p = none → Pl H' p 1000000 → Q (.ref p) H'
def spTake : Sp := fun vs H Q _ => ∃ (p : Addr) (k b : Int), vs = [.ref p, .int k] ∧ Pl H p b ∧ b ≤ 2000000 ∧ 1 ≤ k ∧ k ≤ 1000000 ∧
  ∀ (r : Int) (H' : Hp), But p H H' → Pl H' p (b + 1) → 0 ≤ r → r < k → Q (.int r) H'
def spGcd : Sp := fun vs H Q _ => ∃ a b : Int, vs = [.int a, .int b] ∧ Q (.int (Int.gcd a b)) H
def spLow : Sp := fun vs H Q _ => ∃ t b : Int, vs = [.int t, .int b] ∧ b ≠ 0 ∧ Sm 8000 b ∧
  ∀ (p : Addr) (H' : Hp), Same H H' → H p = none → H' p = some (.tup [.int (lowT t b), .int (lowB t b)]) → Q (.ref p) H'
/-- a number of the pool, from 0 on, below 2 ^ 210 -/
def spNumber : Sp := fun vs H Q _ => ∃ (p : Addr) (b : Int), vs = [.ref p] ∧ Pl H p b ∧ b ≤ 1900000 ∧
  ∀ (r : Int) (H' : Hp), But p H H' → Pl H' p (b + 100) → 0 ≤ r → Sm 210 r → Q (.int r) H'
/-- a fraction: its two numbers, in lowest terms -/
structure Fr (m : Nat) (t u : Int) : Prop where
  pos : 0 < u
  one : Int.gcd t u = 1
  st : Sm m t
  su : Sm m u
def spWide : Sp := fun vs H Q _ => ∃ (p : Addr) (b : Int), vs = [.ref p] ∧ Pl H p b ∧ b ≤ 1800000 ∧
  ∀ (q : Addr) (t u : Int) (H' : Hp), But p H H' → Pl H' p (b + 300) → H' q = some (.tup [.int t, .int u]) → Fr 211 t u → Q (.ref q) H'
def spPair (K : PySem.W.Frag) : Sp := fun vs H Q _ => ∃ (a : Addr) (ns : List Int) (i : Int), vs = [.ref a, .int i] ∧ SqL K H a (ns.map V.int) ∧ ns.length ≤ 63 ∧ 0 ≤ i ∧ i ≤ 900 ∧
  ∀ (r p q : Addr) (t u x y : Int) (H' : Hp), Same H H' → H' r = some (.tup [.ref p, .ref q]) → SqT K H' p [.int t, .int u] → SqT K H' q [.int x, .int y] → Fr 211 t u → Fr 211 x y → Q (.ref r) H'
def spAsked (K : PySem.W.Frag) : Sp := fun vs H Q _ => ∃ (a : Addr) (ns : List Int) (i : Int), vs = [.ref a, .int i] ∧ SqL K H a (ns.map V.int) ∧ ns.length ≤ 63 ∧ 0 ≤ i ∧ i ≤ 900 ∧ ∀ H', Same H H' → Q (.bl true) H'
def spLaw (K : PySem.W.Frag) : Sp := fun vs H Q _ => ∃ (a : Addr) (ns : List Int), vs = [.ref a] ∧ SqL K H a (ns.map V.int) ∧ ns.length ≤ 63 ∧ ∀ H', Q (.bl true) H'
end Mb
namespace Mb
open PySem L2
/-! ### promises of what reckons with fractions -/
def spArith (K : PySem.W.Frag) (T B : Int → Int → Int → Int → Int) : Sp := fun vs H Q _ => ∃ (a b : Addr) (x y u v : Int) (n m : Nat), vs = [.ref a, .ref b] ∧ SqT K H a [.int x, .int y] ∧ SqT K H b [.int u, .int v] ∧ Sm n x ∧ Sm n y ∧ Sm m u ∧ Sm m v ∧ n + m ≤ 8000 ∧ B x y u v ≠ 0 ∧
  ∀ (p : Addr) (H' : Hp), Same H H' → H p = none → H' p = some (.tup [.int (lowT (T x y u v) (B x y u v)), .int (lowB (T x y u v) (B x y u v))]) → Q (.ref p) H'
def spRaw (K : PySem.W.Frag) (T B : Int → Int → Int → Int → Int) : Sp := fun vs H Q _ => ∃ (a b : Addr) (x y u v : Int), vs = [.ref a, .ref b] ∧ SqT K H a [.int x, .int y] ∧ SqT K H b [.int u, .int v] ∧ Sm 20000 x ∧ Sm 20000 y ∧ Sm 20000 u ∧ Sm 20000 v ∧
  ∀ (p : Addr) (H' : Hp), Same H H' → H p = none → H' p = some (.tup [.int (T x y u v), .int (B x y u v)]) → Q (.ref p) H'
def spEven (K : PySem.W.Frag) : Sp := fun vs H Q _ => ∃ (a b : Addr) (x y u v : Int), vs = [.ref a, .ref b] ∧ SqT K H a [.int x, .int y] ∧ SqT K H b [.int u, .int v] ∧ Sm 100000 x ∧ Sm 100000 y ∧ Sm 100000 u ∧ Sm 100000 v ∧ Q (.bl (decide (x * v = u * y))) H
def spWhole : Sp := fun vs H Q _ => ∃ i : Int, vs = [.int i] ∧ Q (.bl true) H
def spIsFrac : Sp := fun vs H Q _ => ∃ (p : Addr) (t u : Int), vs = [.ref p] ∧ H p = some (.tup [.int t, .int u]) ∧ 0 < u ∧ Int.gcd t u = 1 ∧ Q (.bl true) H
end Mb
namespace Mb
open PySem L2
/-! ### the drawing of the laws of places, lines and circles -/
def Sr (H : Hp) (p : Addr) (b : Int) : Prop := ∃ x y z : Int, H p = some (.lst [.int x, .int y, .int z]) ∧ 0 ≤ y ∧ y < 2147483629 ∧ 0 ≤ z ∧ z ≤ b
theorem Sr.mono {H : Hp} {p : Addr} {b c : Int} (h : Sr H p b) (l : b ≤ c) : Sr H p c := by
  obtain ⟨x, y, z, h1, h2, h3, h4, h5⟩ := h
  exact ⟨x, y, z, h1, h2, h3, h4, by omega⟩
theorem Sr.same {H H' : Hp} {p : Addr} {b : Int} (h : Sr H p b) (s : Same H H') : Sr H' p b := by
  obtain ⟨x, y, z, h1, h2⟩ := h
  exact ⟨x, y, z, s _ _ h1, h2⟩
theorem Sr.but {H H' : Hp} {p q : Addr} {b : Int} (h : Sr H p b) (n : p ≠ q) (s : But q H H') : Sr H' p b := by
  obtain ⟨x, y, z, h1, h2⟩ := h
  exact ⟨x, y, z, s _ _ n h1, h2⟩
theorem Sr.tup {K : PySem.W.Frag} {H H' : Hp} {a p : Addr} {b : Int} {xs : List V} (h : Sr H p b) (s : But p H H') (t : SqT K H a xs) : SqT K H' a xs := by
  obtain ⟨x, y, z, h1, _⟩ := h
  exact s.tup h1 t
theorem Sr.ne {H : Hp} {p l : Addr} {b : Int} (h : Sr H p b) (n : H l = none) : l ≠ p := fun z => by
  obtain ⟨_, _, _, h1, _⟩ := h
  rw [z, h1] at n
  cases n
theorem Sr.ne2 {H : Hp} {p q : Addr} {b : Int} (h : Sr H p b) (n : H q = none) : p ≠ q := fun z => h.ne n z.symm
def spStream (K : PySem.W.Frag) : Sp := fun vs H Q _ => ∃ (a : Addr) (ns : List Int) (i : Int), vs = [.ref a, .int i] ∧ SqL K H a (ns.map V.int) ∧ ns.length ≤ 63 ∧ 0 ≤ i ∧ i ≤ 1000 ∧
  ∀ (p : Addr) (H' : Hp), Same H H' → H p = none → Sr H' p 0 → Q (.ref p) H'
def spTakeS : Sp := fun vs H Q _ => ∃ (p : Addr) (k b : Int), vs = [.ref p, .int k] ∧ Sr H p b ∧ b ≤ 100000 ∧ 1 ≤ k ∧ Sm 1000 k ∧
  ∀ (r : Int) (H' : Hp), But p H H' → Sr H' p (b + 1) → 0 ≤ r → r < k → Q (.int r) H'
def spGreat : Sp := fun vs H Q _ => ∃ (p : Addr) (b : Int), vs = [.ref p] ∧ Sr H p b ∧ b ≤ 90000 ∧
  ∀ (r : Int) (H' : Hp), But p H H' → Sr H' p (b + 10) → 0 ≤ r → Sm 200 r → Q (.int r) H'
/-- the bits of a number of so many sizes -/
def nb (k : Int) : Nat := if k ≤ 4 then 10 else if k ≤ 5 then 30 else 210
theorem nb_le (k : Int) : nb k ≤ 210 := by
  unfold nb
  split
  · decide
  · split <;> decide
theorem nb_ge (k : Int) : 10 ≤ nb k := by
  unfold nb
  split
  · decide
  · split <;> decide
theorem nb_5 {k : Int} (h : 5 ≤ k) : 30 ≤ nb k := by
  unfold nb
  split
  · omega
  · split <;> decide
theorem nb_6 {k : Int} (h : 6 ≤ k) : nb k = 210 := by
  unfold nb
  rw [if_neg (by omega), if_neg (by omega)]
def spNumberZ : Sp := fun vs H Q _ => ∃ (p : Addr) (k b : Int), vs = [.ref p, .int k] ∧ Sr H p b ∧ b ≤ 80000 ∧ 1 ≤ k ∧ k ≤ 100 ∧
  ∀ (r : Int) (H' : Hp), But p H H' → Sr H' p (b + 20) → Sm (nb k) r → Q (.int r) H'
def spLowest (K : PySem.W.Frag) : Sp := fun vs H Q _ => ∃ (a : Addr) (t b : Int), vs = [.ref a] ∧ SqT K H a [.int t, .int b] ∧ b ≠ 0 ∧ Sm 8900 b ∧
  ∀ (p : Addr) (H' : Hp), Same H H' → H p = none → H' p = some (.tup [.int (lowT t b), .int (lowB t b)]) → Q (.ref p) H'
def spFractionZ : Sp := fun vs H Q _ => ∃ (p : Addr) (k b : Int), vs = [.ref p, .int k] ∧ Sr H p b ∧ b ≤ 70000 ∧ 1 ≤ k ∧ k ≤ 100 ∧
  ∀ (q : Addr) (t u : Int) (H' : Hp), But p H H' → Sr H' p (b + 50) → H' q = some (.tup [.int t, .int u]) → Fr (nb k + 1) t u → Q (.ref q) H'
/-- a place at a: its two fractions -/
structure Pc (K : PySem.W.Frag) (H : Hp) (a : Addr) (m : Nat) (t u r s : Int) : Prop where
  at_ : ∃ f g, SqT K H a [.ref f, .ref g] ∧ SqT K H f [.int t, .int u] ∧ SqT K H g [.int r, .int s]
  x : Fr m t u
  y : Fr m r s
theorem Pc.same {K : PySem.W.Frag} {H H' : Hp} {a : Addr} {m : Nat} {t u r s : Int} (h : Pc K H a m t u r s) (e : Same H H') : Pc K H' a m t u r s := by
  obtain ⟨⟨f, g, h1, h2, h3⟩, hx, hy⟩ := h
  exact ⟨⟨f, g, e.tp h1, e.tp h2, e.tp h3⟩, hx, hy⟩
theorem Pc.but {K : PySem.W.Frag} {H H' : Hp} {a p : Addr} {m : Nat} {b t u r s : Int} (h : Pc K H a m t u r s) (hp : Sr H p b) (e : But p H H') : Pc K H' a m t u r s := by
  obtain ⟨⟨f, g, h1, h2, h3⟩, hx, hy⟩ := h
  exact ⟨⟨f, g, hp.tup e h1, hp.tup e h2, hp.tup e h3⟩, hx, hy⟩
def spPlaceZ (K : PySem.W.Frag) : Sp := fun vs H Q _ => ∃ (p : Addr) (k b : Int), vs = [.ref p, .int k] ∧ Sr H p b ∧ b ≤ 60000 ∧ 1 ≤ k ∧ k ≤ 100 ∧
  ∀ (q : Addr) (t u r s : Int) (H' : Hp), But p H H' → Sr H' p (b + 100) → Pc K H' q (nb k + 1) t u r s → Q (.ref q) H'
def spNear (K : PySem.W.Frag) : Sp := fun vs H Q _ => ∃ (p : Addr) (k b : Int) (q : Addr) (t u r s : Int), vs = [.ref p, .int k, .ref q] ∧ Sr H p b ∧ b ≤ 50000 ∧ 1 ≤ k ∧ k ≤ 100 ∧ Pc K H q (nb k + 1) t u r s ∧
  ∀ (a : Addr) (t' u' r' s' : Int) (H' : Hp), But p H H' → Sr H' p (b + 200) → Pc K H' a (nb k + 1) t' u' r' s' → Q (.ref a) H'
theorem tyT {K : PySem.W.Frag} {H : Hp} {a : Addr} {xs : List V} (h : SqT K H a xs) : TyX K H (.ref a) (.type "tuple") := by
  rcases h with (h | ⟨o, h⟩) | ⟨o, its, n, h, c, _⟩
  · exact .base (.tup h)
  · exact .fTuple h
  · exact .kTuple h c
def spIsFr (K : PySem.W.Frag) : Sp := fun vs H Q _ => ∃ (p : Addr) (t u : Int), vs = [.ref p] ∧ SqT K H p [.int t, .int u] ∧ 0 < u ∧ Int.gcd t u = 1 ∧ Q (.bl true) H
def spIsPl (K : PySem.W.Frag) : Sp := fun vs H Q _ => ∃ (p f g : Addr) (t u r s : Int), vs = [.ref p] ∧ SqT K H p [.ref f, .ref g] ∧ SqT K H f [.int t, .int u] ∧ SqT K H g [.int r, .int s] ∧ 0 < u ∧ Int.gcd t u = 1 ∧ 0 < s ∧ Int.gcd r s = 1 ∧ Q (.bl true) H
end Mb
namespace Mb
open PySem L2
/-! ### fractions as rationals -/
theorem low_rat {t b : Int} (hb : b ≠ 0) : lowT t b = (Rat.divInt t b).num ∧ lowB t b = ((Rat.divInt t b).den : Int) := by
  have hd : ((Rat.divInt t b).den : Int) ≠ 0 := by have := (Rat.divInt t b).den_nz; omega
  refine low_eq hb (by omega) (Rat.divInt t b).reduced ?_
  have e := Rat.num_divInt_den (Rat.divInt t b)
  exact ((Rat.divInt_eq_divInt_iff hd hb).mp e).symm
/-- the sizes of a rational's numbers -/
structure Sz (n : Nat) (q : Rat) : Prop where
  t : Sm n q.num
  b : Sm n (q.den : Int)
theorem Sz.mono {m n : Nat} {q : Rat} (h : Sz m q) (l : m ≤ n) : Sz n q := ⟨h.t.mono l, h.b.mono l⟩
theorem Sz.lit {q : Rat} (h1 : Sm 8 q.num) (h2 : Sm 8 (q.den : Int)) : Sz 8 q := ⟨h1, h2⟩
theorem Sz.divInt {n : Nat} {t b : Int} (hb : b ≠ 0) (h1 : Sm n t) (h2 : Sm n b) : Sz n (Rat.divInt t b) := by
  obtain ⟨e1, e2⟩ := low_rat (t := t) hb
  refine ⟨?_, ?_⟩
  · rw [← e1]; exact h1.le (lowT_le hb)
  · rw [← e2]; exact h2.le (lowB_le hb)
theorem den_ne (q : Rat) : (q.den : Int) ≠ 0 := by have := q.den_nz; omega
theorem den_pos (q : Rat) : 0 < (q.den : Int) := by have := q.den_nz; omega
theorem add_dv (p q : Rat) : p + q = Rat.divInt (p.num * q.den + q.num * p.den) (p.den * q.den) := by
  rw [← Rat.divInt_add_divInt _ _ (den_ne p) (den_ne q), Rat.num_divInt_den, Rat.num_divInt_den]
theorem sub_dv (p q : Rat) : p - q = Rat.divInt (p.num * q.den - q.num * p.den) (p.den * q.den) := by
  rw [← Rat.divInt_sub_divInt _ _ (den_ne p) (den_ne q), Rat.num_divInt_den, Rat.num_divInt_den]
theorem mul_dv (p q : Rat) : p * q = Rat.divInt (p.num * q.num) (p.den * q.den) := by
  rw [← Rat.divInt_mul_divInt, Rat.num_divInt_den, Rat.num_divInt_den]
theorem div_dv (p q : Rat) : p / q = Rat.divInt (p.num * q.den) (p.den * q.num) := by
  rw [Rat.div_def, ← Rat.divInt_mul_divInt, Rat.num_divInt_den, ← Rat.inv_divInt, Rat.num_divInt_den]
theorem Sz.add {m n : Nat} {p q : Rat} (h : Sz m p) (l : Sz n q) : Sz (m + n + 1) (p + q) := by
  rw [add_dv]
  exact Sz.divInt (Int.mul_ne_zero (den_ne p) (den_ne q)) (((h.t.mul l.b).add ((l.t.mul h.b).mono (by omega)))) ((h.b.mul l.b).mono (by omega))
theorem Sz.sub {m n : Nat} {p q : Rat} (h : Sz m p) (l : Sz n q) : Sz (m + n + 1) (p - q) := by
  rw [sub_dv]
  exact Sz.divInt (Int.mul_ne_zero (den_ne p) (den_ne q)) (((h.t.mul l.b).sub ((l.t.mul h.b).mono (by omega)))) ((h.b.mul l.b).mono (by omega))
theorem Sz.mul {m n : Nat} {p q : Rat} (h : Sz m p) (l : Sz n q) : Sz (m + n) (p * q) := by
  rw [mul_dv]
  exact Sz.divInt (Int.mul_ne_zero (den_ne p) (den_ne q)) (h.t.mul l.t) (h.b.mul l.b)
theorem Sz.div {m n : Nat} {p q : Rat} (h : Sz m p) (l : Sz n q) (hq : q ≠ 0) : Sz (m + n) (p / q) := by
  rw [div_dv]
  exact Sz.divInt (Int.mul_ne_zero (den_ne p) (fun z => hq (Rat.num_eq_zero.mp z))) (h.t.mul l.b) (h.b.mul l.t)
theorem Sz.neg {m : Nat} {p : Rat} (h : Sz m p) : Sz m (-p) := ⟨by rw [Rat.neg_num]; exact h.t.neg, h.b⟩
/-- a fraction stands at v -/
def Fq (K : PySem.W.Frag) (H : Hp) (v : V) (q : Rat) : Prop := ∃ a, v = .ref a ∧ SqT K H a [.int q.num, .int q.den]
theorem Fq.up {K : PySem.W.Frag} {H H' : Hp} {v : V} {q : Rat} (h : Fq K H v q) (s : Same H H') : Fq K H' v q := by
  obtain ⟨a, rfl, t⟩ := h
  exact ⟨a, rfl, s.tp t⟩
theorem Fq.of {K : PySem.W.Frag} {H : Hp} {a : Addr} {t b : Int} (q : Rat) (hb : b ≠ 0) (e : q = Rat.divInt t b) (h : H a = some (.tup [.int (lowT t b), .int (lowB t b)])) : Fq K H (.ref a) q := by
  obtain ⟨e1, e2⟩ := low_rat (t := t) hb
  rw [e1, e2, ← e] at h
  exact ⟨a, rfl, tupOf h⟩
/-- a fraction stands at v, in lowest terms or not -/
def Rq (K : PySem.W.Frag) (H : Hp) (v : V) (q : Rat) (n : Nat) : Prop := ∃ a t b, v = .ref a ∧ SqT K H a [.int t, .int b] ∧ b ≠ 0 ∧ q = Rat.divInt t b ∧ Sm n t ∧ Sm n b
theorem Rq.up {K : PySem.W.Frag} {H H' : Hp} {v : V} {q : Rat} {n : Nat} (h : Rq K H v q n) (s : Same H H') : Rq K H' v q n := by
  obtain ⟨a, t, b, rfl, h1, h2⟩ := h
  exact ⟨a, t, b, rfl, s.tp h1, h2⟩
theorem Fq.rq {K : PySem.W.Frag} {H : Hp} {v : V} {q : Rat} {n : Nat} (h : Fq K H v q) (s : Sz n q) : Rq K H v q n := by
  obtain ⟨a, rfl, t⟩ := h
  exact ⟨a, _, _, rfl, t, den_ne q, (Rat.num_divInt_den q).symm, s.t, s.b⟩
/-- a place stands at v -/
def Pq (K : PySem.W.Frag) (H : Hp) (v : V) (x y : Rat) : Prop := ∃ a f g, v = .ref a ∧ SqT K H a [f, g] ∧ Fq K H f x ∧ Fq K H g y
theorem Pq.up {K : PySem.W.Frag} {H H' : Hp} {v : V} {x y : Rat} (h : Pq K H v x y) (s : Same H H') : Pq K H' v x y := by
  obtain ⟨a, f, g, rfl, t, h1, h2⟩ := h
  exact ⟨a, f, g, rfl, s.tp t, h1.up s, h2.up s⟩
theorem Fq.but {K : PySem.W.Frag} {H H' : Hp} {v : V} {q : Rat} {p : Addr} {xs : List V} (h : Fq K H v q) (hp : H p = some (.lst xs)) (s : But p H H') : Fq K H' v q := by
  obtain ⟨a, rfl, t⟩ := h
  exact ⟨a, rfl, s.tup hp t⟩
theorem Pq.but {K : PySem.W.Frag} {H H' : Hp} {v : V} {x y : Rat} {p : Addr} {xs : List V} (h : Pq K H v x y) (hp : H p = some (.lst xs)) (s : But p H H') : Pq K H' v x y := by
  obtain ⟨a, f, g, rfl, t, h1, h2⟩ := h
  exact ⟨a, f, g, rfl, s.tup hp t, h1.but hp s, h2.but hp s⟩
/-! ### == of fractions, of places -/
def dq (q : Rat) : PyData := .tuple [.int q.num, .int q.den]
def dpl (x y : Rat) : PyData := .tuple [dq x, dq y]
theorem Fq.dp {K : PySem.W.Frag} {H : Hp} {v : V} {q : Rat} (h : Fq K H v q) : Dp K H v (dq q) := by
  obtain ⟨a, rfl, t⟩ := h
  exact .tup t (.cons (.int _) (.cons (.int _) .nil))
theorem Pq.dp {K : PySem.W.Frag} {H : Hp} {v : V} {x y : Rat} (h : Pq K H v x y) : Dp K H v (dpl x y) := by
  obtain ⟨a, f, g, rfl, t, h1, h2⟩ := h
  exact .tup t (.cons h1.dp (.cons h2.dp .nil))
theorem dq_inj {p q : Rat} (h : dq p = dq q) : p = q := by
  unfold dq at h
  injection h with h
  injection h with h1 h
  injection h with h2 h
  injection h1 with h1
  injection h2 with h2
  exact Rat.ext h1 (Int.ofNat_inj.mp h2)
section
variable {H : Hp} {Q : VK} {K : PySem.W.Frag}
theorem r_eqTrue {v w : V} {d : PyData} (h1 : Dp K H v d) (h2 : Dp K H w d) (sh : SeqAt.shaped d = true) (cl : PyData.canLay0 d = true) (k : Q (.bl true) H) : rEqD K v w H Q := by
  refine ⟨d, d, h1, h2, sh, sh, ?_⟩
  rw [SeqAt.eqv_refl _ cl]
  exact k
theorem r_eqQ {v w : V} {p q : Rat} (h1 : Fq K H v p) (h2 : Fq K H w q) (e : p = q) (k : Q (.bl true) H) : rEqD K v w H Q := by
  subst e
  exact r_eqTrue h1.dp h2.dp rfl rfl k
theorem r_eqP {v w : V} {x y x' y' : Rat} (h1 : Pq K H v x y) (h2 : Pq K H w x' y') (e : x = x' ∧ y = y') (k : Q (.bl true) H) : rEqD K v w H Q := by
  obtain ⟨rfl, rfl⟩ := e
  exact r_eqTrue h1.dp h2.dp rfl rfl k
end
/-! ### promises over rationals -/
def spQ2 (K : PySem.W.Frag) (pre : Rat → Rat → Prop) (op : Rat → Rat → Rat) : Sp := fun vs H Q _ => ∃ (v w : V) (p q : Rat) (n m : Nat), vs = [v, w] ∧ Fq K H v p ∧ Fq K H w q ∧ Sz n p ∧ Sz m q ∧ n + m ≤ 8000 ∧ pre p q ∧
  ∀ (r : V) (H' : Hp), Same H H' → Fq K H' r (op p q) → Q r H'
theorem q2_arith {K : PySem.W.Frag} {pre : Rat → Rat → Prop} {op : Rat → Rat → Rat} {T B : Int → Int → Int → Int → Int}
    (hop : ∀ p q, pre p q → B p.num p.den q.num q.den ≠ 0 ∧ op p q = Rat.divInt (T p.num p.den q.num q.den) (B p.num p.den q.num q.den)) {vs : List V} {H : Hp} {Q : VK} {E : XK} (h : spQ2 K pre op vs H Q E) : spArith K T B vs H Q E := by
  obtain ⟨_, _, p, q, n, m, rfl, ⟨a, rfl, ha⟩, ⟨b, rfl, hb⟩, s1, s2, l, pr, k⟩ := h
  obtain ⟨h1, h2⟩ := hop p q pr
  exact ⟨a, b, _, _, _, _, n, m, rfl, ha, hb, s1.t, s1.b, s2.t, s2.b, l, h1, fun o H' g _ ho => k _ _ g (Fq.of _ h1 h2 ho)⟩
theorem plus_q2 {K : PySem.W.Frag} {vs : List V} {H : Hp} {Q : VK} {E : XK} (h : spQ2 K (fun _ _ => True) (· + ·) vs H Q E) : spArith K (fun x y u v => x * v + u * y) (fun x y u v => y * v) vs H Q E :=
  q2_arith (fun p q _ => ⟨Int.mul_ne_zero (den_ne p) (den_ne q), add_dv p q⟩) h
theorem minus_q2 {K : PySem.W.Frag} {vs : List V} {H : Hp} {Q : VK} {E : XK} (h : spQ2 K (fun _ _ => True) (· - ·) vs H Q E) : spArith K (fun x y u v => x * v - u * y) (fun x y u v => y * v) vs H Q E :=
  q2_arith (fun p q _ => ⟨Int.mul_ne_zero (den_ne p) (den_ne q), sub_dv p q⟩) h
theorem times_q2 {K : PySem.W.Frag} {vs : List V} {H : Hp} {Q : VK} {E : XK} (h : spQ2 K (fun _ _ => True) (· * ·) vs H Q E) : spArith K (fun x y u v => x * u) (fun x y u v => y * v) vs H Q E :=
  q2_arith (fun p q _ => ⟨Int.mul_ne_zero (den_ne p) (den_ne q), mul_dv p q⟩) h
theorem over_q2 {K : PySem.W.Frag} {vs : List V} {H : Hp} {Q : VK} {E : XK} (h : spQ2 K (fun _ q => q ≠ 0) (· / ·) vs H Q E) : spArith K (fun x y u v => x * v) (fun x y u v => y * u) vs H Q E :=
  q2_arith (fun p q h => ⟨Int.mul_ne_zero (den_ne p) (fun z => h (Rat.num_eq_zero.mp z)), div_dv p q⟩) h
/-- the raw ones -/
def spR2 (K : PySem.W.Frag) (op : Rat → Rat → Rat) : Sp := fun vs H Q _ => ∃ (v w : V) (p q : Rat) (n m : Nat), vs = [v, w] ∧ Rq K H v p n ∧ Rq K H w q m ∧ n ≤ 20000 ∧ m ≤ 20000 ∧
  ∀ (r : V) (H' : Hp), Same H H' → Rq K H' r (op p q) (n + m + 1) → Q r H'
def spS2 (K : PySem.W.Frag) : Sp := fun vs H Q _ => ∃ (v w : V) (p q : Rat) (n m : Nat), vs = [v, w] ∧ Rq K H v p n ∧ Rq K H w q m ∧ n ≤ 100000 ∧ m ≤ 100000 ∧ Q (.bl (decide (p = q))) H
theorem r2_raw {K : PySem.W.Frag} {op : Rat → Rat → Rat} {T B : Int → Int → Int → Int → Int}
    (hop : ∀ x y u v : Int, ∀ n m : Nat, y ≠ 0 → v ≠ 0 → Sm n x → Sm n y → Sm m u → Sm m v → B x y u v ≠ 0 ∧ op (Rat.divInt x y) (Rat.divInt u v) = Rat.divInt (T x y u v) (B x y u v) ∧ Sm (n + m + 1) (T x y u v) ∧ Sm (n + m + 1) (B x y u v)) {vs : List V} {H : Hp} {Q : VK} {E : XK} (h : spR2 K op vs H Q E) : spRaw K T B vs H Q E := by
  obtain ⟨_, _, p, q, n, m, rfl, ⟨a, x, y, rfl, ha, y0, rfl, sx, sy⟩, ⟨b, u, v, rfl, hb, v0, rfl, su, sv⟩, l1, l2, k⟩ := h
  obtain ⟨h1, h2, h3, h4⟩ := hop x y u v n m y0 v0 sx sy su sv
  exact ⟨a, b, _, _, _, _, rfl, ha, hb, sx.mono l1, sy.mono l1, su.mono l2, sv.mono l2, fun o H' g _ ho => k _ _ g ⟨o, _, _, rfl, tupOf ho, h1, h2, h3, h4⟩⟩
theorem plus_r2 {K : PySem.W.Frag} {vs : List V} {H : Hp} {Q : VK} {E : XK} (h : spR2 K (· + ·) vs H Q E) : spRaw K (fun x y u v => x * v + u * y) (fun x y u v => y * v) vs H Q E :=
  r2_raw (fun x y u v n m y0 v0 sx sy su sv => ⟨Int.mul_ne_zero y0 v0, Rat.divInt_add_divInt _ _ y0 v0, (sx.mul sv).add ((su.mul sy).mono (by omega)), (sy.mul sv).mono (by omega)⟩) h
theorem minus_r2 {K : PySem.W.Frag} {vs : List V} {H : Hp} {Q : VK} {E : XK} (h : spR2 K (· - ·) vs H Q E) : spRaw K (fun x y u v => x * v - u * y) (fun x y u v => y * v) vs H Q E :=
  r2_raw (fun x y u v n m y0 v0 sx sy su sv => ⟨Int.mul_ne_zero y0 v0, Rat.divInt_sub_divInt _ _ y0 v0, (sx.mul sv).sub ((su.mul sy).mono (by omega)), (sy.mul sv).mono (by omega)⟩) h
theorem times_r2 {K : PySem.W.Frag} {vs : List V} {H : Hp} {Q : VK} {E : XK} (h : spR2 K (· * ·) vs H Q E) : spRaw K (fun x y u v => x * u) (fun x y u v => y * v) vs H Q E :=
  r2_raw (fun x y u v n m y0 v0 sx sy su sv => ⟨Int.mul_ne_zero y0 v0, Rat.divInt_mul_divInt _ _, (sx.mul su).mono (by omega), (sy.mul sv).mono (by omega)⟩) h
theorem same_r2 {K : PySem.W.Frag} {vs : List V} {H : Hp} {Q : VK} {E : XK} (h : spS2 K vs H Q E) : spEven K vs H Q E := by
  obtain ⟨_, _, p, q, n, m, rfl, ⟨a, x, y, rfl, ha, y0, rfl, sx, sy⟩, ⟨b, u, v, rfl, hb, v0, rfl, su, sv⟩, l1, l2, k⟩ := h
  refine ⟨a, b, _, _, _, _, rfl, ha, hb, sx.mono l1, sy.mono l1, su.mono l2, sv.mono l2, ?_⟩
  have e : decide (Rat.divInt x y = Rat.divInt u v) = decide (x * v = u * y) := decide_eq_decide.mpr (Rat.divInt_eq_divInt_iff y0 v0)
  rw [← e]
  exact k
/-- a promise that is asked for less -/
theorem Kn.of {P : Program} {w : World} {K : PySem.W.Frag} {mg : Str → Option Value} {base : Heap} {k : Nat} {x : Str} {ps : List Str} {sp sp' : Sp} (G : Kn P w K mg base k x ps sp) (i : ∀ vs H Q E, sp' vs H Q E → sp vs H Q E) : Kn P w K mg base k x ps sp' := by
  obtain ⟨f, fd, F, m, kp, b⟩ := G.ex
  exact ⟨f, fd, F.imp i, m, kp, b⟩
def newT (Q : VK) (xs : List V) (H : Hp) : Prop := xs.length ≤ sizeLine ∧ ∀ p, H p = none → Q (.ref p) (upd H p (.tup xs))
def newL (Q : VK) (xs : List V) (H : Hp) : Prop := xs.length ≤ sizeLine ∧ ∀ p, H p = none → Q (.ref p) (upd H p (.lst xs))
theorem r_tup2 {σ : St} {H : Hp} {Q : VK} {t : TA} (q : t σ H fun xs H1 => newT Q xs H1) : tTup t σ H Q := q
theorem r_lst2 {σ : St} {H : Hp} {Q : VK} {t : TA} (q : t σ H fun xs H1 => newL Q xs H1) : tLst t σ H Q := q
theorem r_newT {H : Hp} {Q : VK} {xs : List V} (l : Nat.ble xs.length 1000 = true) (q : ∀ p H2, Same H H2 → H p = none → H2 p = some (.tup xs) → Q (.ref p) H2) : newT Q xs H :=
  ⟨sz l, fun p hp => q p _ (same_new hp _) hp upd_same⟩
theorem r_newL {H : Hp} {Q : VK} {xs : List V} (l : Nat.ble xs.length 1000 = true) (q : ∀ p H2, Same H H2 → H p = none → H2 p = some (.lst xs) → Q (.ref p) H2) : newL Q xs H :=
  ⟨sz l, fun p hp => q p _ (same_new hp _) hp upd_same⟩
/-! ### steps over rationals -/
section
variable {σ : St} {H : Hp} {Q : VK} {E : XK} {K : PySem.W.Frag}
theorem Fq.int {H : Hp} {a : Addr} {t : Int} (h : H a = some (.tup [.int t, .int 1])) : Fq K H (.ref a) (t : Rat) := ⟨a, rfl, tupOf h⟩
theorem Pq.mk {H : Hp} {a : Addr} {f g : V} {x y : Rat} (h : H a = some (.tup [f, g])) (h1 : Fq K H f x) (h2 : Fq K H g y) : Pq K H (.ref a) x y := ⟨a, f, g, rfl, tupOf h, h1, h2⟩
theorem r_ixF0 {v : V} {q : Rat} (h : Fq K H v q) (k : Q (.int q.num) H) : rIxT K v (.int 0) H Q := by
  obtain ⟨a, rfl, t⟩ := h
  exact ⟨a, _, 0, _, rfl, rfl, t, rfl, k⟩
theorem r_ixF1 {v : V} {q : Rat} (h : Fq K H v q) (k : Q (.int q.den) H) : rIxT K v (.int 1) H Q := by
  obtain ⟨a, rfl, t⟩ := h
  exact ⟨a, _, 1, _, rfl, rfl, t, rfl, k⟩
theorem r_ixP0 {v : V} {x y : Rat} (h : Pq K H v x y) (k : ∀ f, Fq K H f x → Q f H) : rIxT K v (.int 0) H Q := by
  obtain ⟨a, f, g, rfl, t, h1, h2⟩ := h
  exact ⟨a, _, 0, f, rfl, rfl, t, rfl, k f h1⟩
theorem r_ixP1 {v : V} {x y : Rat} (h : Pq K H v x y) (k : ∀ f, Fq K H f y → Q f H) : rIxT K v (.int 1) H Q := by
  obtain ⟨a, f, g, rfl, t, h1, h2⟩ := h
  exact ⟨a, _, 1, g, rfl, rfl, t, rfl, k g h2⟩
theorem r_q2 {pre : Rat → Rat → Prop} {op : Rat → Rat → Rat} {v w : V} {p q : Rat} {n m : Nat} (h1 : Fq K H v p) (h2 : Fq K H w q) (s1 : Sz n p) (s2 : Sz m q) (l : Nat.ble (n + m) 8000 = true) (pr : pre p q)
    (k : ∀ (r : V) (H' : Hp), Same H H' → Fq K H' r (op p q) → Q r H') : spQ2 K pre op ([v, w] ++ []) H Q E :=
  ⟨v, w, p, q, n, m, rfl, h1, h2, s1, s2, Nat.le_of_ble_eq_true l, pr, k⟩
theorem r_r2 {op : Rat → Rat → Rat} {v w : V} {p q : Rat} {n m : Nat} (h1 : Rq K H v p n) (h2 : Rq K H w q m) (l1 : Nat.ble n 20000 = true) (l2 : Nat.ble m 20000 = true)
    (k : ∀ (r : V) (H' : Hp), Same H H' → Rq K H' r (op p q) (n + m + 1) → Q r H') : spR2 K op ([v, w] ++ []) H Q E :=
  ⟨v, w, p, q, n, m, rfl, h1, h2, Nat.le_of_ble_eq_true l1, Nat.le_of_ble_eq_true l2, k⟩
theorem r_s2 {v w : V} {p q : Rat} {n m : Nat} (h1 : Rq K H v p n) (h2 : Rq K H w q m) (l1 : Nat.ble n 100000 = true) (l2 : Nat.ble m 100000 = true)
    (k : Q (.bl (decide (p = q))) H) : spS2 K ([v, w] ++ []) H Q E :=
  ⟨v, w, p, q, n, m, rfl, h1, h2, Nat.le_of_ble_eq_true l1, Nat.le_of_ble_eq_true l2, k⟩
end
/-- two places in, a place out -/
def spP2 (K : PySem.W.Frag) (X Y : Rat → Rat → Rat → Rat → Rat) : Sp := fun vs H Q _ => ∃ (v w : V) (x y x' y' : Rat) (n m : Nat), vs = [v, w] ∧ Pq K H v x y ∧ Pq K H w x' y' ∧ Sz n x ∧ Sz n y ∧ Sz m x' ∧ Sz m y' ∧ n + m ≤ 3800 ∧
  ∀ (r : V) (H' : Hp), Same H H' → Pq K H' r (X x y x' y') (Y x y x' y') → Q r H'
theorem r_p2 {H : Hp} {Q : VK} {E : XK} {K : PySem.W.Frag} {X Y : Rat → Rat → Rat → Rat → Rat} {v w : V} {x y x' y' : Rat} {n n2 m m2 : Nat} (h1 : Pq K H v x y) (h2 : Pq K H w x' y') (s1 : Sz n x) (s2 : Sz n2 y) (s3 : Sz m x') (s4 : Sz m2 y') (l : Nat.ble (max n n2 + max m m2) 3800 = true)
    (k : ∀ (r : V) (H' : Hp), Same H H' → Pq K H' r (X x y x' y') (Y x y x' y') → Q r H') : spP2 K X Y ([v, w] ++ []) H Q E := by
  have := Nat.le_of_ble_eq_true l
  exact ⟨v, w, x, y, x', y', max n n2, max m m2, rfl, h1, h2, s1.mono (by omega), s2.mono (by omega), s3.mono (by omega), s4.mono (by omega), this, k⟩
def spIsP (K : PySem.W.Frag) : Sp := fun vs H Q _ => ∃ (v : V) (x y : Rat), vs = [v] ∧ Pq K H v x y ∧ Q (.bl true) H
theorem isP_of {K : PySem.W.Frag} {vs : List V} {H : Hp} {Q : VK} {E : XK} (h : spIsP K vs H Q E) : spIsPl K vs H Q E := by
  obtain ⟨_, x, y, rfl, ⟨a, _, _, rfl, t, ⟨f, rfl, h1⟩, ⟨g, rfl, h2⟩⟩, k⟩ := h
  exact ⟨a, f, g, _, _, _, _, rfl, t, h1, h2, den_pos x, x.reduced, den_pos y, y.reduced, k⟩
/-! ### drawing, over rationals -/
theorem Fr.rat {m : Nat} {t u : Int} (h : Fr m t u) : ∃ q : Rat, q.num = t ∧ (q.den : Int) = u ∧ Sz m q := by
  have p := h.pos
  refine ⟨⟨t, u.toNat, by omega, ?_⟩, rfl, ?_, h.st, ?_⟩
  · have := h.one
    unfold Int.gcd at this
    have e : u.natAbs = u.toNat := by omega
    rw [e] at this
    exact this
  · show ((u.toNat : Nat) : Int) = u
    omega
  · show Sm m ((u.toNat : Nat) : Int)
    have e : ((u.toNat : Nat) : Int) = u := by omega
    rw [e]
    exact h.su
theorem Pc.pq {K : PySem.W.Frag} {H : Hp} {a : Addr} {m : Nat} {t u r s : Int} (h : Pc K H a m t u r s) : ∃ x y, Pq K H (.ref a) x y ∧ Sz m x ∧ Sz m y := by
  obtain ⟨⟨f, g, h1, h2, h3⟩, hx, hy⟩ := h
  obtain ⟨x, rfl, rfl, sx⟩ := hx.rat
  obtain ⟨y, rfl, rfl, sy⟩ := hy.rat
  exact ⟨x, y, ⟨a, _, _, rfl, h1, ⟨f, rfl, h2⟩, ⟨g, rfl, h3⟩⟩, sx, sy⟩
theorem Pq.pc {K : PySem.W.Frag} {H : Hp} {v : V} {m : Nat} {x y : Rat} (h : Pq K H v x y) (sx : Sz m x) (sy : Sz m y) : ∃ a t u r s, v = .ref a ∧ Pc K H a m t u r s := by
  obtain ⟨a, _, _, rfl, h1, ⟨f, rfl, h2⟩, ⟨g, rfl, h3⟩⟩ := h
  exact ⟨a, _, _, _, _, rfl, ⟨f, g, h1, h2, h3⟩, ⟨den_pos x, x.reduced, sx.t, sx.b⟩, ⟨den_pos y, y.reduced, sy.t, sy.b⟩⟩
theorem Sr.at_ {H : Hp} {p : Addr} {b : Int} (h : Sr H p b) : ∃ xs, H p = some (.lst xs) := by
  obtain ⟨x, y, z, h1, _⟩ := h
  exact ⟨_, h1⟩
theorem Fq.upB {K : PySem.W.Frag} {H H' : Hp} {v : V} {q : Rat} {p : Addr} {b : Int} (h : Fq K H v q) (s : But p H H') (hp : Sr H p b) : Fq K H' v q := by
  obtain ⟨xs, e⟩ := hp.at_
  exact h.but e s
theorem Pq.upB {K : PySem.W.Frag} {H H' : Hp} {v : V} {x y : Rat} {p : Addr} {b : Int} (h : Pq K H v x y) (s : But p H H') (hp : Sr H p b) : Pq K H' v x y := by
  obtain ⟨xs, e⟩ := hp.at_
  exact h.but e s
theorem Rq.upB {K : PySem.W.Frag} {H H' : Hp} {v : V} {q : Rat} {n : Nat} {p : Addr} {b : Int} (h : Rq K H v q n) (s : But p H H') (hp : Sr H p b) : Rq K H' v q n := by
  obtain ⟨xs, e⟩ := hp.at_
  obtain ⟨a, t, b, rfl, h1, h2⟩ := h
  exact ⟨a, t, b, rfl, s.tup e h1, h2⟩
theorem same_but {H0 H H' : Hp} {p : Addr} (s : Same H0 H) (n : H0 p = none) (b : But p H H') : Same H0 H' := Same.but s n b
def spPlaceQ (K : PySem.W.Frag) : Sp := fun vs H Q _ => ∃ (p : Addr) (k b : Int), vs = [.ref p, .int k] ∧ Sr H p b ∧ b ≤ 60000 ∧ 1 ≤ k ∧ k ≤ 100 ∧
  ∀ (v : V) (x y : Rat) (H' : Hp), But p H H' → Sr H' p (b + 100) → Pq K H' v x y → Sz (nb k + 1) x → Sz (nb k + 1) y → Q v H'
theorem placeQ_of {K : PySem.W.Frag} {vs : List V} {H : Hp} {Q : VK} {E : XK} (h : spPlaceQ K vs H Q E) : spPlaceZ K vs H Q E := by
  obtain ⟨p, k, b, rfl, h1, h2, h3, h4, q⟩ := h
  refine ⟨p, k, b, rfl, h1, h2, h3, h4, fun a t u r s H' b' s' c => ?_⟩
  obtain ⟨x, y, hq, sx, sy⟩ := c.pq
  exact q _ _ _ _ b' s' hq sx sy
def spNearQ (K : PySem.W.Frag) : Sp := fun vs H Q _ => ∃ (p : Addr) (k b : Int) (w : V) (x y : Rat), vs = [.ref p, .int k, w] ∧ Sr H p b ∧ b ≤ 50000 ∧ 1 ≤ k ∧ k ≤ 100 ∧ Pq K H w x y ∧ Sz (nb k + 1) x ∧ Sz (nb k + 1) y ∧
  ∀ (v : V) (x y : Rat) (H' : Hp), But p H H' → Sr H' p (b + 200) → Pq K H' v x y → Sz (nb k + 1) x → Sz (nb k + 1) y → Q v H'
theorem nearQ_of {K : PySem.W.Frag} {vs : List V} {H : Hp} {Q : VK} {E : XK} (h : spNearQ K vs H Q E) : spNear K vs H Q E := by
  obtain ⟨p, k, b, w, x, y, rfl, h1, h2, h3, h4, hw, sx, sy, q⟩ := h
  obtain ⟨a, t, u, r, s, rfl, hc⟩ := hw.pc sx sy
  refine ⟨p, k, b, a, t, u, r, s, rfl, h1, h2, h3, h4, hc, fun a t u r s H' b' s' c => ?_⟩
  obtain ⟨x, y, hq, sx, sy⟩ := c.pq
  exact q _ _ _ _ b' s' hq sx sy
section
variable {H : Hp} {Q : VK} {E : XK} {K : PySem.W.Frag}
theorem r_stream {a : Addr} {ns : List Int} {i : Int} (hS : SqL K H a (ns.map V.int)) (hl : ns.length ≤ 63) (i0 : 0 ≤ i) (i1 : i ≤ 1000) (k : ∀ (p : Addr) (H' : Hp), Same H H' → H p = none → Sr H' p 0 → Q (.ref p) H') : spStream K ([.ref a, .int i] ++ []) H Q E :=
  ⟨a, ns, i, rfl, hS, hl, i0, i1, k⟩
theorem r_placeQ {p : Addr} {b k : Int} {m : Nat} (hp : Sr H p b) (l : b ≤ 60000) (k0 : 1 ≤ k) (k1 : k ≤ 100) (hm : nb k + 1 = m) (c : ∀ (v : V) (x y : Rat) (H' : Hp), But p H H' → Sr H' p (b + 100) → Pq K H' v x y → Sz m x → Sz m y → Q v H') : spPlaceQ K ([.ref p, .int k] ++ []) H Q E := by
  subst hm
  exact
  ⟨p, k, b, rfl, hp, l, k0, k1, c⟩
theorem r_nearQ {p : Addr} {b k : Int} {m : Nat} {w : V} {x y : Rat} (hp : Sr H p b) (l : b ≤ 50000) (k0 : 1 ≤ k) (k1 : k ≤ 100) (hm : nb k + 1 = m) (hw : Pq K H w x y) (sx : Sz m x) (sy : Sz m y) (c : ∀ (v : V) (x y : Rat) (H' : Hp), But p H H' → Sr H' p (b + 200) → Pq K H' v x y → Sz m x → Sz m y → Q v H') : spNearQ K ([.ref p, .int k, w] ++ []) H Q E := by
  subst hm
  exact ⟨p, k, b, w, x, y, rfl, hp, l, k0, k1, hw, sx, sy, c⟩
theorem r_isP {v : V} {x y : Rat} (h : Pq K H v x y) (k : Q (.bl true) H) : spIsP K ([v] ++ []) H Q E := ⟨v, x, y, rfl, h, k⟩
end
/-! ### more of the drawing, over rationals -/
def spFracQ (K : PySem.W.Frag) : Sp := fun vs H Q _ => ∃ (p : Addr) (k b : Int), vs = [.ref p, .int k] ∧ Sr H p b ∧ b ≤ 70000 ∧ 1 ≤ k ∧ k ≤ 100 ∧
  ∀ (v : V) (x : Rat) (H' : Hp), But p H H' → Sr H' p (b + 50) → Fq K H' v x → Sz (nb k + 1) x → Q v H'
theorem fracQ_of {K : PySem.W.Frag} {vs : List V} {H : Hp} {Q : VK} {E : XK} (h : spFracQ K vs H Q E) : spFractionZ vs H Q E := by
  obtain ⟨p, k, b, rfl, h1, h2, h3, h4, q⟩ := h
  refine ⟨p, k, b, rfl, h1, h2, h3, h4, fun a t u H' b' s' e c => ?_⟩
  obtain ⟨x, rfl, rfl, sx⟩ := c.rat
  exact q _ _ _ b' s' ⟨a, rfl, tupOf e⟩ sx
/-- two places and a fraction in, a place out -/
def spShare (K : PySem.W.Frag) : Sp := fun vs H Q _ => ∃ (v w u : V) (x y x' y' t : Rat) (n m k : Nat), vs = [v, w, u] ∧ Pq K H v x y ∧ Pq K H w x' y' ∧ Fq K H u t ∧ Sz n x ∧ Sz n y ∧ Sz m x' ∧ Sz m y' ∧ Sz k t ∧ n + m ≤ 3800 ∧ k ≤ 500 ∧
  ∀ (r : V) (H' : Hp), Same H H' → Pq K H' r (x + t * (x' - x)) (y + t * (y' - y)) → Q r H'
section
variable {H : Hp} {Q : VK} {E : XK} {K : PySem.W.Frag}
theorem r_fracQ {p : Addr} {b k : Int} {m : Nat} (hp : Sr H p b) (l : b ≤ 70000) (k0 : 1 ≤ k) (k1 : k ≤ 100) (hm : nb k + 1 = m) (c : ∀ (v : V) (x : Rat) (H' : Hp), But p H H' → Sr H' p (b + 50) → Fq K H' v x → Sz m x → Q v H') : spFracQ K ([.ref p, .int k] ++ []) H Q E := by
  subst hm
  exact ⟨p, k, b, rfl, hp, l, k0, k1, c⟩
theorem r_takeS {p : Addr} {b k : Int} (hp : Sr H p b) (l : b ≤ 100000) (k0 : 1 ≤ k) (k1 : k ≤ 1000000) (c : ∀ (r : Int) (H' : Hp), But p H H' → Sr H' p (b + 1) → 0 ≤ r → r < k → Q (.int r) H') : spTakeS ([.ref p, .int k] ++ []) H Q E :=
  ⟨p, k, b, rfl, hp, l, k0, (show Sm 64 k by unfold Sm; omega).mono (by decide), c⟩
theorem r_share {v w u : V} {x y x' y' t : Rat} {n n2 m m2 k : Nat} (h1 : Pq K H v x y) (h2 : Pq K H w x' y') (h3 : Fq K H u t) (s1 : Sz n x) (s2 : Sz n2 y) (s3 : Sz m x') (s4 : Sz m2 y') (s5 : Sz k t) (l : Nat.ble (max n n2 + max m m2) 3800 = true) (l2 : Nat.ble k 500 = true)
    (c : ∀ (r : V) (H' : Hp), Same H H' → Pq K H' r (x + t * (x' - x)) (y + t * (y' - y)) → Q r H') : spShare K ([v, w, u] ++ []) H Q E := by
  have := Nat.le_of_ble_eq_true l
  exact ⟨v, w, u, x, y, x', y', t, max n n2, max m m2, k, rfl, h1, h2, h3, s1.mono (by omega), s2.mono (by omega), s3.mono (by omega), s4.mono (by omega), s5, this, Nat.le_of_ble_eq_true l2, c⟩
end
theorem Pq.cast {K : PySem.W.Frag} {H : Hp} {v : V} {x y x' y' : Rat} (h : Pq K H v x y) (ex : x = x') (ey : y = y') : Pq K H v x' y' := by
  subst ex; subst ey; exact h
theorem Fq.cast {K : PySem.W.Frag} {H : Hp} {v : V} {x x' : Rat} (h : Fq K H v x) (ex : x = x') : Fq K H v x' := by
  subst ex; exact h
theorem r_noN {c : Prop} [Decidable c] {A B : Prop} (h : c) (k : B) : if (!decide c) = true then A else B := by
  rw [decide_eq_true h]; exact k
theorem r_yesQ {c : Prop} [Decidable c] {A B : Prop} (h : c) (k : A) : if decide c = true then A else B := by
  rw [decide_eq_true h]; exact k
theorem r_no {c : Prop} [Decidable c] {A B : Prop} (h : ¬ c) (k : B) : if decide c = true then A else B := by
  rw [decide_eq_false h]; exact k
def spShared (K : PySem.W.Frag) : Sp := fun vs H Q _ => ∃ (r v w u : V) (x0 y0 x y x' y' t : Rat), vs = [r, v, w, u] ∧ Pq K H r x0 y0 ∧ Pq K H v x y ∧ Pq K H w x' y' ∧ Rq K H u t 211 ∧ Sz 3000 x0 ∧ Sz 3000 y0 ∧ Sz 211 x ∧ Sz 211 y ∧ Sz 211 x' ∧ Sz 211 y' ∧ x0 = x + t * (x' - x) ∧ y0 = y + t * (y' - y) ∧
  ∀ (H' : Hp), Same H H' → Q (.bl true) H'
/-- two turns that change one name, the heap but grows -/
theorem r_loop2 {σ : St} {H : Hp} {D : Ends} {tb : TS} {j : Nat}
    (h0 : ∀ (y : Option V) (H' : Hp), Same H H' → ∀ N : St → Hp → Prop, (∀ y' H'', Same H H'' → N (σ.set j y') H'') → tb { D with nx := N, ct := N, bk := D.nx } (σ.set j (some (.int 0))) H')
    (h1 : ∀ (y : Option V) (H' : Hp), Same H H' → ∀ N : St → Hp → Prop, (∀ y' H'', Same H H'' → N (σ.set j y') H'') → tb { D with nx := N, ct := N, bk := D.nx } (σ.set j (some (.int 1))) H')
    (hd : ∀ (y : Option V) (H' : Hp), Same H H' → D.nx (σ.set j y) H') (hj : ∃ y, σ = σ.set j y) : tFor (iRng1 (tCons (tC (.int 2)) tNil)) (gName j) tb D σ H := by
  refine ⟨_, rfl, by decide, by decide, for_range (n := 2) (fun i σ' H' => ∃ y, σ' = σ.set j y ∧ Same H H') ?_ ?_ ?_⟩
  · obtain ⟨y, e⟩ := hj
    exact ⟨y, e, Same.refl _⟩
  · rintro i σ' H' hi ⟨y, rfl, g⟩
    have : i = 0 ∨ i = 1 := by omega
    rcases this with rfl | rfl
    · show tb _ ((σ.set j y).set j (some (.int 0))) H'
      rw [List.set_set]
      exact h0 y H' g _ fun y' H'' g' => ⟨y', rfl, g'⟩
    · show tb _ ((σ.set j y).set j (some (.int 1))) H'
      rw [List.set_set]
      exact h1 y H' g _ fun y' H'' g' => ⟨y', rfl, g'⟩
  · rintro σ' H' ⟨y, rfl, g⟩
    exact hd y H' g
theorem r_neP {H : Hp} {Q : VK} {K : PySem.W.Frag} {v w : V} {x y x' y' : Rat} (h1 : Pq K H v x y) (h2 : Pq K H w x' y') (e : x = x' ∧ y = y') (k : Q (.bl false) H) : rNeD K v w H Q := by
  obtain ⟨rfl, rfl⟩ := e
  refine ⟨_, _, h1.dp, h2.dp, rfl, rfl, ?_⟩
  rw [SeqAt.eqv_refl _ rfl]
  exact k
theorem r_shared {H : Hp} {Q : VK} {E : XK} {K : PySem.W.Frag} {r v w u : V} {x0 y0 x y x' y' t : Rat} {n n2 : Nat} (h0 : Pq K H r x0 y0) (h1 : Pq K H v x y) (h2 : Pq K H w x' y') (h3 : Rq K H u t 211) (s0 : Sz n x0) (s1 : Sz n2 y0) (l : Nat.ble (max n n2) 3000 = true) (s2 : Sz 211 x) (s3 : Sz 211 y) (s4 : Sz 211 x') (s5 : Sz 211 y') (e1 : x0 = x + t * (x' - x)) (e2 : y0 = y + t * (y' - y))
    (c : ∀ (H' : Hp), Same H H' → Q (.bl true) H') : spShared K ([r, v, w, u] ++ []) H Q E := by
  have := Nat.le_of_ble_eq_true l
  exact ⟨r, v, w, u, x0, y0, x, y, x', y', t, rfl, h0, h1, h2, h3, s0.mono (by omega), s1.mono (by omega), s2, s3, s4, s5, e1, e2, c⟩
theorem Rq.of2 {K : PySem.W.Frag} {H : Hp} {p : Addr} {t b : Int} {n m : Nat} (h : H p = some (.tup [.int t, .int b])) (nz : b ≠ 0) (s1 : Sm n t) (s2 : Sm m b) : Rq K H (.ref p) ((t : Rat) / (b : Rat)) (max n m) := ⟨p, t, b, rfl, tupOf h, nz, (Rat.divInt_eq_div t b).symm, s1.mono (by omega), s2.mono (by omega)⟩
theorem Fq.intI {K : PySem.W.Frag} {H : Hp} {a : Addr} {i : Int} (h : H a = some (.tup [.int i, .int 1])) : Fq K H (.ref a) (i : Rat) := ⟨a, rfl, tupOf h⟩
theorem Sz.int {i : Int} {n : Nat} (h : Sm n i) (l : 0 < n) : Sz n (i : Rat) := ⟨h, by
  show Sm n ((1 : Nat) : Int)
  unfold Sm
  exact Nat.one_lt_two_pow (by omega)⟩
end Mb
namespace Mb
open PySem L2
/-! ### defs that may raise -/
structure KnX (P : Program) (w : World) (K : PySem.W.Frag) (mg : Str → Option Value) (base : Heap) (k : Nat) (x : Str) (ps : List Str) (sp : Sp) : Prop where
  ex : ∃ f fd, FnOk P w K mg base (L2.CX P w) k f fd ps sp ∧ mg x = some (.ref f) ∧ PySem.W.keepIn K (.ref f) = true ∧ Binds K fd ps []
section
variable {X : Cx} {k : Nat} {x : Str} {ps : List Str} {sp : Sp} {e : Expr} {es : List Expr} {p pos : Pos} {t : TA}
/-- a call that is known not to raise -/
theorem pe_knX (G : KnX X.prog X.w X.K X.mg X.base k x ps sp) (hr : Room k X.A) (hg : Gl X x)
    (ha : PA X (e :: es) t) (hdb : (x == ("__debug__" : Str)) = false := by decide) (he : starEach (e :: es) X.env = (false, eval e X.env) :: starEach es X.env := by rfl) (hpl : (backTo pos (starEach es X.env)).any (·.1) = false := by rfl) :
    PE X (.Call (.Name x p) (e :: es) [] pos) (tCall sp [] E0 t) := by
  obtain ⟨f, fd, F, m, kp, b⟩ := G.ex
  exact pe_call F hr hg m kp b .nil passL ha hdb he hpl
/-- a call in a def that lets out what it raises -/
theorem pe_knXX {E : XK} (tk : Takes X (fun cls d _ H => E cls d H)) (G : KnX X.prog X.w X.K X.mg X.base k x ps sp) (hr : Room k X.A) (hg : Gl X x)
    (ha : PA X (e :: es) t) (hdb : (x == ("__debug__" : Str)) = false := by decide) (he : starEach (e :: es) X.env = (false, eval e X.env) :: starEach es X.env := by rfl) (hpl : (backTo pos (starEach es X.env)).any (·.1) = false := by rfl) :
    PE X (.Call (.Name x p) (e :: es) [] pos) (tCall sp [] E t) := by
  obtain ⟨f, fd, F, m, kp, b⟩ := G.ex
  exact pe_call F hr hg m kp b .nil (passes_call tk fun _ _ _ _ h => h) ha hdb he hpl
/-- a call in a try's body -/
theorem pe_knS {W : WX} (tk : Takes X W) (G : KnX X.prog X.w X.K X.mg X.base k x ps sp) (hr : Room k X.A) (hg : Gl X x)
    (ha : PA X (e :: es) t) (hdb : (x == ("__debug__" : Str)) = false := by decide) (he : starEach (e :: es) X.env = (false, eval e X.env) :: starEach es X.env := by rfl) (hpl : (backTo pos (starEach es X.env)).any (·.1) = false := by rfl) :
    PE X (.Call (.Name x p) (e :: es) [] pos) (tCallS sp (WE W) t) := by
  obtain ⟨f, fd, F, m, kp, b⟩ := G.ex
  exact pe_callS F hr hg m kp b (fun σ => passAt tk σ) ha hdb he hpl
end
theorem Fn.knX {P : Program} {w : World} {K : PySem.W.Frag} {mg : Str → Option Value} {base : Heap} {k : Nat} {x : Str} {st : Stmt} {N ps : List Str} {sp : Sp} (F : Fn K mg x st) (S : FnScope N ps (defScope st)) (len : ∀ vs H Q E, sp vs H Q E → vs.length = ps.length)
    (hbody : ∀ (f : Addr) (cdv : Value) (A : Around) (outer : List Env) (s : Shared) (H : Hp) (vs : List V) (Q : VK) (E : XK), Room k (A.deeper (PyProof.Rows.envOfC x (defScope st) s.heap.objs.size f cdv)) → sp vs H Q E →
      ∃ t, PSs (cxOf (L2.CX P w) P w K mg base N x (defScope st) f cdv A outer s H E) (defBody st) t ∧ t { nx := fun _ H' => Q .non H', rt := Q } (start N vs) H)
    (hb : ∀ (kV doc pm : Value) (an : Option Addr) (cdv ct : Value) (us : List Value), us.length = ps.length → bindArgs (PySem.W.fnOf x x (defArgs st) (defBody st) (defScope st) .none kV doc pm an cdv ct) ⟨us, []⟩ = pure (ps.zip us)) :
    KnX P w K mg base (k + 1) x ps sp := by
  obtain ⟨f, fd, F, m⟩ := F.ex
  exact ⟨f, fd, F.ok S len fun cdv A outer s H vs Q E hr h => hbody f cdv A outer s H vs Q E hr h, m, F.kp, F.bindsN hb⟩
/-! ### an own error class without arguments -/
structure XCls (K : PySem.W.Frag) (mg : Str → Option Value) (x : Str) (C : Addr) : Prop where
  g : mg x = some (.ref C)
  q : PySem.W.excIn K C He.veBase "ValueError.__new__" = true
  k : PySem.W.keepIn K (.ref C) = true
  b : PySem.W.subIn K (.ref C) (.type "BaseException") = some true
  t : PySem.W.typeIn K (.ref C) = some (.type "type")
theorem pmk_own0 {X : Cx} {x : Str} {C : Addr} {p pos : Pos} (T : XCls X.K X.mg x C) (hg : Gl X x) (hdb : (x == ("__debug__" : Str)) = false := by decide) :
    PMk X (.Call (.Name x p) [] [] pos) (fun _ H Q => Q (.ref C) none H) := by
  intro pins s σ H Q I h
  refine wpAny_Call_Name_kw (ld_glob I hg T.g ?_ hdb)
  obtain ⟨bm, N, nm, qn, bs, hdct, sn, sub, ab, col, dd, k0, k1, k2, k3, k5, mN, hC, hN, hni, TT⟩ := exc_obj I.kIn T.q
  obtain ⟨hp1, g1, d1, tk1, os1⟩ := s
  exact PySem.W.callWith_K0 I.kIn T.k (wpAny_call_exc_subT PySem.F.excBase_ValueError TT hC hN hni (fun h1 a mk => mk_of I mk (raises_own T.b T.t) h (I.hok.gone mk.new)) (Nat.zero_le _))
/-! ### a reading that holds under a condition -/
theorem pss_when {X : Cx} {sts : List Stmt} {p : Prop} {t : TS} (h : p → PSs X sts t) : PSs X sts (fun D σ H => p ∧ t D σ H) := ⟨fun pins s σ H D I q => (h q.1).run pins s σ H D I q.2⟩
/-! ### except clauses, with and without a name, one after the other -/
inductive Hds (X : Cx) (Wout : WX) : List ExceptHandler → (Ends → WX) → Prop
  | nil : Hds X Wout [] (fun _ => Wout)
  | plain {x : Str} {c : Value} {ts : Addr → Value → Option Addr → TS} {b0 : Stmt} {su : List Stmt} {np pq : Pos} {hds : List ExceptHandler} {w : Ends → WX} (hc : Names X x c)
      (hsu : ∀ (a : Addr) (oe : Obj) (cls : Value) (d : Option Addr) (pn : List (Addr × Obj)), Zc cls d oe → (∃ vs, oe.data = .fields vs) → PSs (X.suite a ((a, oe) :: pn)) (b0 :: su) (ts a cls d)) (r : Hds X Wout hds w) :
      Hds X Wout (.ExceptHandler (some (.Name x np)) none (b0 :: su) pq :: hds) (fun D cls d σ H => ∃ b, PySem.W.exmOne X.K cls c = some b ∧ (b = true → ∀ a, H a = none → ts a cls d D σ H) ∧ (b = false → w D cls d σ H))
  | named {x n : Str} {i : Nat} {c : Value} {ts : Addr → Value → Option Addr → TS} {b0 : Stmt} {su : List Stmt} {np pq : Pos} {hds : List ExceptHandler} {w : Ends → WX} (hN : X.N.Nodup) (hi : X.N[i]? = some n) (hln : X.env.kindOf n = some .local) (hc : Names X x c)
      (hsu : ∀ (a : Addr) (oe : Obj) (cls : Value) (d : Option Addr) (pn : List (Addr × Obj)), Zc cls d oe → (∃ vs, oe.data = .fields vs) → PSs (X.suite a ((a, oe) :: pn)) (b0 :: su) (ts a cls d)) (r : Hds X Wout hds w) :
      Hds X Wout (.ExceptHandler (some (.Name x np)) (some n) (b0 :: su) pq :: hds)
        (fun D cls d σ H => ∃ b, PySem.W.exmOne X.K cls c = some b ∧ (b = true → ∀ a, H a = none → ts a cls d { nx := fun σ1 H1 => D.nx (σ1.set i none) H1, rt := D.rt, bk := fun σ1 H1 => D.bk (σ1.set i none) H1, ct := fun σ1 H1 => D.ct (σ1.set i none) H1 } (σ.set i (some (.ref a))) H) ∧ (b = false → w D cls d σ H))
section
variable {X : Cx} {body : List Stmt} {h0 : ExceptHandler} {hds : List ExceptHandler} {w : Ends → WX} {pos : Pos} {tb : WX → TS} {Wout : WX}
theorem ps_try_hs (hs : X.stack = X.env :: X.outer) (hf : X.env.frame = some X.env.locals) (tk : Takes X Wout)
    (hb : ∀ (W : WX) (pn : List (Addr × Obj)) (xe : Value → Shared → Prop), Takes (X.tr pn xe) W → PSs (X.tr pn xe) body (tb W)) (hh : Hds X Wout (h0 :: hds) w) : PS X (.Try body (h0 :: hds) [] [] pos) (fun D σ H => tb (w D) D σ H) := by
  constructor
  intro pins s σ H D I q
  have ok := I.ok
  have hfr : X.A.frames = some (X.env :: X.outer) := hs ▸ ok.frames
  refine wpAny_Try_except (wpAny_mono ((hb (w D) (X.pn ++ pins) _ ?caught).run [] s σ H D (I.toTry _) q) ?back fun _ _ z => z)
  case back =>
    intro fl s1 z
    cases fl with
    | ret u => obtain ⟨v, σ1, H1, J, r, z⟩ := z; exact ⟨v, σ1, H1, J.ofTry ok, r, z⟩
    | cont => obtain ⟨σ1, H1, J, z⟩ := z; exact ⟨σ1, H1, J.ofTry ok, z⟩
    | brk => obtain ⟨σ1, H1, J, z⟩ := z; exact ⟨σ1, H1, J.ofTry ok, z⟩
    | next => obtain ⟨σ1, H1, J, z⟩ := z; exact wpAny_execs_nil ⟨σ1, H1, J.ofTry ok, z⟩
  case caught =>
    rintro u sx ⟨a, B, sI, pins1, σ1, H1, cls, d, rfl, J0, nb, up, sky, na, os, ag, wish⟩
    have J : Inv X pins σ1 H1 sI := J0.ofTry ok
    have skyX : Sky B (X.env :: X.outer) a (Zc cls d) X.env.locals sx.heap := hs ▸ sky
    show wpAny (model X.prog X.w) X.A (noteFrame (.ref a) X.env) _ _ _
    refine Sky.land Zc.steady hfr hf skyX fun hp fly upp => ?_
    have Jl : Inv X pins σ1 H1 { sx with heap := hp } := J.landed nb fly.1 (up.trans upp) os ag
    obtain ⟨ob, vs, hob, hz, hdat⟩ := fly.there
    have nfr : a ∉ frs (X.env :: X.outer) := fun hm => by
      obtain ⟨_, o1, e1, hnf⟩ := fly.2.2.1.mem hm
      rw [hob] at e1
      cases e1
      exact hnf _ hdat
    have nL : a ≠ X.env.locals := fun z => nfr (List.mem_filterMap.mpr ⟨X.env, List.mem_cons_self, by rw [hf, z]⟩)
    have nF : a ∉ X.fs := fun hm => by
      obtain ⟨en, hen, z⟩ := List.mem_filterMap.mp hm
      exact nfr (List.mem_filterMap.mpr ⟨en, List.mem_cons_of_mem _ hen, z⟩)
    have Su := Jl.suite hob hdat na nL nF
    have ask : ∀ {x : Str} {c : Value} {np : Pos} {Q : Value → Shared → Prop} {E : Value → Shared → Prop}, Names X x c → Q c { sx with heap := hp } → wpAny (model X.prog X.w) (X.A.mark (some (.ref a))) (eval (.Name x np) X.env) Q E { sx with heap := hp } := fun hc z => by
      obtain ⟨hg, hdbg, hm | ⟨hm, hv, hnn⟩⟩ := hc
      · exact ld_glob (X := X.suite a ((a, ob) :: (X.pn ++ pins))) Su hg hm z hdbg
      · exact ld_blt (X := X.suite a ((a, ob) :: (X.pn ++ pins))) Su hg hm hv z hnn hdbg
    have LT : PySem.W.Looks (model X.prog X.w) hp (typeOf (.ref a)) cls := fun _ _ _ _ kp z => wpAny_typeOf_ref (kp _ _ hob) (by rw [hz.1]; exact z)
    have go : ∀ {hs1 : List ExceptHandler} {w1 : Ends → WX}, Hds X Wout hs1 w1 → w1 D cls d σ1 H1 → wpAny (model X.prog X.w) X.A (handleBy (.ref a) X.env hs1) (SP X pins D) X.xe { sx with heap := hp } := by
      intro hs1 w1 hk
      induction hk with
      | nil =>
        intro z
        refine wpAny_handleBy_nil ?_
        obtain ⟨f1, f2, f3, oe, vs1, T, oT, tr, e1, e2, e3, e4, e5⟩ := id fly
        unfold PySem.passOn
        refine wpAny_bind (wpAny_field e1 e3 e4 ?_)
        rw [if_neg (by simp : ¬ ((Value.ref T == Value.none) = true))]
        have out : wpAny (model X.prog X.w) X.A (setFlight (.ref a) X.env.frame) (fun _ s4 => wpAny (model X.prog X.w) X.A (throw (.ref a) : Sem Flow) (SP X pins D) X.xe s4) X.xe { sx with heap := hp } := by
          rw [hf]
          exact HandSPX.setFlight_upZ fly fun h4 held up4 => wpAny_throw (tk _ _ ⟨a, B, sI, pins, σ1, H1, cls, d, rfl, J, nb, (up.trans upp).trans up4, .inr (.inr (hs ▸ held)), na, os, ag, z⟩)
        first
          | exact wpAny_bind out
          | exact wpAny_bind (wpAny_pure (wpAny_bind out))
      | @plain x c ts b0 su np pq hd2 w2 hc hsu r ih =>
        rintro ⟨b, hb1, yes, no⟩
        refine wpAny_handleBy_cons (codeAny_handlers_test (ask hc ((PySem.W.exm_one (M := model X.prog X.w) Jl.kIn LT hb1).here ?_))) (by intro z; cases z)
        cases b with
        | false => exact ih (no rfl)
        | true =>
          refine codeAny_handlers_suite (HandSPX.lands_againZ fly fun h4 fly4 up4 => ?_)
          have J4 : Inv X pins σ1 H1 { sx with heap := h4 } := J.landed nb fly4.1 ((up.trans upp).trans up4) os ag
          obtain ⟨o4, vs4, e4, z4, d4⟩ := fly4.there
          refine wpAny_mono ((hsu a o4 cls d (X.pn ++ pins) z4 ⟨_, d4⟩).run [] _ _ H1 _ (J4.suite e4 d4 na nL nF) (yes rfl a na)) ?_ fun _ _ z => False.elim z
          intro fl s6 z
          cases fl with
          | ret u => obtain ⟨v, σ6, H6, S6, r6, z⟩ := z; exact ⟨_, _, _, S6.unsuite ok, r6, z⟩
          | cont => obtain ⟨σ6, H6, S6, z⟩ := z; exact ⟨_, _, S6.unsuite ok, z⟩
          | brk => obtain ⟨σ6, H6, S6, z⟩ := z; exact ⟨_, _, S6.unsuite ok, z⟩
          | next => obtain ⟨σ6, H6, S6, z⟩ := z; exact ⟨_, _, S6.unsuite ok, z⟩
      | @named x n i c ts b0 su np pq hd2 w2 hN hi hln hc hsu r ih =>
        rintro ⟨b, hb1, yes, no⟩
        refine wpAny_handleBy_cons (codeAny_handlers_test (ask hc ((PySem.W.exm_one (M := model X.prog X.w) Jl.kIn LT hb1).here ?_))) (by intro z; cases z)
        cases b with
        | false => exact ih (no rfl)
        | true =>
          refine codeAny_handlers_suite_as (HandSPX.lands_againZ fly fun h4 fly4 up4 => ?_)
          have J4 : Inv X pins σ1 H1 { sx with heap := h4 } := J.landed nb fly4.1 ((up.trans upp).trans up4) os ag
          obtain ⟨o4, vs4, e4, z4, d4⟩ := fly4.there
          have S4 := J4.suite e4 d4 na nL nF
          refine store_ok (X := X.suite a ((a, o4) :: (X.pn ++ pins))) (v := .ref a) S4 hN hi (.inl hln) rfl (fun s5 S5 => ?_) (.inr hln)
          refine wpAny_mono ((hsu a o4 cls d (X.pn ++ pins) z4 ⟨_, d4⟩).run [] s5 _ H1 _ S5 (yes rfl a na)) ?_ fun _ _ z => False.elim z
          intro fl s6 z
          cases fl with
          | ret u => obtain ⟨v, σ6, H6, S6, r6, z⟩ := z; exact gone_ok (S6.unsuite ok) hN hi hln fun _ J7 => ⟨_, _, _, J7, r6, z⟩
          | cont => obtain ⟨σ6, H6, S6, z⟩ := z; exact gone_ok (S6.unsuite ok) hN hi hln fun _ J7 => ⟨_, _, J7, z⟩
          | brk => obtain ⟨σ6, H6, S6, z⟩ := z; exact gone_ok (S6.unsuite ok) hN hi hln fun _ J7 => ⟨_, _, J7, z⟩
          | next => obtain ⟨σ6, H6, S6, z⟩ := z; exact gone_ok (S6.unsuite ok) hN hi hln fun _ J7 => ⟨_, _, J7, z⟩
    exact go hh wish
end
theorem r_callS {σ : St} {H : Hp} {Q : VK} {sp : Sp} {E : St → XK} {t : TA} (q : t σ H fun vs H1 => sp vs H1 Q (E σ)) : tCallS sp E t σ H Q := q
/-! ### promises of defs that may raise: C is the class of the error -/
def spFracX (C : Addr) : Sp := fun vs H Q E => ∃ t b : Int, vs = [.int t, .int b] ∧ Sm 8000 b ∧ (b = 0 → E (.ref C) none H) ∧
  (b ≠ 0 → ∀ (p : Addr) (H' : Hp), Same H H' → H p = none → H' p = some (.tup [.int (lowT t b), .int (lowB t b)]) → Q (.ref p) H')
def spOverX (K : PySem.W.Frag) (C : Addr) : Sp := fun vs H Q E => ∃ (a b : Addr) (x y u v : Int), vs = [.ref a, .ref b] ∧ SqT K H a [.int x, .int y] ∧ SqT K H b [.int u, .int v] ∧ Sm 2000 x ∧ Sm 2000 y ∧ Sm 2000 u ∧ Sm 2000 v ∧
  (y * u = 0 → E (.ref C) none H) ∧ (y * u ≠ 0 → ∀ (p : Addr) (H' : Hp), Same H H' → H p = none → H' p = some (.tup [.int (lowT (x * v) (y * u)), .int (lowB (x * v) (y * u))]) → Q (.ref p) H')
/-! ### facts of the written part -/
def eqV (a b : Option Bool) : Bool := decide (a = b)
/-- what isinstance asks of an own error's class -/
def excCB (K : PySem.W.Frag) (x : Str) : Bool :=
  He.eqO (PySem.W.findIn K (.ref (He.ga K x)) "__getattribute__") (some (some (.builtin "BaseException.__getattribute__"))) && (He.eqO (PySem.W.findIn K (.ref (He.ga K x)) "__getattr__") (some none) &&
  (eqV (PySem.W.subIn K (.ref (He.ga K x)) (.type "BaseException")) (some true) && (PySem.W.hasDictIn K (He.ga K x) && (He.eqO (PySem.W.findIn K (.ref (He.ga K x)) "__class__") (some (some (.builtin "object.__class__"))) &&
  (He.eqO (PySem.W.specialIn K (.builtin "object.__class__") "__get__") (some (some (.builtin "getset_descriptor.__get__"))) && (eqV (PySem.W.takesIn K (.builtin "object.__class__")) (some true) && eqV (PySem.W.mroIn K (He.ga K x) (.type "object")) (some true)))))))
theorem excCB_ok {K : PySem.W.Frag} {x : Str} (h : excCB K x = true) : ExcC K (He.ga K x) := by
  obtain ⟨h1, h⟩ := He.ba h
  obtain ⟨h2, h⟩ := He.ba h
  obtain ⟨h3, h⟩ := He.ba h
  obtain ⟨h4, h⟩ := He.ba h
  obtain ⟨h5, h⟩ := He.ba h
  obtain ⟨h6, h⟩ := He.ba h
  obtain ⟨h7, h8⟩ := He.ba h
  exact ⟨He.eqO_ok h1, He.eqO_ok h2, of_decide_eq_true h3, h4, He.eqO_ok h5, He.eqO_ok h6, of_decide_eq_true h7, of_decide_eq_true h8⟩
/-- whether an error of the class x is one of the class y -/
def kitIs (K : PySem.W.Frag) (x y : Str) (b : Bool) : Bool := eqV (PySem.W.kitOne K (.ref (He.ga K x)) (.ref (He.ga K y))) (some b)
theorem kitIs_ok {K : PySem.W.Frag} {x y : Str} {b : Bool} (h : kitIs K x y b = true) : PySem.W.kitOne K (.ref (He.ga K x)) (.ref (He.ga K y)) = some b := of_decide_eq_true h
theorem xcls_of {K : PySem.W.Frag} {h : Heap} {mg : Str → Option Value} (X : K.In h) (G : h.Ns mainGlobals mg) {x : Str} (c : (He.Fa.exc x).ok K = true) (g : (He.Fa.glo x).ok K = true) : XCls K mg x (He.ga K x) := by
  obtain ⟨h1, h2, h3, h4⟩ := He.exc_ok c
  exact ⟨He.glo_ok X G g, h1, h2, h3, h4⟩
/-- the head's facts with some of one's own -/
def obsXG (n : Nat) (fa : List He.Fa) (fn : List He.DefD) (xb : PySem.W.Frag → Bool) (g : Addr → Option Obj) : He.AlD × Bool := (He.obsD fa fn (He.frG g (He.asD g n ++ [cStatics])), xb (He.frG g (He.asD g n ++ [cStatics])))
def hookX (n : Nat) (fa : List He.Fa) (fn : List He.DefD) (xb : PySem.W.Frag → Bool) : PySem.W.Hook where
  α := He.AlD × Bool
  obs := fun s => obsXG n fa fn xb s.heap.get?
  val := fun _ => (He.valD fn, true)
  says := fun _ h => ∃ K : PySem.W.Frag, K.In h ∧ He.SaysD fa fn K ∧ xb K = true
  of := fun _ _ e => ⟨_, He.frG_in, congrArg Prod.fst e, congrArg Prod.snd e⟩
  keeps := fun _ _ _ ⟨K, hK, c⟩ k => ⟨K, PySem.W.Frag.In.keeps hK k, c⟩
theorem obsXG_eq {n : Nat} {fa : List He.Fa} {fn : List He.DefD} {xb : PySem.W.Frag → Bool} {g : Addr → Option Obj} {s : Shared} (h : ∀ a, g a = s.heap.get? a) : obsXG n fa fn xb g = (hookX n fa fn xb).obs s := by
  have e : g = s.heap.get? := funext h
  subst e
  rfl
end Mb
namespace Mb
open PySem L2
/-! ### errors made and held as values -/
/-- what the written part says of an own class over ValueError whose __init__ is asked by the class's name -/
structure BeI (K : PySem.W.Frag) (B : Addr) : Prop where
  ga : PySem.W.specialIn K (.ref B) "__getattribute__" = some (some (.builtin "type.__getattribute__"))
  rd : PySem.W.readsIn K B (.type "type") = true
  fc : PySem.W.findCls K (.ref B) (.type "type") "__init__" = some (.val (.builtin "ValueError.__init__"))
/-- C(e, ..) as a value, C's own __init__ keeping sp -/
def tMkV (C : Addr) (sp : Sp) (ta : TA) : TE := fun σ H Q => ta σ H fun vs H1 => vs.length ≤ 1000 ∧ ∀ a, H1 a = none → sp (.ref a :: vs) (upd H1 a (exo a C none)) (fun v H2 => v = .non ∧ Q (.ref a) H2) (fun _ _ _ => False)
section
variable {X : Cx} {e : Expr} {es : List Expr} {te : TE} {ta : TA} {x : Str} {p p1 p2 pos : Pos} {B C : Addr}
theorem pe_beinit {pl : Sem Bool} (hg : Gl X x) (hm : X.mg x = some (.ref B)) (T : BeI X.K B) (ha : PA X (e :: es) ta) (hdb : (x == ("__debug__" : Str)) = false := by decide)
    (hc : eval (.Call (.Attribute (.Name x p1) "__init__" p2) (e :: es) [] pos) X.env = (do
        let ov ← eval (.Name x p1) X.env
        standAt p2.atName
        let (f, first) ← holding [ov] (getMethod ov "__init__" pl)
        callWith pos f first (backTo pos (starEach (e :: es) X.env)) (backToKw pos (keywordEach [] X.env))) := by rfl)
    (he : starEach (e :: es) X.env = (false, eval e X.env) :: starEach es X.env := by rfl) (hpl : (backTo pos (starEach es X.env)).any (·.1) = false := by rfl) :
    PE X (.Call (.Attribute (.Name x p1) "__init__" p2) (e :: es) [] pos) (tVeI X.K ta) := by
  constructor
  intro pins s σ H Q I h
  refine PySem.W.methodCall_KW (ld_glob I hg hm ?_ hdb) hc
  refine PySem.W.method_cls I.kIn T.ga (PySem.W.cls_value I.kIn T.rd T.fc (by decide +kernel) ?_)
  show wpAny _ _ (callWith pos (Value.builtin "ValueError.__init__") [] (backTo pos (starEach (e :: es) X.env)) []) _ _ _
  refine PyProof.Rows.callWith_method1 (thn (ha.run pos pins _ σ H _ (I.tok _) h) ?_) he hpl
  rintro us s1 ⟨vs, H1, I1, r1, a, C, ws, ev, hl, T, ea, q⟩
  subst ev
  cases r1 with
  | @cons _ u0 _ ur ra rr =>
    obtain rfl : u0 = Value.ref a := ra
    have hlen : ur.length ≤ sizeLine := Nat.le_of_lt (small1000 (by rw [← Paired.length rr]; exact hl))
    exact oinit_ok T I1 ea hlen fun s2 J => ⟨.non, H1, J, rfl, q⟩
theorem pe_mkO {fI : Addr} {k : Nat} {fd : FuncData} {ps : List Str} {sp : Sp} (T : OexC X.K C) (iC : PySem.W.findIn X.K (.ref C) "__init__" = some (some (.ref fI))) (tI : PySem.W.typeIn X.K (.ref fI) = some (.type "function"))
    (F1 : FnOk X.prog X.w X.K X.mg X.base CX0 k fI fd ps sp) (hr : Room (k + 1) X.A) (hb : Binds X.K fd ps []) (hg : Gl X x) (hm : X.mg x = some (.ref C)) (ha : PA X (e :: es) ta)
    (hdb : (x == ("__debug__" : Str)) = false := by decide) (he : starEach (e :: es) X.env = (false, eval e X.env) :: starEach es X.env := by rfl) (hpl : (backTo pos (starEach es X.env)).any (·.1) = false := by rfl) :
    PE X (.Call (.Name x p) (e :: es) [] pos) (tMkV C sp ta) := by
  constructor
  intro pins s σ H Q I h
  obtain ⟨nm, q, N, bs, bm, sn, sub, ab, col, dd, k0, k1, k2, k3, k5, hC, hbm⟩ := T.cls
  refine wpAny_Call_Name_kw (ld_glob I hg hm ?_ hdb)
  refine PySem.W.callWith_K (h₀ := X.base) I.ok.mod.kin T.kC (thn (ha.run pos pins s σ H _ I h) ?_) he hpl
  rintro us s1 ⟨vs, H1, I1, r1, hz, q1⟩
  refine ⟨I1.kIn, ?_⟩
  show wpAny _ _ (call (.ref C) us) _ _ _
  obtain ⟨hp, g, dr, tk, os⟩ := s1
  have hn : H1 (hp.objs.size + 1) = none := I1.hok.fresh (Nat.le_succ _)
  have hq := q1 (hp.objs.size + 1) hn
  generalize hh : (hp.push (PySem.W.kdv_tup us)).push (PySem.HandSPX.excO C hp.objs.size) = h2
  have kk : ∀ b o, hp.get? b = some o → h2.get? b = some o := fun b o z => by
    subst hh
    exact Heap.get?_push_of_some _ (Heap.get?_push_of_some _ z)
  have hget : h2.get? (hp.objs.size + 1) = some (PySem.HandSPX.excO C hp.objs.size) := by
    subst hh
    heap_get
  have I2 : Inv X pins σ (upd H1 (hp.objs.size + 1) (exo (hp.objs.size + 1) C none)) ⟨h2, g, dr, tk, os⟩ := I1.laid (t' := tk) (a := hp.objs.size + 1) (h' := h2) kk (Nat.le_succ _) (exo_ok hget)
  have r2 : Vals (V.ref (hp.objs.size + 1) :: vs) (Value.ref (hp.objs.size + 1) :: us) := .cons rfl r1
  have hl : (Value.ref (hp.objs.size + 1) :: us).length = ps.length := by
    rw [← r2.length]
    exact F1.len _ _ _ _ hq
  have hus : us.length ≤ sizeLine := Nat.le_of_lt (small1000 (by rw [← Paired.length r1]; exact hz))
  have bt := hb ⟨h2, g, dr, tk, os⟩ (Value.ref (hp.objs.size + 1) :: us) I2.kIn (by rw [List.append_nil]; exact hl)
  rw [List.append_nil] at bt
  have run := F1.run (X.A.under (.builtin "type.__call__" ⟨.ref C :: us, []⟩)) X.stack ⟨h2, g, dr, tk, os⟩ _ ⟨Value.ref (hp.objs.size + 1) :: us, []⟩ _ _ _ _ (hr.make C us []) (I2.env0.make C us []) bt r2 hq
  rw [← hh] at run
  refine wpAny_call (PySem.HandSPX.call_own F.excBase_ValueError (fun Y => PySem.HandSPX.refsVE_contains Y bm hbm) (I1.kIn _ _ hC) (PySem.W.looks_findIn I1.kIn iC) (fun self => PySem.W.bind_fn I1.kIn self tI) hus (codeAny_mono run ?_))
  intro r s2 z
  cases r with
  | error er => exact False.elim z
  | ok fl =>
    cases fl with
    | ret u =>
      obtain ⟨v, H2, os2, bare2, un2, hok2, rv, ev, q2⟩ := z
      subst ev
      rw [hh] at un2
      exact ⟨rv, .ref (hp.objs.size + 1), H2, I2.call' (ch := []) os2 un2 hok2 bare2 (fun b y => absurd y (by simp)), rfl, q2⟩
    | next => exact False.elim z
    | brk => exact False.elim z
    | cont => exact False.elim z
/-- C() as a value, C without own __init__ -/
theorem pe_exc0 (T : XCls X.K X.mg x C) (hg : Gl X x) (hdb : (x == ("__debug__" : Str)) = false := by decide) :
    PE X (.Call (.Name x p) [] [] pos) (fun _ H Q => ∀ a, H a = none → Q (.ref a) (upd H a (exo a C none))) := by
  constructor
  intro pins s σ H Q I h
  refine wpAny_Call_Name_kw (ld_glob I hg T.g ?_ hdb)
  obtain ⟨bm, N, nm, qn, bs, hdct, sn, sub, ab, col, dd, k0, k1, k2, k3, k5, mN, hC, hN, hni, TT⟩ := exc_obj I.kIn T.q
  obtain ⟨hp1, g1, d1, tk1, os1⟩ := s
  refine PySem.W.callWith_K0 I.kIn T.k (wpAny_call_exc_subT PySem.F.excBase_ValueError TT hC hN hni (fun h1 a mk => ?_) (Nat.zero_le _))
  have hn : H a = none := I.hok.gone mk.new
  obtain ⟨t, ht, _, _⟩ := mk.there
  exact ⟨.ref a, upd H a (exo a C none), I.laidN (t' := tk1) mk.keeps mk.new hn (exo_ok ht), rfl, h a hn⟩
end
/-- an error at a of the class at C, with its fields -/
def Er (H : Hp) (a C : Addr) (fs : List (Str × V)) : Prop := (fs = [] ∧ H a = some (exo a C none)) ∨ ∃ dx, H a = some (exo a C (some dx)) ∧ H dx = some (exd dx fs)
theorem Er.same {H H1 : Hp} {a C : Addr} {fs : List (Str × V)} (h : Er H a C fs) (s : Same H H1) : Er H1 a C fs := by
  rcases h with ⟨e, h⟩ | ⟨dx, h1, h2⟩
  · exact .inl ⟨e, s _ _ h⟩
  · exact .inr ⟨dx, s _ _ h1, s _ _ h2⟩
theorem Er.inst {X : Cx} {pins : List (Addr × Obj)} {σ : St} {H : Hp} {s : Shared} {a C : Addr} {fs : List (Str × V)} (I : Inv X pins σ H s) (h : Er H a C fs) :
    ∃ ox od, PySem.W.InstAt s.heap a ox C od ∧ ∀ (n : Str) (v : V), fs.lookup n = some v → ∃ o u, od = some o ∧ PySem.W.lookIn n o = some (some u) ∧ RelV v u := by
  rcases h with ⟨rfl, h⟩ | ⟨dx, h1, h2⟩
  · obtain ⟨t1, ho⟩ := exo_at I.hok h
    exact ⟨_, none, ⟨ho, rfl, rfl, trivial⟩, fun n v z => by cases z⟩
  · obtain ⟨t1, ho⟩ := exo_at I.hok h1
    obtain ⟨mA, hns, hr⟩ := exd_at I.hok h2
    obtain ⟨od, hod, hl⟩ := lookIn_ns hns
    refine ⟨_, some od, ⟨ho, rfl, rfl, hod⟩, fun n v z => ?_⟩
    obtain ⟨u, hu, ru⟩ := RelO.some_of (v := v) (o := mA n) (by rw [← z]; exact hr n)
    exact ⟨od, u, rfl, by rw [hl, hu], ru⟩
def rIsX (K : PySem.W.Frag) : List V → Hp → VK → Prop := fun xs H Q => ∃ (a C : Addr) (fs : List (Str × V)) (c : V) (cv : Value) (b : Bool), xs = [.ref a, c] ∧ Er H a C fs ∧ ExcC K C ∧ (∀ u, RelV c u → u = cv) ∧ PySem.W.kitOne K (.ref C) cv = some b ∧ Q (.bl b) H
theorem call_isX {X : Cx} : CallR X (.builtin "isinstance") (rIsX X.K) := by
  intro pins s σ H xs us Q I r h
  obtain ⟨a, C, fs, c, cv, b, rfl, er, T, hcv, e, q⟩ := h
  obtain ⟨u1, u2, rfl, rx, rt⟩ := vals2 r
  obtain rfl : u1 = Value.ref a := rx
  obtain rfl := hcv _ rt
  obtain ⟨ox, od, J, _⟩ := er.inst I
  have hcl : (PySem.W.clsIn X.K C).isSome = true := by
    obtain ⟨cd, hc, _⟩ := PySem.W.any_some T.hd
    rw [hc]
    rfl
  exact PySem.W.kia_one (PySem.W.kitx_exc hcl T.hg T.hk T.hs T.ha T.hn T.ht T.hm) I.kIn J e (fun z => nomatch z) fun tk => ⟨.bl b, H, I.tok tk, rfl, q⟩
def tXv (K : PySem.W.Frag) (n : Str) (te : TE) : TE := fun σ H Q => te σ H fun x H1 => ∃ (a C : Addr) (fs : List (Str × V)) (v : V), x = .ref a ∧ Er H1 a C fs ∧ ExcC K C ∧ PySem.W.findIn K (.ref C) n = some none ∧ fs.lookup n = some v ∧ Q v H1
theorem pe_xv {X : Cx} {e : Expr} {te : TE} {pos : Pos} {n : Str} (he : PE X e te) (hb : attributeBase e n X.env (eval e X.env) = eval e X.env := by rfl) : PE X (.Attribute e n pos) (tXv X.K n te) := by
  constructor
  intro pins s σ H Q I h
  refine attr_of hb (thn (he.run pins s σ H _ I h) ?_)
  rintro u s1 ⟨y, H1, I1, ry, a, C, fs, v, rfl, er, T, hno, l, q⟩
  obtain rfl : u = Value.ref a := ry
  obtain ⟨ox, od, J, fl⟩ := er.inst I1
  obtain ⟨o, w, rfl, ho, rw'⟩ := fl n v l
  exact HandSPX.exc_get I1.kIn J T.hg T.hk T.hs (PySem.W.findObj_own T.hd hno rfl ho) (handed_of rw') ⟨v, H1, I1.tok _, rw', q⟩
end Mb
namespace Mb
open PySem L2
/-! ### a class with its own __init__, as its callers take it -/
structure MkC (P : Program) (w : World) (K : PySem.W.Frag) (mg : Str → Option Value) (base : Heap) (k : Nat) (x : Str) (C : Addr) (sp : Sp) : Prop where
  ex : ∃ fI fd ps, OexC K C ∧ PySem.W.findIn K (.ref C) "__init__" = some (some (.ref fI)) ∧ PySem.W.typeIn K (.ref fI) = some (.type "function") ∧ FnOk P w K mg base CX0 k fI fd ps sp ∧ Binds K fd ps [] ∧ mg x = some (.ref C)
theorem pe_mkv {X : Cx} {k : Nat} {x : Str} {C : Addr} {sp : Sp} {e : Expr} {es : List Expr} {ta : TA} {p pos : Pos} (M : MkC X.prog X.w X.K X.mg X.base k x C sp) (hr : Room (k + 1) X.A) (hg : Gl X x) (ha : PA X (e :: es) ta)
    (hdb : (x == ("__debug__" : Str)) = false := by decide) (he : starEach (e :: es) X.env = (false, eval e X.env) :: starEach es X.env := by rfl) (hpl : (backTo pos (starEach es X.env)).any (·.1) = false := by rfl) :
    PE X (.Call (.Name x p) (e :: es) [] pos) (tMkV C sp ta) := by
  obtain ⟨fI, fd, ps, T, iC, tI, F, b, m⟩ := M.ex
  exact pe_mkO T iC tI F hr b hg m ha hdb he hpl
/-- the __init__ of a class, as it stands -/
structure FnI (K : PySem.W.Frag) (mg : Str → Option Value) (x qual : Str) (C : Addr) (st : Stmt) : Prop where
  ex : ∃ fI fd, FunD K "__init__" qual (defArgs st) (defBody st) (defScope st) [] [] fI fd ∧ OexC K C ∧ PySem.W.findIn K (.ref C) "__init__" = some (some (.ref fI)) ∧ PySem.W.typeIn K (.ref fI) = some (.type "function") ∧ mg x = some (.ref C)
theorem FnI.made {P : Program} {w : World} {K : PySem.W.Frag} {mg : Str → Option Value} {base : Heap} {k : Nat} {x qual : Str} {C : Addr} {st : Stmt} {N ps : List Str} {sp : Sp} (F : FnI K mg x qual C st) (S : FnScope N ps (defScope st)) (len : ∀ vs H Q E, sp vs H Q E → vs.length = ps.length)
    (hbody : ∀ (f : Addr) (cdv : Value) (A : Around) (outer : List Env) (s : Shared) (H : Hp) (vs : List V) (Q : VK) (E : XK), Room k (A.deeper (PyProof.Rows.envOfC qual (defScope st) s.heap.objs.size f cdv)) → sp vs H Q E → OexC K C →
      ∃ t, PSs (cxOf CX0 P w K mg base N qual (defScope st) f cdv A outer s H E).nox (defBody st) t ∧ t { nx := fun _ H' => Q .non H', rt := Q } (start N vs) H)
    (hb : ∀ (kV doc pm : Value) (an : Option Addr) (cdv ct : Value) (us : List Value), us.length = ps.length → bindArgs (PySem.W.fnOf "__init__" qual (defArgs st) (defBody st) (defScope st) .none kV doc pm an cdv ct) ⟨us, []⟩ = pure (ps.zip us)) :
    MkC P w K mg base (k + 1) x C sp := by
  obtain ⟨fI, fd, F, T, iC, tI, m⟩ := F.ex
  refine ⟨fI, fd, ps, T, iC, tI, F.ok S len fun cdv A outer s H vs Q E hr h => ?_, F.bindsN hb, m⟩
  obtain ⟨t, p, q⟩ := hbody fI cdv A outer s H vs Q E hr h T
  exact ⟨t, p.nox, q⟩
/-- __init__(self, v) keeps v as the field f -/
def spInit (C : Addr) (f : Str) (ok : V → Prop) : Sp := fun vs H Q _ => ∃ (a : Addr) (v : V), vs = [.ref a, v] ∧ ok v ∧ H a = some (exo a C none) ∧ ∀ H', But a H H' → Er H' a C [(f, v)] → Q .non H'
/-- __init__(self, l) keeps a new list with the items of l -/
def spInitL (K : PySem.W.Frag) (C : Addr) (f : Str) : Sp := fun vs H Q _ => ∃ (a h : Addr) (zs : List V), vs = [.ref a, .ref h] ∧ SqL K H h zs ∧ H a = some (exo a C none) ∧ ∀ (l : Addr) (H' : Hp), But a H H' → H l = none → l ≠ a → H' l = some (.lst zs) → Er H' a C [(f, .ref l)] → Q .non H'
def okStr (v : V) : Prop := ∃ z : Str, v = .str z ∧ z.length ≤ 1000
def okInt (v : V) : Prop := ∃ i : Int, v = .int i
theorem er_new {H : Hp} {a C dx : Addr} {f : Str} {v : V} (n : H dx = none) (ne : dx ≠ a) : Er (upd (upd H dx (exd dx [(f, v)])) a (exo a C (some dx))) a C [(f, v)] := .inr ⟨dx, upd_same, by rw [upd_ne ne, upd_same]⟩
theorem but_new {H : Hp} {a C dx : Addr} {fs : List (Str × V)} (n : H dx = none) : But a H (upd (upd H dx (exd dx fs)) a (exo a C (some dx))) := fun b o nb h => by
  rw [upd_ne nb, upd_ne (ne_of_none h n)]
  exact h
theorem but_made {H H' : Hp} {a : Addr} {o : HO} (b : But a (upd H a o) H') (n : H a = none) : Same H H' := fun c u h => b c u (ne_of_none h n) (by rw [upd_ne (ne_of_none h n)]; exact h)
/-! ### the nineteen refusals, by number -/
def nms : List Str := ["BadName", "Taken", "NoThing", "WrongSort", "NotFree", "Far", "TooHeavy", "Ring", "Locked", "NoGroup", "NoWatcher", "NoMark", "Rooted", "TooWide", "Hung", "BadText", "Nought", "NoNumber", "NoStep"]
def nm (i : Nat) : Str := nms.getD i ""
structure Cs (K : PySem.W.Frag) (mg : Str → Option Value) (c : Nat → Addr) (B : Addr) : Prop where
  g : ∀ i, i < 19 → mg (nm i) = some (.ref (c i))
  gB : mg "BookError" = some (.ref B)
  ex : ∀ i, i < 19 → ExcC K (c i)
  ki : ∀ i j, i < 19 → j < 19 → PySem.W.kitOne K (.ref (c i)) (.ref (c j)) = some (decide (((j : Nat) : Int) = ((i : Nat) : Int)))
  kB : ∀ i, i < 19 → PySem.W.kitOne K (.ref (c i)) (.ref B) = some true
  kV : ∀ i, i < 19 → PySem.W.kitOne K (.ref (c i)) (.type "ValueError") = some true
def bls (l : List Bool) : List V := l.map V.bl
theorem paired_flat {K : PySem.W.Frag} {H : Hp} : ∀ {xs : List V}, (∀ x ∈ xs, flatB x = true) → Paired (EqV K H 1) xs xs
  | [], _ => .nil
  | x :: xs, h => .cons (.inl ⟨rfl, h x List.mem_cons_self⟩) (paired_flat fun y hy => h y (List.mem_cons_of_mem _ hy))
theorem r_eqFlat {K : PySem.W.Frag} {H : Hp} {Q : VK} {a b : Addr} {xs : List V} (h1 : SqL K H a xs) (h2 : SqL K H b xs) (hf : ∀ x ∈ xs, flatB x = true) (q : Q (.bl true) H) : rEqV K (.ref a) (.ref b) H Q :=
  ⟨1, by decide, .inl ⟨a, b, xs, xs, rfl, rfl, h1, h2, paired_flat hf⟩, q⟩
section
variable {σ : St} {H : Hp} {Q : VK} {D : Ends} {K : PySem.W.Frag}
theorem r_vei {ta : TA} (q : ta σ H fun vs H1 => ∃ (a C : Addr) (ws : List V), vs = .ref a :: ws ∧ ws.length ≤ 1000 ∧ OexC K C ∧ H1 a = some (exo a C none) ∧ Q .non H1) : tVeI K ta σ H Q := q
theorem r_ost {f : Str} {to te : TE} (q : te σ H fun y H1 => to σ H1 fun x H2 => ∃ a C : Addr, x = .ref a ∧ OexC K C ∧ PySem.W.findIn K (.ref C) f = some none ∧
    ((H2 a = some (exo a C none) ∧ ∀ dx, H2 dx = none → dx ≠ a → D.nx σ (upd (upd H2 dx (exd dx [(f, y)])) a (exo a C (some dx)))) ∨ ∃ (dx : Addr) (fs : List (Str × V)), H2 a = some (exo a C (some dx)) ∧ H2 dx = some (exd dx fs) ∧ fs.length ≤ 900 ∧ D.nx σ (upd H2 dx (exd dx ((f, y) :: fs))))) : tOst K f to te D σ H := q
theorem r_js1 {t : TE} {ts : List TE} {acc : Str} {R : Str → Hp → Prop} (q : t σ H fun x H1 => ∃ y : Str, x = .str y ∧ (acc ++ y).length ≤ sizeLine ∧ tJs ts (acc ++ y) σ H1 R) : tJs (t :: ts) acc σ H R := q
theorem r_yes {R : Bool → Hp → Prop} (q : R true H) : tYes σ H R := q
theorem r_bm {T : String} {r : V → List V → Hp → VK → Prop} {to : TE} {t : TA} (q : to σ H fun x H1 => tyV K T x H1 ∧ t σ H1 fun xs H2 => r x xs H2 Q) : tBM K T r to t σ H Q := q
theorem r_forR {ta : TA} {g : TG} {tb : TS} (q : ta σ H fun vs H1 => ∃ j : Int, vs = [.int j] ∧ -(2 ^ 62) ≤ j ∧ j < 2 ^ 62 ∧ ∃ W : Nat → Nat → St → Hp → Prop, (∃ m, W 0 m σ H1) ∧ ∀ i m σ H, W i m σ H →
    ((Itr 0 j.toNat).stop i H ∧ D.nx σ H) ∨ ((Itr 0 j.toNat).go i H ∧ ∃ N : St → Hp → Prop, (∀ σ1 H1, N σ1 H1 → ∃ m1, m1 < m ∧ W (i + 1) m1 σ1 H1) ∧ ∀ x H1, (Itr 0 j.toNat).yld i H x H1 → g x σ H1 fun σ2 H2 => tb { D with nx := N, ct := N, bk := D.nx } σ2 H2)) : tFor (iRng1 ta) g tb D σ H := q
theorem r_js0 {acc : Str} {R : Str → Hp → Prop} (q : R acc H) : tJs [] acc σ H R := q
theorem r_fmt {te : TE} (q : te σ H fun x H1 => (∃ y : Str, x = .str y ∧ y.length ≤ sizeLine ∧ Q (.str y) H1) ∨ ∃ i : Int, x = .int i ∧ i.natAbs.log2 < 1920 ∧ Q (.str (toString i)) H1) : tFmt te σ H Q := q
theorem r_xv {n : Str} {te : TE} (q : te σ H fun x H1 => ∃ (a C : Addr) (fs : List (Str × V)) (v : V), x = .ref a ∧ Er H1 a C fs ∧ ExcC K C ∧ PySem.W.findIn K (.ref C) n = some none ∧ fs.lookup n = some v ∧ Q v H1) : tXv K n te σ H Q := q
theorem r_mkv {C : Addr} {sp : Sp} {ta : TA} (q : ta σ H fun vs H1 => vs.length ≤ 1000 ∧ ∀ a, H1 a = none → sp (.ref a :: vs) (upd H1 a (exo a C none)) (fun v H2 => v = .non ∧ Q (.ref a) H2) (fun _ _ _ => False)) : tMkV C sp ta σ H Q := q
end
theorem cat_len (a b : Str) : (a ++ b).length = a.length + b.length := by
  show (a.cps ++ b.cps).size = a.cps.size + b.cps.size
  exact Array.size_append
theorem at_strK {z : Str} {r : Int} {n : Nat} (hn : z.cps.toList.length = n) (r0 : 0 ≤ r) (r1 : r < n) : ∃ c, atI z.cps.toList r = some c := by
  have hk : r.toNat < z.cps.toList.length := by omega
  refine ⟨z.cps.toList[r.toNat], ?_⟩
  have e : r = ((r.toNat : Nat) : Int) := by omega
  have q : atI z.cps.toList ((r.toNat : Nat) : Int) = some z.cps.toList[r.toNat] := atI_nat (List.getElem?_eq_getElem hk)
  rw [← e] at q
  exact q
/-- a name drawn from the pool, unlike those had -/
def spName (K : PySem.W.Frag) : Sp := fun vs H Q _ => ∃ (p h : Addr) (b : Int) (zs : List Str), vs = [.ref p, .ref h] ∧ Pl H p b ∧ b ≤ 1900000 ∧ SqL K H h (zs.map V.str) ∧ h ≠ p ∧ zs.length ≤ 8 ∧ ∀ (z : Str) (H' : Hp), But p H H' → Pl H' p (b + 30) → z.length ≤ 40 → Q (.str z) H'
/-- an error of the class number w, with a name -/
def spMade (c : Nat → Addr) : Sp := fun vs H Q _ => ∃ (w : Nat) (z : Str), vs = [.int w, .str z] ∧ w < 14 ∧ z.length ≤ 1000 ∧ ∀ (a : Addr) (H' : Hp), Same H H' → Er H' a (c w) [("name", .str z)] → Q (.ref a) H'
/-- it is of its own class, of the base and of ValueError, and of none of the others -/
def spIs (c : Nat → Addr) : Sp := fun vs H Q _ => ∃ (w : Nat) (a : Addr) (fs : List (Str × V)), vs = [.int w, .ref a] ∧ w < 19 ∧ Er H a (c w) fs ∧ ∀ H', Same H H' → Q (.bl true) H'
theorem Er.set {H : Hp} {a C l : Addr} {fs : List (Str × V)} {xs ys : List V} (h : Er H a C fs) (hl : H l = some (.lst xs)) : Er (L2.upd H l (.lst ys)) a C fs := by
  have ne : ∀ {b : Addr} {φ : Heap → Prop}, H b = some (HO.ext φ) → b ≠ l := fun hb z => by
    rw [z, hl] at hb
    cases hb
  rcases h with ⟨e, h⟩ | ⟨dx, h1, h2⟩
  · exact .inl ⟨e, by rw [upd_ne (ne h)]; exact h⟩
  · exact .inr ⟨dx, by rw [upd_ne (ne h1)]; exact h1, by rw [upd_ne (ne h2)]; exact h2⟩
end Mb
namespace Mb
open PySem PySem.Spec PyProof.Rows L2
/-! ### Base.__init__(self, ..) where Base has a def of its own -/
structure BoI (K : PySem.W.Frag) (B fB : Addr) : Prop where
  ga : PySem.W.specialIn K (.ref B) "__getattribute__" = some (some (.builtin "type.__getattribute__"))
  rd : PySem.W.readsIn K B (.type "type") = true
  fc : PySem.W.findCls K (.ref B) (.type "type") "__init__" = some (.val (.ref fB))
  ty : PySem.W.typeIn K (.ref fB) = some (.type "function")
  kp : PySem.W.keepIn K (.ref fB) = true
/-- Base.__init__ as its callers take it -/
structure KnB (P : Program) (w : World) (K : PySem.W.Frag) (mg : Str → Option Value) (base : Heap) (k : Nat) (x : Str) (ps : List Str) (sp : Sp) : Prop where
  ex : ∃ B fB fd, FnOk P w K mg base CX0 k fB fd ps sp ∧ BoI K B fB ∧ mg x = some (.ref B) ∧ Binds K fd ps []
section
variable {X : Cx} {e : Expr} {es : List Expr} {ta : TA} {x : Str} {p p1 p2 pos : Pos} {k : Nat} {ps : List Str} {sp : Sp}
theorem pe_own {pl : Sem Bool} (G : KnB X.prog X.w X.K X.mg X.base k x ps sp) (hr : Room k X.A) (hg : Gl X x) (ha : PA X (e :: es) ta) (hdb : (x == ("__debug__" : Str)) = false := by decide)
    (hc : eval (.Call (.Attribute (.Name x p1) "__init__" p2) (e :: es) [] pos) X.env = (do
        let ov ← eval (.Name x p1) X.env
        standAt p2.atName
        let (f, first) ← holding [ov] (getMethod ov "__init__" pl)
        callWith pos f first (backTo pos (starEach (e :: es) X.env)) (backToKw pos (keywordEach [] X.env))) := by rfl)
    (he : starEach (e :: es) X.env = (false, eval e X.env) :: starEach es X.env := by rfl) (hpl : (backTo pos (starEach es X.env)).any (·.1) = false := by rfl) :
    PE X (.Call (.Attribute (.Name x p1) "__init__" p2) (e :: es) [] pos) (tCall sp [] E0 ta) := by
  obtain ⟨B, fB, fd, F, T, hm, hb⟩ := G.ex
  constructor
  intro pins s σ H Q I h
  refine PySem.W.methodCall_KW (ld_glob I hg hm ?_ hdb) hc
  refine PySem.W.method_cls I.kIn T.ga (PySem.W.cls_value I.kIn T.rd T.fc rfl ?_)
  show wpAny _ _ (callWith pos (Value.ref fB) [] (backTo pos (starEach (e :: es) X.env)) []) _ _ _
  refine PySem.W.callWith_K (h₀ := X.base) I.ok.mod.kin T.kp (thn (ha.run pos pins _ σ H _ (I.tok _) h) fun us s1 ⟨vs, H1, I1, r, q⟩ => ⟨I1.kIn, ?_⟩) he hpl
  exact run_fn F hr hb .nil pass0 I1 r q
/-- C() raised, C's own __init__ keeping sp -/
theorem pmk_mk0 {C : Addr} (M : MkC X.prog X.w X.K X.mg X.base k x C sp) (hr : Room (k + 1) X.A) (hg : Gl X x) (hdb : (x == ("__debug__" : Str)) = false := by decide) :
    PMk X (.Call (.Name x p) [] [] pos) (tMkO C sp [] tNil) := by
  obtain ⟨fI, fd, ps, T, iC, tI, F1, hb, hm⟩ := M.ex
  intro pins s σ H Q I h
  obtain ⟨nm, q, N, bs, bm, sn, sub, ab, col, dd, k0, k1, k2, k3, k5, hC, hbm⟩ := T.cls
  refine wpAny_Call_Name_kw (ld_glob I hg hm ?_ hdb)
  refine PySem.W.callWith_K0 I.kIn T.kC ?_
  obtain ⟨hz, q1⟩ := h
  have I1 := I
  obtain ⟨hp, g, dr, tk, os⟩ := s
  have hsz : hp.objs.size ≤ hp.objs.size + 1 := Nat.le_succ _
  have hn : H (hp.objs.size + 1) = none := I1.hok.fresh hsz
  have hq := q1 (hp.objs.size + 1) hn
  have kk : ∀ b o, hp.get? b = some o → ((hp.push (PySem.W.kdv_tup [])).push (PySem.HandSPX.excO C hp.objs.size)).get? b = some o := fun b o e => Heap.get?_push_of_some _ (Heap.get?_push_of_some _ e)
  have hget : ((hp.push (PySem.W.kdv_tup [])).push (PySem.HandSPX.excO C hp.objs.size)).get? (hp.objs.size + 1) = some (PySem.HandSPX.excO C hp.objs.size) := by heap_get
  have I2 : Inv X pins σ (upd H (hp.objs.size + 1) (exo (hp.objs.size + 1) C none)) ⟨(hp.push (PySem.W.kdv_tup [])).push (PySem.HandSPX.excO C hp.objs.size), g, dr, tk, os⟩ :=
    I1.laid (t' := tk) (a := hp.objs.size + 1) (o := exo (hp.objs.size + 1) C none) (h' := (hp.push (PySem.W.kdv_tup [])).push (PySem.HandSPX.excO C hp.objs.size)) kk hsz (exo_ok hget)
  have r2 : Vals [V.ref (hp.objs.size + 1)] [Value.ref (hp.objs.size + 1)] := .cons rfl .nil
  have hl : ([Value.ref (hp.objs.size + 1)] ++ ([] : List Value)).length = ps.length := F1.len _ _ _ _ hq
  refine wpAny_call (PySem.HandSPX.call_own F.excBase_ValueError (fun Y => PySem.HandSPX.refsVE_contains Y bm hbm) (I1.kIn _ _ hC) (PySem.W.looks_findIn I1.kIn iC) (fun self => PySem.W.bind_fn I1.kIn self tI) (Nat.zero_le _)
    (codeAny_mono (F1.run _ X.stack _ _ ⟨[Value.ref (hp.objs.size + 1)], []⟩ [Value.ref (hp.objs.size + 1)] _ _ (fun _ _ _ => False) (hr.make C [] []) (I2.env0.make C [] []) (hb _ [Value.ref (hp.objs.size + 1)] I2.kIn hl) r2 hq) fun r s' hq' => ?_))
  cases r with
  | error er => exact False.elim hq'
  | ok fl =>
    cases fl with
    | ret u =>
      obtain ⟨v, H2, os2, bare2, un2, hok2, rv, ev, d, fs, ea, ed, hd1, q2⟩ := hq'
      subst ev
      obtain ⟨h2, g2, d2, t2, os'⟩ := s'
      exact ⟨rv, mk_end (raises_own T.exC T.tyC) I1 hsz kk un2 hok2 os2 bare2 ea ed hd1 q2⟩
    | next => exact False.elim hq'
    | brk => exact False.elim hq'
    | cont => exact False.elim hq'
theorem pmk_mk {C : Addr} (M : MkC X.prog X.w X.K X.mg X.base k x C sp) (hr : Room (k + 1) X.A) (hg : Gl X x) (ha : PA X (e :: es) ta)
    (hdb : (x == ("__debug__" : Str)) = false := by decide) (he : starEach (e :: es) X.env = (false, eval e X.env) :: starEach es X.env := by rfl) (hpl : (backTo pos (starEach es X.env)).any (·.1) = false := by rfl) :
    PMk X (.Call (.Name x p) (e :: es) [] pos) (tMkO C sp [] ta) := by
  obtain ⟨fI, fd, ps, T, iC, tI, F1, hb, hm⟩ := M.ex
  exact pmk_oex T iC tI F1 hr hb .nil pass0 hg hm ha hdb he hpl
end
/-- isinstance(e, c) of a caught error with fields -/
def rIsED (K : PySem.W.Frag) (D a : Addr) (d : Option Addr) : List V → Hp → VK → Prop := fun xs H Q => ∃ (c : V) (cv : Value) (b : Bool) (dd : Addr) (fs : List (Str × V)), xs = [.ref a, c] ∧ (∀ u, RelV c u → u = cv) ∧ PySem.W.kitOne K (.ref D) cv = some b ∧ d = some dd ∧ H dd = some (.xd fs) ∧ Q (.bl b) H
theorem call_isED {X : Cx} {a D : Addr} {d : Option Addr} {oe : Obj} {pn : List (Addr × Obj)} (C : ExcC X.K D) (hz : Zc (.ref D) d oe) (hf : ∃ vs, oe.data = .fields vs) : CallR (X.suite a ((a, oe) :: pn)) (.builtin "isinstance") (rIsED X.K D a d) := by
  intro pins s σ H xs us Q I r h
  obtain ⟨c, cv, b, dd, fs, rfl, hcv, e, rfl, ea, q⟩ := h
  cases r with
  | cons rx rr =>
    cases rr with
    | cons rt rr =>
      cases rr
      cases rx
      have ec := hcv _ rt
      subst ec
      obtain ⟨hget, _⟩ := I.pin (a, oe) (List.mem_append.mpr (.inl List.mem_cons_self))
      obtain ⟨vs, hv⟩ := hf
      have hx : ObjOk X.prog X.w H s.heap dd (.xd fs) := I.hok dd _ ea
      obtain ⟨mA, hns, hr⟩ := hx
      obtain ⟨od, ho, hl⟩ := lookIn_ns hns
      have J : PySem.W.InstAt s.heap a oe D (some od) := ⟨hget, hz.1, by unfold PySem.W.notCls; rw [hv] <;> rfl, by rw [hz.2]; exact ho⟩
      have hcl : (PySem.W.clsIn X.K D).isSome = true := by
        obtain ⟨cd, hc, _⟩ := PySem.W.any_some C.hd
        rw [hc]
        rfl
      exact PySem.W.kia_one (PySem.W.kitx_exc hcl C.hg C.hk C.hs C.ha C.hn C.ht C.hm) I.kIn J e (fun z => nomatch z) fun tk => ⟨.bl b, H, I.kept (t' := tk) fun _ _ z => z, rfl, q⟩
theorem call_isEC {X : Cx} {a D : Addr} {cls : Value} {d : Option Addr} {oe : Obj} {pn : List (Addr × Obj)} (C : ExcC X.K D) (hp : cls = .ref D) (hz : Zc cls d oe) (hf : ∃ vs, oe.data = .fields vs) : CallR (X.suite a ((a, oe) :: pn)) (.builtin "isinstance") (rIsED X.K D a d) := by
  subst hp
  exact call_isED C hz hf
/-! ### the base's __init__(self, message, words) -/
structure FnB (K : PySem.W.Frag) (mg : Str → Option Value) (x qual : Str) (st : Stmt) : Prop where
  ex : ∃ B fB fd u v, FunD K "__init__" qual (defArgs st) (defBody st) (defScope st) [u, v] [] fB fd ∧ BoI K B fB ∧ mg x = some (.ref B)
theorem FnB.made {P : Program} {w : World} {K : PySem.W.Frag} {mg : Str → Option Value} {base : Heap} {k : Nat} {x qual : Str} {st : Stmt} {N ps : List Str} {sp : Sp} (F : FnB K mg x qual st) (S : FnScope N ps (defScope st)) (len : ∀ vs H Q E, sp vs H Q E → vs.length = ps.length)
    (hbody : ∀ (f : Addr) (cdv : Value) (A : Around) (outer : List PySem.Env) (s : Shared) (H : Hp) (vs : List V) (Q : VK) (E : XK), Room k (A.deeper (PyProof.Rows.envOfC qual (defScope st) s.heap.objs.size f cdv)) → sp vs H Q E →
      ∃ t, PSs (cxOf CX0 P w K mg base N qual (defScope st) f cdv A outer s H E).nox (defBody st) t ∧ t { nx := fun _ H' => Q .non H', rt := Q } (start N vs) H)
    (h3 : ps.length = 3) (hb : ∀ (T : Addr) (kV doc pm : Value) (an : Option Addr) (cdv ct : Value) (us its : List Value), us.length = 3 → its.length = 2 →
      ∃ k, bindArgs (PySem.W.fnOf "__init__" qual (defArgs st) (defBody st) (defScope st) (.ref T) kV doc pm an cdv ct) ⟨us, []⟩ = seqItems? (.ref T) >>= k ∧ k (some its.toArray) = pure (ps.zip (us ++ its.drop 2))) :
    KnB P w K mg base (k + 1) x ps sp := by
  obtain ⟨B, fB, fd, u, v, F, T, m⟩ := F.ex
  obtain ⟨ds, r, b⟩ := F.binds1 (ps := ps) 3 2 (by simp) (by simp [h3]) hb
  have : ds = [] := by
    have := r.length
    simp at this
    exact List.eq_nil_of_length_eq_zero this.symm
  subst this
  refine ⟨B, fB, fd, F.ok S len fun cdv A outer s H vs Q E hr h => ?_, T, m, b⟩
  obtain ⟨t, p, q⟩ := hbody fB cdv A outer s H vs Q E hr h
  exact ⟨t, p.nox, q⟩
def spBook (K : PySem.W.Frag) : Sp := fun vs H Q _ => ∃ (a C wd : Addr) (m : Str), vs = [.ref a, .str m, .ref wd] ∧ H a = some (exo a C none) ∧ OexC K C ∧ PySem.W.findIn K (.ref C) "words" = some none ∧
  ∀ (dx : Addr) (H' : Hp), H dx = none → dx ≠ a → But a H H' → H' a = some (exo a C (some dx)) → H' dx = some (exd dx [("words", .ref wd)]) → Q .non H'
/-- an __init__(self) without a value of its own -/
def spInit0 (C : Addr) : Sp := fun vs H Q _ => ∃ a : Addr, vs = [.ref a] ∧ H a = some (exo a C none) ∧ ∀ (dx : Addr) (fs : List (Str × V)) (H' : Hp), H dx = none → dx ≠ a → But a H H' → H' a = some (exo a C (some dx)) → H' dx = some (exd dx fs) → Q .non H'
/-- the facts of the base in the head -/
def boB (K : PySem.W.Frag) (x : Str) : Bool := He.eqO (PySem.W.specialIn K (.ref (He.ga K x)) "__getattribute__") (some (some (.builtin "type.__getattribute__"))) && (PySem.W.readsIn K (He.ga K x) (.type "type") && (match PySem.W.findCls K (.ref (He.ga K x)) (.type "type") "__init__" with
    | some (.val a) => decide (a = .ref (He.ma K (He.ga K x) "__init__")) && (decide (PySem.W.typeIn K (.ref (He.ma K (He.ga K x) "__init__")) = some (.type "function")) && PySem.W.keepIn K (.ref (He.ma K (He.ga K x) "__init__")))
    | _ => false))
theorem boB_ok {K : PySem.W.Frag} {x : Str} (h : boB K x = true) : BoI K (He.ga K x) (He.ma K (He.ga K x) "__init__") := by
  obtain ⟨h1, h⟩ := He.ba h
  obtain ⟨h2, h3⟩ := He.ba h
  split at h3
  · rename_i a e
    obtain ⟨a1, h3⟩ := He.ba h3
    obtain ⟨a5, a6⟩ := He.ba h3
    rw [of_decide_eq_true a1] at e
    exact ⟨He.eqO_ok h1, h2, e, of_decide_eq_true a5, a6⟩
  · cases h3
def veB (K : PySem.W.Frag) : Bool := match PySem.W.findCls K (.type "ValueError") (.type "type") "__init__" with
    | some (.val v) => decide (v = .builtin "ValueError.__init__")
    | _ => false
theorem veB_ok {K : PySem.W.Frag} (h : veB K = true) : PySem.W.findCls K (.type "ValueError") (.type "type") "__init__" = some (.val (.builtin "ValueError.__init__")) := by
  unfold veB at h
  split at h
  · rename_i v e
    rw [e, of_decide_eq_true h]
  · cases h
/-! ### promises of defs that may raise an error with fields: C is its class -/
def spFracD (C : Addr) : Sp := fun vs H Q E => ∃ t b : Int, vs = [.int t, .int b] ∧ Sm 8000 b ∧ (b = 0 → ∀ (d : Addr) (fs : List (Str × V)) (H' : Hp), Same H H' → H' d = some (.xd fs) → E (.ref C) (some d) H') ∧
  (b ≠ 0 → ∀ (p : Addr) (H' : Hp), Same H H' → H p = none → H' p = some (.tup [.int (lowT t b), .int (lowB t b)]) → Q (.ref p) H')
def spOverD (K : PySem.W.Frag) (C : Addr) : Sp := fun vs H Q E => ∃ (a b : Addr) (x y u v : Int), vs = [.ref a, .ref b] ∧ SqT K H a [.int x, .int y] ∧ SqT K H b [.int u, .int v] ∧ Sm 2000 x ∧ Sm 2000 y ∧ Sm 2000 u ∧ Sm 2000 v ∧
  (y * u = 0 → ∀ (d : Addr) (fs : List (Str × V)) (H' : Hp), Same H H' → H' d = some (.xd fs) → E (.ref C) (some d) H') ∧ (y * u ≠ 0 → ∀ (p : Addr) (H' : Hp), Same H H' → H p = none → H' p = some (.tup [.int (lowT (x * v) (y * u)), .int (lowB (x * v) (y * u))]) → Q (.ref p) H')
/-- what a raised error leaves: the heap as it was, and its fields -/
theorem same_raised {H H' : Hp} {a dx : Addr} {o : HO} {fs : List (Str × V)} (na : H a = none) (nd : H dx = none) (b : But a (upd H a o) H') : Same H (upd (del H' a) dx (.xd fs)) := fun x u hx => by
  have n1 : x ≠ a := ne_of_none hx na
  have n2 : x ≠ dx := ne_of_none hx nd
  rw [upd_ne n2, del_ne n1]
  exact b x u n1 (by rw [upd_ne n1]; exact hx)
theorem r_mk0 {C : Addr} {σ : L2.St} {H : Hp} {Q : XK} (q : ∀ (d : Addr) (fs : List (Str × V)) (H' : Hp), Same H H' → H' d = some (.xd fs) → Q (.ref C) (some d) H') : tMkO C (spInit0 C) [] tNil σ H Q := by
  refine ⟨by simp, fun a na => ⟨a, rfl, upd_same, fun dx fs H' nd ne bt e1 e2 => ?_⟩⟩
  have nd' : H dx = none := by rw [upd_ne ne] at nd; exact nd
  exact ⟨rfl, dx, fs, e1, e2, nd', q dx fs _ (same_raised na nd' bt) upd_same⟩
def ownOexB (K : PySem.W.Frag) (C : Addr) : Bool := (match K.lookup C with
    | some ⟨.type "type", _, .cls cd, sl⟩ => (match cd.mro, sl.toList with
        | .ref D :: bm, [_, _, _, _, some (.builtin n), _] => decide (D = C) && (decide (n = "ValueError.__new__") && ((!cd.hasDel) && (cd.hasDict && PySem.HandSPX.refsVE bm)))
        | _, _ => false)
    | _ => false) && (He.eqO (PySem.W.findIn K (.ref C) "__setattr__") (some (some (.builtin "object.__setattr__"))) && (eqV (PySem.W.subIn K (.ref C) (.type "BaseException")) (some true) && (decide (PySem.W.typeIn K (.ref C) = some (.type "type")) && PySem.W.keepIn K (.ref C))))
theorem ownOexB_ok {K : PySem.W.Frag} {C : Addr} (h : ownOexB K C = true) : OexC K C := by
  obtain ⟨h0, h⟩ := He.ba h
  obtain ⟨h1, h⟩ := He.ba h
  obtain ⟨h2, h⟩ := He.ba h
  obtain ⟨h3, h4⟩ := He.ba h
  refine ⟨?_, He.eqO_ok h1, of_decide_eq_true h2, of_decide_eq_true h3, h4⟩
  split at h0
  · rename_i dd cd sl ho
    split at h0
    · rename_i D bm k0 k1 k2 k3 n k5 hm hs
      obtain ⟨a1, a⟩ := He.ba h0
      obtain ⟨a2, a⟩ := He.ba a
      obtain ⟨a3, a⟩ := He.ba a
      obtain ⟨a4, a5⟩ := He.ba a
      have e1 := of_decide_eq_true a1
      have e2 := of_decide_eq_true a2
      have e3 : cd.hasDel = false := by simpa using a3
      obtain ⟨x1, x2, x3, x4, x5, x6, x7, x8, x9, x10, x11⟩ := cd
      obtain ⟨l⟩ := sl
      dsimp only at hm hs e3 a4
      subst e1 e2 e3 a4 hm hs
      exact ⟨_, _, _, _, _, _, _, _, _, _, _, _, _, _, _, ho, a5⟩
    · cases h0
  · cases h0
/-! ### refusals as values -/
def spInitD (C : Addr) (f : Str) (ok : V → Prop) : Sp := fun vs H Q _ => ∃ (a : Addr) (v : V), vs = [.ref a, v] ∧ ok v ∧ H a = some (exo a C none) ∧ ∀ (wd : Addr) (H' : Hp), But a H H' → Er H' a C [(f, v), ("words", .ref wd)] → Q .non H'
def spInitLD (K : PySem.W.Frag) (C : Addr) (f : Str) : Sp := fun vs H Q _ => ∃ (a h : Addr) (zs : List V), vs = [.ref a, .ref h] ∧ SqL K H h zs ∧ zs.length ≤ 100 ∧ H a = some (exo a C none) ∧ ∀ (wd l : Addr) (H' : Hp), But a H H' → H l = none → l ≠ a → H' l = some (.lst zs) → Er H' a C [(f, .ref l), ("words", .ref wd)] → Q .non H'
def spMadeD (c : Nat → Addr) : Sp := fun vs H Q _ => ∃ (w : Nat) (z : Str), vs = [.int w, .str z] ∧ w < 14 ∧ z.length ≤ 1000 ∧ ∀ (a wd : Addr) (H' : Hp), Same H H' → Er H' a (c w) [("name", .str z), ("words", .ref wd)] → Q (.ref a) H'
theorem exo_lst {a C : Addr} {d : Option Addr} {xs : List V} : ¬ (exo a C d = .lst xs) := fun z => by unfold exo at z; cases z
theorem exo_frz {a C : Addr} {d : Option Addr} {o : Obj} {u : HO} : ¬ (exo a C d = .frz o u) := fun z => by unfold exo at z; cases z
theorem but_updR' {p D : Addr} {H H' : Hp} {o : HO} (h : But p H H') (n : H D = none) : But p H (upd H' D o) := fun b o' ne hb => by
  have : b ≠ D := fun z => by rw [z, n] at hb; cases hb
  rw [upd_ne this]
  exact h b o' ne hb
section
variable {X : Cx} {x : Str} {p pos : Pos} {k : Nat} {sp : Sp}
/-- C() as a value, C's own __init__ keeping sp -/
theorem pe_mkv0 {C : Addr} (M : MkC X.prog X.w X.K X.mg X.base k x C sp) (hr : Room (k + 1) X.A) (hg : Gl X x) (hdb : (x == ("__debug__" : Str)) = false := by decide) :
    PE X (.Call (.Name x p) [] [] pos) (tMkV C sp tNil) := by
  obtain ⟨fI, fd, ps, T, iC, tI, F1, hb, hm⟩ := M.ex
  constructor
  intro pins s σ H Q I h
  obtain ⟨nm, q, N, bs, bm, sn, sub, ab, col, dd, k0, k1, k2, k3, k5, hC, hbm⟩ := T.cls
  refine wpAny_Call_Name_kw (ld_glob I hg hm ?_ hdb)
  refine PySem.W.callWith_K0 I.kIn T.kC ?_
  obtain ⟨hz, q1⟩ := h
  have I1 := I
  obtain ⟨hp, g, dr, tk, os⟩ := s
  have hn : H (hp.objs.size + 1) = none := I1.hok.fresh (Nat.le_succ _)
  have hq := q1 (hp.objs.size + 1) hn
  generalize hh : (hp.push (PySem.W.kdv_tup [])).push (PySem.HandSPX.excO C hp.objs.size) = h2
  have kk : ∀ b o, hp.get? b = some o → h2.get? b = some o := fun b o z => by
    subst hh
    exact Heap.get?_push_of_some _ (Heap.get?_push_of_some _ z)
  have hget : h2.get? (hp.objs.size + 1) = some (PySem.HandSPX.excO C hp.objs.size) := by
    subst hh
    heap_get
  have I2 : Inv X pins σ (upd H (hp.objs.size + 1) (exo (hp.objs.size + 1) C none)) ⟨h2, g, dr, tk, os⟩ := I1.laid (t' := tk) (a := hp.objs.size + 1) (h' := h2) kk (Nat.le_succ _) (exo_ok hget)
  have r2 : Vals [V.ref (hp.objs.size + 1)] [Value.ref (hp.objs.size + 1)] := .cons rfl .nil
  have hl : ([Value.ref (hp.objs.size + 1)] ++ ([] : List Value)).length = ps.length := F1.len _ _ _ _ hq
  have bt := hb ⟨h2, g, dr, tk, os⟩ [Value.ref (hp.objs.size + 1)] I2.kIn hl
  have run := F1.run (X.A.under (.builtin "type.__call__" ⟨.ref C :: [], []⟩)) X.stack ⟨h2, g, dr, tk, os⟩ _ ⟨[Value.ref (hp.objs.size + 1)], []⟩ _ _ _ _ (hr.make C [] []) (I2.env0.make C [] []) bt r2 hq
  rw [← hh] at run
  refine wpAny_call (PySem.HandSPX.call_own F.excBase_ValueError (fun Y => PySem.HandSPX.refsVE_contains Y bm hbm) (I1.kIn _ _ hC) (PySem.W.looks_findIn I1.kIn iC) (fun self => PySem.W.bind_fn I1.kIn self tI) (Nat.zero_le _) (codeAny_mono run ?_))
  intro r s2 z
  cases r with
  | error er => exact False.elim z
  | ok fl =>
    cases fl with
    | ret u =>
      obtain ⟨v, H2, os2, bare2, un2, hok2, rv, ev, q2⟩ := z
      subst ev
      rw [hh] at un2
      exact ⟨rv, .ref (hp.objs.size + 1), H2, I2.call' (ch := []) os2 un2 hok2 bare2 (fun b y => absurd y (by simp)), rfl, q2⟩
    | next => exact False.elim z
    | brk => exact False.elim z
    | cont => exact False.elim z
end
end Mb
namespace Mb
open PySem L2
/-! ### the drawing of rows: a fraction within the bounds, a place -/
/-- a fraction in lowest terms within the bounds of free points -/
structure Fb (t u : Int) : Prop where
  pos : 0 < u
  one : Int.gcd t u = 1
  tb : t.natAbs < 1000000000
  ub : u < 1000000000
def spFracB : Sp := fun vs H Q _ => ∃ (p : Addr) (b : Int), vs = [.ref p] ∧ Pl H p b ∧ b ≤ 1900000 ∧
  ∀ (o : Addr) (t u : Int) (H' : Hp), But p H H' → Pl H' p (b + 10) → H' o = some (.tup [.int t, .int u]) → Fb t u → Q (.ref o) H'
def spPlaceB (K : PySem.W.Frag) : Sp := fun vs H Q _ => ∃ (p : Addr) (b : Int), vs = [.ref p] ∧ Pl H p b ∧ b ≤ 1800000 ∧
  ∀ (o f g : Addr) (t u r s : Int) (H' : Hp), But p H H' → Pl H' p (b + 20) → H' o = some (.tup [.ref f, .ref g]) → SqT K H' f [.int t, .int u] → SqT K H' g [.int r, .int s] → Fb t u → Fb r s → Q (.ref o) H'
theorem fb_low {t b : Int} (hb : 0 < b) (h1 : t.natAbs < 1000000000) (h2 : b < 1000000000) : Fb (lowT t b) (lowB t b) := by
  have hb' : b ≠ 0 := by omega
  have a1 := lowT_le (t := t) hb'
  have a2 := lowB_le (t := t) hb'
  have a3 := lowB_pos (t := t) hb'
  exact ⟨a3, low_gcd hb', by omega, by omega⟩
theorem fb_int {t : Int} (h : t.natAbs < 1000000000) : Fb t 1 := ⟨by decide, by rw [Int.gcd_one], h, by decide⟩
/-! ### the table of the words -/
def wordsTab : List (Str × Str × List Str) := [("free", "point", []), ("middle", "point", ["point", "point"]), ("next", "point", ["point", "point"]), ("turn", "point", ["point", "point"]), ("share", "point", ["point", "point"]), ("foot", "point", ["point", "line"]), ("mirror", "point", ["point", "line"]), ("meet", "point", ["line", "line"]), ("cut", "point", ["curve", "circle"]), ("line", "line", ["point", "point"]), ("along", "line", ["point", "line"]), ("upright", "line", ["point", "line"]), ("circle", "circle", ["point", "point"]), ("inline", "claim", ["point", "point", "point"]), ("round", "claim", ["point", "point", "point", "point"]), ("alike", "claim", ["point", "point", "point", "point"]), ("beside", "claim", ["line", "line"]), ("square", "claim", ["line", "line"])]
/-- what the table at a tells -/
def Wt (K : PySem.W.Frag) (w : World) (a : Addr) : Prop := ∀ (x s : Str) (g : List Str), (x, s, g) ∈ wordsTab → ∃ t u : Addr, KDct K w a x (.ref t) ∧ (∀ H, SqT K H t [.str s, .ref u]) ∧ ∀ H, SqT K H u (g.map V.str)
theorem r_ixT0 {K : PySem.W.Frag} {H : Hp} {Q : VK} {a : Addr} {v : V} {r : List V} (h : SqT K H a (v :: r)) (k : Q v H) : rIxT K (.ref a) (.int 0) H Q := ⟨a, _, 0, _, rfl, rfl, h, by unfold atI ixN; rw [if_pos (by decide), if_pos (by simp only [List.length_cons]; omega)]; rfl, k⟩
def spSort (K : PySem.W.Frag) : Sp := fun vs H Q _ => ∃ (a : Addr) (x s : Str) (g : List Str) (r : List V), vs = [.ref a] ∧ SqT K H a (.str x :: r) ∧ (x, s, g) ∈ wordsTab ∧ Q (.str s) H
def spWanted (K : PySem.W.Frag) : Sp := fun vs H Q _ => ∃ (a : Addr) (x s : Str) (g : List Str) (r : List V), vs = [.ref a] ∧ SqT K H a (.str x :: r) ∧ (x, s, g) ∈ wordsTab ∧ ∀ u : Addr, SqT K H u (g.map V.str) → Q (.ref u) H
/-- the grounds of a making: names behind the word, as many as the table tells, and what follows them -/
def spGrounds (K : PySem.W.Frag) : Sp := fun vs H Q _ => ∃ (a : Addr) (x s : Str) (g ns : List Str) (r : List V), vs = [.ref a] ∧ SqT K H a (.str x :: (ns.map V.str ++ r)) ∧ (x, s, g) ∈ wordsTab ∧ ns.length = g.length ∧ ∀ (l : Addr) (H' : Hp), Same H H' → H l = none → H' l = some (.lst (ns.map V.str)) → Q (.ref l) H'
theorem r_slR {r : V → Option Int → Option Int → Hp → VK → Prop} {te : TE} {tl th : TO} {σ : St} {H : Hp} {Q : VK} (q : te σ H fun x H1 => tl σ H1 fun l H2 => th σ H2 fun u H3 => r x l u H3 Q) : L2.tSl r te tl th σ H Q := q
theorem r_partR {t : TE} {σ : St} {H : Hp} {Q : Option Int → Hp → Prop} (q : t σ H fun x H1 => ∃ i, x = .int i ∧ Q (some i) H1) : L2.tPart t σ H Q := q
theorem cut_names {x : V} {ns r : List V} {n : Int} (h : n = 1 + (ns.length : Int)) : cutV (x :: (ns ++ r)) (some 1) (some n) = ns := by
  subst h
  unfold cutV
  have e1 : HT.sIx (x :: (ns ++ r)).length 0 (some 1) = 1 := by
    have := HT.sIx_nat (x :: (ns ++ r)).length 0 1
    simp only [List.length_cons] at this ⊢
    rw [show (some (1 : Int)) = some (((1 : Nat) : Int)) from rfl, this]
    omega
  have e2 : HT.sIx (x :: (ns ++ r)).length (x :: (ns ++ r)).length (some (1 + (ns.length : Int))) = 1 + ns.length := by
    have := HT.sIx_nat (x :: (ns ++ r)).length (x :: (ns ++ r)).length (1 + ns.length)
    rw [show (some (1 + (ns.length : Int))) = some (((1 + ns.length : Nat) : Int)) by rw [Int.natCast_add]; rfl, this]
    simp only [List.length_cons, List.length_append]
    omega
  rw [e1, e2]
  simp
theorem cut_part {x : V} {ns : List V} {n : Option Int} : ¬ (HT.sIx (x :: ns).length 0 (some 1) = 0 ∧ HT.sIx (x :: ns).length (x :: ns).length n = (x :: ns).length) := by
  rintro ⟨h, _⟩
  have := HT.sIx_nat (x :: ns).length 0 1
  rw [show (some (1 : Int)) = some (((1 : Nat) : Int)) from rfl, this] at h
  simp only [List.length_cons] at h
  omega
/-! ### names -/
def isLw (c : Nat) : Bool := decide (97 ≤ c) && decide (c ≤ 122)
def isLf (c : Nat) : Bool := isLw c || (decide (48 ≤ c) && decide (c ≤ 57))
def gdL : List Nat → Bool
  | [] => false
  | c :: r => isLw c && r.all isLf
/-- a text of small letters and figures, the first a letter -/
def Gd (z : Str) : Prop := gdL z.cps.toList = true
def Sok (z : Str) : Prop := (z.length ≤ 12 ∧ Gd z) ∧ PyData.strOk z = true
theorem gdL_app : ∀ {a b : List Nat}, gdL a = true → b.all isLf = true → gdL (a ++ b) = true
  | c :: r, b, h, hb => by
    obtain ⟨h1, h2⟩ := Bool.and_eq_true_iff.mp (show (isLw c && r.all isLf) = true from h)
    show (isLw c && (r ++ b).all isLf) = true
    rw [List.all_append, h1, h2, hb]
    rfl
theorem gdL_take : ∀ {a : List Nat} {n : Nat}, 0 < n → gdL a = true → gdL (a.take n) = true
  | c :: r, n + 1, _, h => by
    obtain ⟨h1, h2⟩ := Bool.and_eq_true_iff.mp (show (isLw c && r.all isLf) = true from h)
    show (isLw c && (r.take n).all isLf) = true
    rw [h1, Bool.true_and]
    exact List.all_eq_true.mpr fun x hx => List.all_eq_true.mp h2 x (List.mem_of_mem_take hx)
theorem cps_cat (a b : Str) : (a ++ b).cps.toList = a.cps.toList ++ b.cps.toList := by
  show (a.cps ++ b.cps).toList = _
  exact Array.toList_append
theorem Gd.cat {a b : Str} (h : Gd a) (hb : b.cps.toList.all isLf = true) : Gd (a ++ b) := by
  unfold Gd
  rw [cps_cat]
  exact gdL_app h hb
theorem cut9 {z : Str} : (cutS z none (some 9)).cps.toList = z.cps.toList.take 9 := by
  unfold cutS
  have e := HT.sIx_nat z.length z.length 9
  rw [show (some (9 : Int)) = some (((9 : Nat) : Int)) from rfl, e]
  show ((z.cps.toList.drop 0).take (min 9 z.length - 0)) = _
  have e2 : z.length = z.cps.toList.length := Array.length_toList.symm
  rw [List.drop_zero, Nat.sub_zero, ← List.take_take, e2, List.take_length]
theorem Gd.cut9 {z : Str} (h : Gd z) : Gd (cutS z none (some 9)) := by
  unfold Gd
  rw [Mb.cut9]
  exact gdL_take (by decide) h
theorem cut9_len {z : Str} : (cutS z none (some 9)).length ≤ 9 := by
  have h : (cutS z none (some 9)).cps.toList.length ≤ 9 := by
    rw [cut9, List.length_take]
    exact Nat.min_le_left _ _
  rw [Array.length_toList] at h
  exact h
theorem all_one {z : Str} {r : Int} {c : Nat} {f : Nat → Bool} (h : z.cps.toList.all f = true) (hc : atI z.cps.toList r = some c) : f c = true := by
  unfold atI at hc
  obtain ⟨j, _, e⟩ := Option.bind_eq_some_iff.mp hc
  exact List.all_eq_true.mp h c (List.mem_of_getElem? e)
theorem gd1 {r : Int} {c : Nat} (hc : atI ("abcdefghijklmnopqrstuvwxyz" : Str).cps.toList r = some c) : Gd ⟨#[c]⟩ := by
  show (isLw c && true) = true
  rw [all_one (f := isLw) (by decide +kernel) hc]
  rfl
theorem not_Q {z : Str} (h : Gd z) : z ≠ "Q" := fun e => by
  rw [e] at h
  exact absurd (show gdL ("Q" : Str).cps.toList = true from h) (by decide +kernel)
theorem strOk_iff {z : Str} : PyData.strOk z = true ↔ ∀ c ∈ z.cps.toList, c < 0x110000 := by
  unfold PyData.strOk
  rw [Array.all_eq_true']
  constructor
  · intro h c hc
    exact of_decide_eq_true (h c (Array.mem_toList_iff.mp hc))
  · intro h c hc
    exact decide_eq_true (h c (Array.mem_toList_iff.mpr hc))
theorem strOk_cat {a b : Str} (ha : PyData.strOk a = true) (hb : PyData.strOk b = true) : PyData.strOk (a ++ b) = true := by
  rw [strOk_iff] at *
  intro c hc
  have e : (a ++ b).cps.toList = a.cps.toList ++ b.cps.toList := by
    show (a.cps ++ b.cps).toList = _
    exact Array.toList_append
  rw [e] at hc
  exact (List.mem_append.mp hc).elim (ha c) (hb c)
theorem strOk_cut {z : Str} {lo hi : Option Int} (h : PyData.strOk z = true) : PyData.strOk (cutS z lo hi) = true := by
  rw [strOk_iff] at *
  intro c hc
  unfold cutS at hc
  exact h c (List.mem_of_mem_drop (List.mem_of_mem_take hc))
theorem strOk_one {z : Str} {r : Int} {c : Nat} (h : PyData.strOk z = true) (hc : atI z.cps.toList r = some c) : PyData.strOk ⟨#[c]⟩ = true := by
  rw [strOk_iff] at *
  intro d hd
  have : d = c := by simpa using hd
  subst this
  refine h d ?_
  unfold atI at hc
  obtain ⟨j, _, e⟩ := Option.bind_eq_some_iff.mp hc
  exact List.mem_of_getElem? e
theorem inV_str {z : Str} {zs : List Str} : inV (.str z) (zs.map V.str) = decide (z ∈ zs) := by
  unfold inV
  rw [List.any_map]
  induction zs with
  | nil => rfl
  | cons a r ih =>
    rw [List.any_cons, ih]
    show ((a == z) || _) = _
    by_cases h : a = z
    · subst h; simp
    · have : ¬ z = a := fun e => h e.symm
      simp [h, this]
theorem pigeon {f : Nat → Str} : ∀ (n : Nat) (zs : List Str), (∀ i j, i < n → j < n → f i = f j → i = j) → (∀ i, i < n → f i ∈ zs) → n ≤ zs.length
  | 0, _, _, _ => Nat.zero_le _
  | n + 1, zs, inj, h => by
    have h1 := h n (Nat.lt_succ_self n)
    have h2 := pigeon n (zs.erase (f n)) (fun i j hi hj e => inj i j (by omega) (by omega) e) fun i hi => (List.mem_erase_of_ne (fun e => by have := inj i n (by omega) (by omega) e; omega)).mpr (h i (by omega))
    rw [List.length_erase_of_mem h1] at h2
    have := List.length_pos_of_mem h1
    omega
theorem num_figs : ∀ i : Nat, i < 70 → (Str.ofString (toString (0 + (i : Int)))).cps.toList.all isLf = true := by decide +kernel
theorem num_short : ∀ i : Nat, i < 70 → (Str.ofString (toString (0 + (i : Int)))).length ≤ 2 ∧ PyData.strOk (Str.ofString (toString (0 + (i : Int)))) = true ∧ (0 + (i : Int)).natAbs.log2 < 1920 := by decide +kernel
theorem num_apart : ∀ i : Nat, i < 70 → ∀ j : Nat, j < 70 → Str.ofString (toString (0 + (i : Int))) = Str.ofString (toString (0 + (j : Int))) → i = j := by decide +kernel
theorem cat_inj {a b c : Str} (h : a ++ b = a ++ c) : b = c := by
  have e : (a.cps ++ b.cps) = (a.cps ++ c.cps) := congrArg Str.cps h
  have e1 : a.cps.toList ++ b.cps.toList = a.cps.toList ++ c.cps.toList := by rw [← Array.toList_append, ← Array.toList_append, e]
  have e2 := List.append_cancel_left e1
  cases b
  cases c
  simpa using e2
def spNameR (K : PySem.W.Frag) : Sp := fun vs H Q _ => ∃ (p h : Addr) (b : Int) (zs : List Str), vs = [.ref p, .ref h] ∧ Pl H p b ∧ b ≤ 1900000 ∧ SqL K H h (zs.map V.str) ∧ h ≠ p ∧ zs.length ≤ 60 ∧ ∀ (z : Str) (H' : Hp), But p H H' → Pl H' p (b + 30) → Sok z → z ∉ zs → Q (.str z) H'
/-! ### any making -/
def wordsL : List Str := ["free", "middle", "share", "next", "turn", "foot", "mirror", "meet", "cut", "line", "along", "upright", "circle", "inline", "round", "alike", "beside", "square"]
def spAny (K : PySem.W.Frag) : Sp := fun vs H Q _ => ∃ (p : Addr) (b : Int), vs = [.ref p] ∧ Pl H p b ∧ b ≤ 1000000 ∧
  ∀ (o mk l : Addr) (way : Nat) (x s : Str) (g ns : List Str) (r : List V) (H' : Hp), But p H H' → SqT K H' o [.ref mk, .ref l, .int way] → SqT K H' mk (.str x :: (ns.map V.str ++ r)) → H' l = some (.lst (ns.map V.str)) → H l = none → wordsL[way]? = some x → (x, s, g) ∈ wordsTab → ns.length = g.length → (∀ z ∈ ns, Sok z) → Q (.ref o) H'
def rLenK (K : PySem.W.Frag) : List V → Hp → VK → Prop := fun xs H Q => ∃ p ys, xs = [.ref p] ∧ (SqL K H p ys ∨ SqT K H p ys) ∧ Q (.int (ys.length : Int)) H
theorem but_updR {p D : Addr} {H H' : Hp} {o : HO} (h : But p H H') (n : H D = none) : But p H (upd H' D o) := fun b o' ne hb => by
  have : b ≠ D := fun z => by rw [z, n] at hb; cases hb
  rw [upd_ne this]
  exact h b o' ne hb
theorem Pl.ne2 {H : Hp} {p q : Addr} {b : Int} (h : Pl H p b) (n : H q = none) : p ≠ q := fun z => by
  obtain ⟨_, _, _, h1, _⟩ := h
  rw [z, n] at h1
  cases h1
theorem Pl.updR {H : Hp} {p D : Addr} {b : Int} {o : HO} (h : Pl H p b) (n : p ≠ D) : Pl (L2.upd H D o) p b := h.but n (But.upd D H o)
theorem but_free {p D : Addr} {H H' : Hp} {b : Int} (h : But p H H') (hp : Pl H' p b) (n : H' D = none) : H D = none := by
  cases e : H D with
  | none => rfl
  | some o =>
    have ne : D ≠ p := fun z => hp.ne2 n z.symm
    rw [h D o ne e] at n
    cases n
theorem r_cat {K : PySem.W.Frag} {H : Hp} {Q : VK} {a b : Addr} {xs ys : List V} (ha : SqT K H a xs) (hb : SqT K H b ys) (ne : xs ≠ []) (hz : xs.length + ys.length ≤ sizeLine) (q : ∀ (p : Addr) (H' : Hp), Same H H' → SqT K H' p (xs ++ ys) → Q (.ref p) H') : rCatT K (.ref a) (.ref b) H Q := by
  refine ⟨a, b, xs, ys, rfl, rfl, ha, hb, ne, hz, fun h => ?_, fun _ p hp => ?_⟩
  · subst h
    exact q a H (Same.refl H) (by rw [List.append_nil]; exact ha)
  · exact q p _ (same_new hp _) (tupOf upd_same)
theorem r_then {ta : TE} {k : V → Hp → VK → Prop} {σ : St} {H : Hp} {Q : VK} (q : ta σ H fun x H1 => k x H1 Q) : tThen ta k σ H Q := q
theorem r_tupL {K : PySem.W.Frag} {H : Hp} {Q : VK} {a : Addr} {xs : List V} (h : SqL K H a xs) (q : ∀ (p : Addr) (H' : Hp), Same H H' → SqT K H' p xs → Q (.ref p) H') : kTup K (.ref a) H Q := .inl ⟨a, xs, rfl, h, fun p hp => q p _ (same_new hp _) (tupOf upd_same)⟩
theorem ways : ∀ way : Nat, way < 18 → ∃ (x s : Str) (g : List Str), atI (wordsL.map V.str) (way : Int) = some (.str x) ∧ wordsL[way]? = some x ∧ (x, s, g) ∈ wordsTab := by
  intro way h
  have : way = 0 ∨ way = 1 ∨ way = 2 ∨ way = 3 ∨ way = 4 ∨ way = 5 ∨ way = 6 ∨ way = 7 ∨ way = 8 ∨ way = 9 ∨ way = 10 ∨ way = 11 ∨ way = 12 ∨ way = 13 ∨ way = 14 ∨ way = 15 ∨ way = 16 ∨ way = 17 := by omega
  rcases this with rfl | rfl | rfl | rfl | rfl | rfl | rfl | rfl | rfl | rfl | rfl | rfl | rfl | rfl | rfl | rfl | rfl | rfl
  · exact ⟨"free", "point", [], rfl, rfl, by decide +kernel⟩
  · exact ⟨"middle", "point", ["point", "point"], rfl, rfl, by decide +kernel⟩
  · exact ⟨"share", "point", ["point", "point"], rfl, rfl, by decide +kernel⟩
  · exact ⟨"next", "point", ["point", "point"], rfl, rfl, by decide +kernel⟩
  · exact ⟨"turn", "point", ["point", "point"], rfl, rfl, by decide +kernel⟩
  · exact ⟨"foot", "point", ["point", "line"], rfl, rfl, by decide +kernel⟩
  · exact ⟨"mirror", "point", ["point", "line"], rfl, rfl, by decide +kernel⟩
  · exact ⟨"meet", "point", ["line", "line"], rfl, rfl, by decide +kernel⟩
  · exact ⟨"cut", "point", ["curve", "circle"], rfl, rfl, by decide +kernel⟩
  · exact ⟨"line", "line", ["point", "point"], rfl, rfl, by decide +kernel⟩
  · exact ⟨"along", "line", ["point", "line"], rfl, rfl, by decide +kernel⟩
  · exact ⟨"upright", "line", ["point", "line"], rfl, rfl, by decide +kernel⟩
  · exact ⟨"circle", "circle", ["point", "point"], rfl, rfl, by decide +kernel⟩
  · exact ⟨"inline", "claim", ["point", "point", "point"], rfl, rfl, by decide +kernel⟩
  · exact ⟨"round", "claim", ["point", "point", "point", "point"], rfl, rfl, by decide +kernel⟩
  · exact ⟨"alike", "claim", ["point", "point", "point", "point"], rfl, rfl, by decide +kernel⟩
  · exact ⟨"beside", "claim", ["line", "line"], rfl, rfl, by decide +kernel⟩
  · exact ⟨"square", "claim", ["line", "line"], rfl, rfl, by decide +kernel⟩
theorem many_of {x s : Str} {g : List Str} (h : (x, s, g) ∈ wordsTab) : (x = "free" → g.length = 0) ∧ (x = "inline" → g.length = 3) ∧ (x = "round" ∨ x = "alike" → g.length = 4) ∧ (x ≠ "free" → x ≠ "inline" → ¬ (x = "round" ∨ x = "alike") → g.length = 2) := by
  have all : ∀ q ∈ wordsTab, (q.1 = "free" → q.2.2.length = 0) ∧ (q.1 = "inline" → q.2.2.length = 3) ∧ (q.1 = "round" ∨ q.1 = "alike" → q.2.2.length = 4) ∧ (q.1 ≠ "free" → q.1 ≠ "inline" → ¬ (q.1 = "round" ∨ q.1 = "alike") → q.2.2.length = 2) := by decide +kernel
  exact all (x, s, g) h
theorem sz4 {n : Nat} (h : n ≤ 64) : n ≤ sizeLine := Nat.le_trans h (by decide)
theorem at_str {zs : List Str} {j : Nat} (hj : j < zs.length) : atI (zs.map V.str) (j : Int) = some (.str zs[j]) := by
  unfold atI ixN
  rw [if_pos (Int.natCast_nonneg j), if_pos (by rw [List.length_map]; omega), Int.toNat_natCast]
  simp [hj]
def dueOf (way : Nat) : Str := if 12 < way then "claim" else if way = 12 then "circle" else if 8 < way then "line" else "point"
theorem due_of {way : Nat} {x s : Str} {g : List Str} (h : wordsL[way]? = some x) (t : (x, s, g) ∈ wordsTab) : s = dueOf way := by
  have hw : way < 18 := by
    have := List.getElem?_eq_some_iff.mp h
    obtain ⟨h1, _⟩ := this
    exact h1
  have all : ∀ way : Nat, way < 18 → ∀ q ∈ wordsTab, wordsL[way]? = some q.1 → q.2.1 = dueOf way := by decide +kernel
  exact all way hw (x, s, g) t h
theorem same_updS {D : Addr} {H H' : Hp} {o : HO} (h : Same H H') (n : H D = none) : Same H (upd H' D o) := fun b o' hb => by
  have : b ≠ D := fun z => by rw [z, n] at hb; cases hb
  rw [upd_ne this]
  exact h b o' hb
theorem dpAll_strs {K : PySem.W.Frag} {H : Hp} : ∀ (ns : List Str), DpAll K H (ns.map V.str) (ns.map PyData.str)
  | [] => .nil
  | n :: r => .cons (.str n) (dpAll_strs r)
theorem dp_strs {K : PySem.W.Frag} {H : Hp} {a : Addr} {ns : List Str} (h : SqL K H a (ns.map V.str)) : Dp K H (.ref a) (.list (ns.map PyData.str)) := .lst h (dpAll_strs ns)
theorem lay_strs : ∀ ns : List Str, (∀ z ∈ ns, PyData.strOk z = true) → PyData.canLayAll0 (ns.map PyData.str) = true ∧ PyData.depthAll (ns.map PyData.str) ≤ 1
  | [], _ => ⟨rfl, by decide⟩
  | n :: r, h => by
    obtain ⟨h1, h2⟩ := lay_strs r fun z hz => h z (List.mem_cons_of_mem _ hz)
    have h3 := h n List.mem_cons_self
    rw [List.map_cons]
    refine ⟨?_, ?_⟩
    · unfold PyData.canLayAll0 PyData.canLay0
      rw [h3, h1]
      rfl
    · unfold PyData.depthAll PyData.depth
      omega
theorem lay_list {ns : List Str} (h : ∀ z ∈ ns, PyData.strOk z = true) : PyData.canLay0 (.list (ns.map PyData.str)) = true := by
  unfold PyData.canLay0
  exact (lay_strs ns h).1
theorem sh_strs {ns : List Str} (h : ∀ z ∈ ns, PyData.strOk z = true) : SeqAt.shaped (.list (ns.map PyData.str)) = true := by
  have h2 : PyData.depth (.list (ns.map PyData.str)) ≤ 64 := by
    unfold PyData.depth
    have := (lay_strs ns h).2
    omega
  unfold SeqAt.shaped
  rw [lay_list h, decide_eq_true h2]
  rfl
theorem r_eqSt {K : PySem.W.Frag} {H : Hp} {Q : VK} {a b : Addr} {ns : List Str} (h1 : SqL K H a (ns.map V.str)) (h2 : SqL K H b (ns.map V.str)) (ok : ∀ z ∈ ns, PyData.strOk z = true) (k : Q (.bl true) H) : rEqD K (.ref a) (.ref b) H Q := by
  refine ⟨_, _, dp_strs h1, dp_strs h2, sh_strs ok, sh_strs ok, ?_⟩
  rw [SeqAt.eqv_refl _ (lay_list ok)]
  exact k
theorem r_neSt {K : PySem.W.Frag} {H : Hp} {Q : VK} {a b : Addr} {ns : List Str} (h1 : SqL K H a (ns.map V.str)) (h2 : SqL K H b (ns.map V.str)) (ok : ∀ z ∈ ns, PyData.strOk z = true) (k : Q (.bl false) H) : rNeD K (.ref a) (.ref b) H Q := by
  refine ⟨_, _, dp_strs h1, dp_strs h2, sh_strs ok, sh_strs ok, ?_⟩
  rw [SeqAt.eqv_refl _ (lay_list ok)]
  exact k
theorem r_gT {K : PySem.W.Frag} {σ : St} {H : Hp} {Q : St → Hp → Prop} {t : TGs} {a : Addr} {xs : List V} {n : Nat} (h : SqT K H a xs) (l : xs.length = n) (q : t xs σ H Q) : gTup K n t (.ref a) σ H Q := ⟨a, xs, rfl, h, l, q⟩
theorem r_g3 {i j k : Nat} {u v w : V} {σ : St} {H : Hp} {Q : St → Hp → Prop} (q : Q (((σ.set i (some u)).set j (some v)).set k (some w)) H) : gCons (gName i) (gCons (gName j) (gCons (gName k) gNil)) [u, v, w] σ H Q := ⟨u, _, rfl, v, _, rfl, w, _, rfl, rfl, q⟩
theorem r_g2 {i j : Nat} {u v : V} {σ : St} {H : Hp} {Q : St → Hp → Prop} (q : Q ((σ.set i (some u)).set j (some v)) H) : gCons (gName i) (gCons (gName j) gNil) [u, v] σ H Q := ⟨u, _, rfl, v, _, rfl, rfl, q⟩
theorem few {x s : Str} {g : List Str} (h : (x, s, g) ∈ wordsTab) : g.length < 64 := by
  have all : ∀ q ∈ wordsTab, q.2.2.length < 64 := by decide +kernel
  exact all _ h
theorem r_neE {H : Hp} {Q : VK} {w w' : Str} (e : w = w') (k : Q (.bl false) H) : rNe (.str w) (.str w') H Q := ⟨rfl, by subst e; simpa using k⟩
theorem r_neX {H : Hp} {Q : VK} {w w' : Str} (k : Q (.bl (!decide (w = w'))) H) : rNe (.str w) (.str w') H Q := ⟨rfl, by rw [show decide (V.str w = V.str w') = decide (w = w') from by simp]; exact k⟩
end Mb
namespace Mb
open PySem L2
/-! ### the head's facts with a table of text keys -/
def obsWG (n : Nat) (fa : List He.Fa) (fn : List He.DefD) (ts : List He.Tab) (xb : PySem.W.Frag → Bool) (g : Addr → Option Obj) : He.AlT × Bool := (He.obsT fa fn ts (He.frG g (He.asD g n ++ [cStatics])), xb (He.frG g (He.asD g n ++ [cStatics])))
def hookW (n : Nat) (fa : List He.Fa) (fn : List He.DefD) (ts : List He.Tab) (xb : PySem.W.Frag → Bool) : PySem.W.Hook where
  α := He.AlT × Bool
  obs := fun s => obsWG n fa fn ts xb s.heap.get?
  val := fun w => (He.valT fn ts w, true)
  says := fun w h => ∃ K : PySem.W.Frag, K.In h ∧ He.SaysT fa fn ts w K ∧ xb K = true
  of := fun _ _ e => ⟨_, He.frG_in, congrArg Prod.fst e, congrArg Prod.snd e⟩
  keeps := fun _ _ _ ⟨K, hK, c⟩ k => ⟨K, PySem.W.Frag.In.keeps hK k, c⟩
theorem obsWG_eq {n : Nat} {fa : List He.Fa} {fn : List He.DefD} {ts : List He.Tab} {xb : PySem.W.Frag → Bool} {g : Addr → Option Obj} {s : Shared} (h : ∀ a, g a = s.heap.get? a) : obsWG n fa fn ts xb g = (hookW n fa fn ts xb).obs s := by
  have e : g = s.heap.get? := funext h
  subst e
  rfl
def tupV (K : PySem.W.Frag) (t : Addr) (vs : List V) : Bool := match K.lookup t with
  | some ⟨.type c, _, .seq its _, _⟩ => decide (c = "tuple") && (decide (its.size ≤ sizeLine) && He.relAll vs its.toList)
  | _ => false
theorem tupV_ok {K : PySem.W.Frag} {t : Addr} {vs : List V} (h : tupV K t vs = true) (H : Hp) : SqT K H t vs := by
  unfold tupV at h
  cases q : K.lookup t with
  | none =>
    rw [q] at h
    cases h
  | some o =>
    obtain ⟨oc, od, dt, osl⟩ := o
    rw [q] at h
    cases oc with
    | type c =>
      cases dt with
      | seq its n =>
        obtain ⟨h1, h2⟩ := He.ba (show (decide (c = "tuple") && (decide (its.size ≤ sizeLine) && He.relAll vs its.toList)) = true from h)
        obtain ⟨h3, h4⟩ := He.ba h2
        exact .inr ⟨_, its, n, q, congrArg Value.type (of_decide_eq_true h1), rfl, of_decide_eq_true h3, He.relAll_ok h4⟩
      | _ => cases h
    | _ => cases dt <;> cases h
def refAt (K : PySem.W.Frag) (a : Addr) (x : Str) : Addr := match PySem.W.nsIn K a x with
  | some (some (.ref t)) => t
  | _ => 0
def sndOf (K : PySem.W.Frag) (t : Addr) : Addr := match K.lookup t with
  | some ⟨_, _, .seq its _, _⟩ => (match its.getD 1 .none with
    | .ref u => u
    | _ => 0)
  | _ => 0
def wtB (K : PySem.W.Frag) (a : Addr) : Bool := wordsTab.all fun q => He.eqO (PySem.W.nsIn K a q.1) (some (some (.ref (refAt K a q.1)))) && (tupV K (refAt K a q.1) [.str q.2.1, .ref (sndOf K (refAt K a q.1))] && tupV K (sndOf K (refAt K a q.1)) (q.2.2.map V.str))
theorem wt_of {K : PySem.W.Frag} {w : World} {a : Addr} (h : wtB K a = true) (d : ∃ es n, KDict K w a es n) : Wt K w a := by
  intro x s g hx
  obtain ⟨h1, h2⟩ := He.ba (List.all_eq_true.mp h _ hx)
  obtain ⟨h3, h4⟩ := He.ba h2
  obtain ⟨es, n, D⟩ := d
  exact ⟨refAt K a x, sndOf K (refAt K a x), ⟨es, n, _, D.at_, D.lit, He.eqO_ok h1, rfl⟩, fun H => tupV_ok h3 H, fun H => tupV_ok h4 H⟩
def wordsKeys : List Str := wordsTab.map (·.1)
def wordsTs : List He.Tab := [(fun K => He.ga K "WORDS", wordsKeys)]
/-- a world with what it says of one row of the text written out -/
def wB (b : Bool) (w : World) : World := { w with params := { w.params with followText := fun s => bif s == "special-get-raises" then b else w.params.followText s } }
theorem wB_eq (w : World) : wB (w.params.followText "special-get-raises") w = w := by
  obtain ⟨d, p⟩ := w
  obtain ⟨p1, p2, p3, p4, p5, p6, p7⟩ := p
  have e : (fun s => bif s == "special-get-raises" then p6 "special-get-raises" else p6 s) = p6 := by
    funext s
    cases h : (s == "special-get-raises") with
    | true =>
      rw [beq_iff_eq.mp h]
      rfl
    | false => rfl
  unfold wB
  dsimp only
  rw [e]
end Mb
namespace Mb
open PySem PySem.Spec PyProof.Rows L2
/-! ### list(d.values()) -/
def rValsL : V → Hp → VK → Prop := fun x H Q => ∃ (d : Addr) (kvs : List (Key × V)), x = .ref d ∧ H d = some (.dK kvs) ∧ ∀ p, H p = none → Q (.ref p) (upd H p (.lst (kvs.map (·.2))))
def tListVals (te : TE) : TE := fun σ H Q => te σ H fun x H1 => rValsL x H1 Q
section
variable {X : Cx} {e : Expr} {te : TE} {p apos cpos pos : Pos}
theorem pe_listVals (hc : X.calm = true) (he : PE X e te) (hg : Gl X "list") (hm : X.mg "list" = none) (hv : bootBuiltins "list" = some (.type "list")) (hbase : attributeBase e "values" X.env (eval e X.env) = eval e X.env := by rfl) (hline : (apos.endLine == cpos.line) = true := by rfl)
    (hs : starEach [.Call (.Attribute e "values" apos) [] [] cpos] X.env = (false, eval (.Call (.Attribute e "values" apos) [] [] cpos) X.env) :: starEach [] X.env := by rfl) :
    PE X (.Call (.Name "list" p) [.Call (.Attribute e "values" apos) [] [] cpos] [] pos) (tListVals te) := by
  refine ⟨fun pins s σ H Q I hq => ?_⟩
  refine wpAny_Call_Name_kw (ld_blt I hg hm hv ?_)
  refine PyProof.Rows.callWith_type1 ?_ hs rfl
  rw [hs]
  show wpAny _ _ (spliced ((false, eval (.Call (.Attribute e "values" apos) [] [] cpos) X.env) :: backTo pos (starEach [] X.env))) _ _ s
  refine Calls.spliced_cons ?_
  refine wpAny_Call_method (T := "dict") (id := "dict.values") hbase rfl hline F.plainAttrs_dict F.slot_dict_values F.type_dict_values (thn (he.run pins s σ H _ I hq) fun u s1 ⟨x, H1, I1, rx, d, kvs, ex, hd, q⟩ => ?_)
  subst ex
  obtain rfl : u = Value.ref d := rx
  obtain ⟨hz, hs0, vs, kv, hdo⟩ := I1.hok d _ hd
  obtain ⟨ep, hat⟩ := hdo.dictAt
  have lk : kvs.length = vs.length := Paired.length kv
  have I2 : Inv X pins σ H1 { s1 with heap := s1.heap.push { cls := .type "dict_values", data := .fields #[.ref d] } } := I1.kept (t' := s1.toks) fun b ob q => Heap.get?_push_of_some _ q
  refine ⟨hdo.typeIs, hdo.mapOf.noDict, ?_⟩
  show wpAny _ _ (callWith cpos (.builtin "dict.values") [.ref d] [] []) _ X.xe s1
  refine method_meetsIn F.slot_dict_values F.entry_dict_values rfl (PySem.evalArgs_none ⟨rfl, hdo.typeIs, F.args_dict_values_1 _, _, meets_dict_values (mixKind X.prog X.w) d hs0, ⟨vs, hdo⟩, ?_⟩)
  refine Calls.spliced_nil ?_
  refine PySem.W.kdl_call (PySem.W.kdl_values (knd := mixKind X.prog X.w) (d := d) (kvs := vs) (ep := ep)) (I1.ok.hd hc) ⟨⟨_, Heap.get?_push_size _ rfl, rfl, rfl⟩, hat.push _⟩ (by rw [← lk]; exact hz) fun h' tk acc' c' hkeep hS hacc => ?_
  refine ⟨.ref _, upd H1 _ (.lst (kvs.map (·.2))), I2.laid hkeep (Nat.le_refl _) (show ObjOk X.prog X.w _ _ _ (.lst (kvs.map (·.2))) from ⟨?_, acc'.toList, c', ?_, ?_⟩), rfl, q _ (I2.hok.fresh (Nat.le_refl _))⟩
  · rw [List.length_map]; exact hz
  · have el : acc'.toList.length = acc'.size := by simp
    refine vals_of_at (by rw [List.length_map, el, hacc.1, lk]) fun j x w h1 h2 => ?_
    obtain ⟨k, hky⟩ := hacc.2 j w (by rw [← Array.getElem?_toList]; exact h2)
    obtain ⟨pk, g1, g2⟩ : ∃ pk, kvs[j]? = some pk ∧ x = pk.2 := by
      rw [List.getElem?_map] at h1
      cases hj : kvs[j]? with
      | none => rw [hj] at h1; cases h1
      | some pk =>
        rw [hj] at h1
        exact ⟨pk, rfl, (Option.some.inj h1).symm⟩
    obtain ⟨qv, f1, f2, f3⟩ := LiI.paired_get kv g1
    rw [hky] at f1
    cases f1
    rw [g2]
    exact f3
  · rw [Array.toArray_toList]; exact hS
theorem r_lv {te : TE} {σ : L2.St} {H : Hp} {Q : VK} (q : te σ H fun x H1 => rValsL x H1 Q) : tListVals te σ H Q := q
end
end Mb
namespace Mb
open PySem L2
/-! ### rows: things by name, sort, weight; dicts of them -/
theorem u1 {n : Nat} (h : n + 64 < cLine) : n + 1 < cLine := by omega
/-- what is known of the things so far: name, sort, weight -/
abbrev Env : Type := List (Str × Str × Int)
def sortsD (L : Env) : List (Key × V) := L.map fun e => (.inr e.1, .str e.2.1)
def loadsD (L : Env) : List (Key × V) := L.map fun e => (.inr e.1, .int e.2.2)
def nmsE (L : Env) : List Str := L.map (·.1)
def srtE (L : Env) (z : Str) : Str := ((L.find? fun e => decide (e.1 = z)).map (·.2.1)).getD ""
def wtE (L : Env) (z : Str) : Int := ((L.find? fun e => decide (e.1 = z)).map (·.2.2)).getD 0
theorem find_in {L : Env} {z : Str} (h : z ∈ nmsE L) : ∃ e, e ∈ L ∧ L.find? (fun e => decide (e.1 = z)) = some e := by
  induction L with
  | nil => simp [nmsE] at h
  | cons a r ih =>
    by_cases c : a.1 = z
    · exact ⟨a, List.mem_cons_self, by rw [List.find?_cons]; simp [c]⟩
    · have h2 : z ∈ nmsE r := by
        simp only [nmsE, List.map_cons, List.mem_cons] at h
        rcases h with h | h
        · exact absurd h.symm c
        · exact h
      obtain ⟨e, he, hf⟩ := ih h2
      exact ⟨e, List.mem_cons_of_mem _ he, by rw [List.find?_cons]; simp [c, hf]⟩
theorem val_map {L : Env} {z : Str} {f : Str × Str × Int → V} : valV (L.map fun e => ((.inr e.1 : Key), f e)) (.inr z) = (L.find? fun e => decide (e.1 = z)).map f := by
  unfold valV
  induction L with
  | nil => rfl
  | cons a r ih =>
    rw [List.map_cons, List.find?_cons, List.find?_cons]
    by_cases c : a.1 = z
    · simp [c]
    · have : ¬ ((.inr a.1 : Key) = .inr z) := fun h => c (Sum.inr.inj h)
      simp only [c, this, decide_false]
      exact ih
theorem get_sort {H : Hp} {S : Addr} {L : Env} {z : Str} (h : H S = some (.dK (sortsD L))) (hz : z ∈ nmsE L) : DGet H S (.str z) (some (.str (srtE L z))) := by
  obtain ⟨e, _, hf⟩ := find_in hz
  have := DGet.k (k := .inr z) h
  unfold sortsD at this
  rw [val_map (f := fun e => V.str e.2.1), hf] at this
  unfold srtE
  rw [hf]
  exact this
theorem get_load {H : Hp} {W : Addr} {L : Env} {z : Str} (h : H W = some (.dK (loadsD L))) (hz : z ∈ nmsE L) : DGet H W (.str z) (some (.int (wtE L z))) := by
  obtain ⟨e, _, hf⟩ := find_in hz
  have := DGet.k (k := .inr z) h
  unfold loadsD at this
  rw [val_map (f := fun e => V.int e.2.2), hf] at this
  unfold wtE
  rw [hf]
  exact this
theorem put_new {L : Env} {z : Str} {f : Str × Str × Int → V} {v : V} {e : Str × Str × Int} (h : z ∉ nmsE L) (he : e.1 = z) (hv : f e = v) : putK (L.map fun e => ((.inr e.1 : Key), f e)) (.inr z) v = (L ++ [e]).map fun e => ((.inr e.1 : Key), f e) := by
  unfold putK
  rw [if_neg]
  · rw [List.map_append, List.map_cons, List.map_nil, he, hv]
  · intro c
    obtain ⟨kv, hk, hd⟩ := List.any_eq_true.mp c
    obtain ⟨a, ha, rfl⟩ := List.mem_map.mp hk
    have e : a.1 = z := Sum.inr.inj (of_decide_eq_true hd)
    exact h (e ▸ List.mem_map.mpr ⟨a, ha, rfl⟩)
/-- bounds of the weights -/
def Light (L : Env) : Prop := ∀ e ∈ L, 0 ≤ e.2.2 ∧ e.2.2 ≤ 40
theorem Light.wt {L : Env} (h : Light L) (z : Str) : 0 ≤ wtE L z ∧ wtE L z ≤ 40 := by
  unfold wtE
  cases c : L.find? fun e => decide (e.1 = z) with
  | none => exact ⟨by decide, by decide⟩
  | some e => exact h e (List.mem_of_find?_eq_some c)
def wOf (x : Str) (ns : List Str) (L : Env) : Int :=
  if x = "free" then 1 else if x = "foot" ∨ x = "mirror" then wtE L (ns.getD 0 "") + 2 * wtE L (ns.getD 1 "") else
  if x = "cut" then (if srtE L (ns.getD 0 "") = "circle" then 5 * (wtE L (ns.getD 0 "") + wtE L (ns.getD 1 "")) else 2 * wtE L (ns.getD 0 "") + wtE L (ns.getD 1 "")) else
  if x = "round" ∨ x = "alike" then 2 * (ns.map (wtE L)).sum else (ns.map (wtE L)).sum
/-! ### tuples stay -/
def Kp (K : PySem.W.Frag) (H H' : Hp) : Prop := ∀ a xs, SqT K H a xs → SqT K H' a xs
theorem Kp.refl (K : PySem.W.Frag) (H : Hp) : Kp K H H := fun _ _ h => h
theorem Kp.trans {K : PySem.W.Frag} {H H1 H2 : Hp} (a : Kp K H H1) (b : Kp K H1 H2) : Kp K H H2 := fun x xs h => b x xs (a x xs h)
theorem Kp.same {K : PySem.W.Frag} {H H' : Hp} (s : Same H H') : Kp K H H' := fun _ _ h => s.tp h
theorem Kp.but {K : PySem.W.Frag} {H H' : Hp} {p : Addr} {b : Int} (s : But p H H') (h : Pl H p b) : Kp K H H' := fun _ _ t => h.tup s t
theorem kp_set {K : PySem.W.Frag} {H : Hp} {p : Addr} {o o' : HO} (h : H p = some o) (n1 : ∀ xs, o ≠ .tup xs) (n2 : ∀ u v, o ≠ .frz u v) : Kp K H (upd H p o') := fun a xs t => by
  rcases t with (t | ⟨u, t⟩) | t
  · refine .inl (.inl ?_)
    rw [upd_ne (fun z => by rw [z, h] at t; exact n1 _ (Option.some.inj t))]
    exact t
  · refine .inl (.inr ⟨u, ?_⟩)
    rw [upd_ne (fun z => by rw [z, h] at t; exact n2 _ _ (Option.some.inj t))]
    exact t
  · exact .inr t
theorem kp_list {K : PySem.W.Frag} {H : Hp} {p : Addr} {xs : List V} {o' : HO} (h : H p = some (.lst xs)) : Kp K H (upd H p o') := kp_set h (fun _ z => by cases z) (fun _ _ z => by cases z)
theorem kp_dict {K : PySem.W.Frag} {H : Hp} {p : Addr} {kvs : List (Key × V)} {o' : HO} (h : H p = some (.dK kvs)) : Kp K H (upd H p o') := kp_set h (fun _ z => by cases z) (fun _ _ z => by cases z)
/-! ### makings, things, rows -/
/-- what follows the names of a making -/
def Tl (K : PySem.W.Frag) (H : Hp) (x : Str) (r : List V) : Prop :=
  (x = "free" ∧ ∃ (f g : Addr) (t u t' u' : Int), r = [.ref f, .ref g] ∧ SqT K H f [.int t, .int u] ∧ SqT K H g [.int t', .int u']) ∨
  (x = "share" ∧ ∃ (f : Addr) (t u : Int), r = [.ref f] ∧ SqT K H f [.int t, .int u]) ∨ (x = "cut" ∧ ∃ n : Int, r = [.int n]) ∨ (x ≠ "free" ∧ x ≠ "share" ∧ x ≠ "cut" ∧ r = [])
def Mk (K : PySem.W.Frag) (H : Hp) (m : Addr) (x : Str) (ns : List Str) : Prop := ∃ r : List V, SqT K H m (.str x :: (ns.map V.str ++ r)) ∧ Tl K H x r
abbrev Thing : Type := Str × Str × List Str
def Th (K : PySem.W.Frag) (H : Hp) (v : V) (t : Thing) : Prop := ∃ a m : Addr, v = .ref a ∧ SqT K H a [.str t.1, .ref m] ∧ Mk K H m t.2.1 t.2.2
theorem Tl.kp {K : PySem.W.Frag} {H H' : Hp} {x : Str} {r : List V} (h : Tl K H x r) (k : Kp K H H') : Tl K H' x r := by
  rcases h with ⟨e, f, g, t, u, t', u', er, h1, h2⟩ | ⟨e, f, t, u, er, h1⟩ | h | h
  · exact .inl ⟨e, f, g, t, u, t', u', er, k _ _ h1, k _ _ h2⟩
  · exact .inr (.inl ⟨e, f, t, u, er, k _ _ h1⟩)
  · exact .inr (.inr (.inl h))
  · exact .inr (.inr (.inr h))
theorem Mk.kp {K : PySem.W.Frag} {H H' : Hp} {m : Addr} {x : Str} {ns : List Str} (h : Mk K H m x ns) (k : Kp K H H') : Mk K H' m x ns := by
  obtain ⟨r, h1, h2⟩ := h
  exact ⟨r, k _ _ h1, h2.kp k⟩
theorem Th.kp {K : PySem.W.Frag} {H H' : Hp} {v : V} {t : Thing} (h : Th K H v t) (k : Kp K H H') : Th K H' v t := by
  obtain ⟨a, m, e, h1, h2⟩ := h
  exact ⟨a, m, e, k _ _ h1, h2.kp k⟩
def Rws (K : PySem.W.Frag) (H : Hp) (vs : List V) (ts : List Thing) : Prop := Paired (Th K H) vs ts
theorem Rws.kp {K : PySem.W.Frag} {H H' : Hp} (k : Kp K H H') : ∀ {vs : List V} {ts : List Thing}, Rws K H vs ts → Rws K H' vs ts
  | _, _, .nil => .nil
  | _, _, .cons h t => .cons (h.kp k) (Rws.kp k t)
/-- the word is one of the table, with so many names; they are of the things so far -/
def Okm (x : Str) (ns : List Str) (L : Env) : Prop := (∃ (s : Str) (g : List Str), (x, s, g) ∈ wordsTab ∧ ns.length = g.length) ∧ ∀ z ∈ ns, z ∈ nmsE L ∧ Sok z
def sOf (x : Str) : Str := ((wordsTab.find? fun q => decide (q.1 = x)).map (·.2.1)).getD ""
theorem sOf_eq {x s : Str} {g : List Str} (h : (x, s, g) ∈ wordsTab) : sOf x = s := by
  have all : ∀ q ∈ wordsTab, sOf q.1 = q.2.1 := by decide +kernel
  exact all _ h
def envStep (L : Env) (t : Thing) : Env := L ++ [(t.1, sOf t.2.1, wOf t.2.1 t.2.2 L)]
def envOf : Env → List Thing → Env
  | L, [] => L
  | L, t :: r => envOf (envStep L t) r
def Vr : Env → List Thing → Prop
  | _, [] => True
  | L, t :: r => (t.1 ∉ nmsE L ∧ Sok t.1 ∧ Okm t.2.1 t.2.2 L ∧ 0 ≤ wOf t.2.1 t.2.2 L ∧ wOf t.2.1 t.2.2 L ≤ 40) ∧ Vr (envStep L t) r
/-- the two dicts of the things so far -/
structure Dc (H : Hp) (S W : Addr) (L : Env) : Prop where
  s : H S = some (.dK (sortsD L))
  w : H W = some (.dK (loadsD L))
  light : Light L
  few : L.length ≤ 100
  ne : S ≠ W
theorem Dc.same {H H' : Hp} {S W : Addr} {L : Env} (h : Dc H S W L) (k : Same H H') : Dc H' S W L := ⟨k _ _ h.s, k _ _ h.w, h.light, h.few, h.ne⟩
theorem Dc.but {H H' : Hp} {S W p : Addr} {L : Env} {b : Int} (h : Dc H S W L) (k : But p H H') (hp : Pl H p b) : Dc H' S W L := by
  obtain ⟨_, _, _, e, _⟩ := hp
  exact ⟨k _ _ (fun z => by have := h.s; rw [z, e] at this; cases this) h.s, k _ _ (fun z => by have := h.w; rw [z, e] at this; cases this) h.w, h.light, h.few, h.ne⟩
def spWeight (K : PySem.W.Frag) : Sp := fun vs H Q _ => ∃ (m S W : Addr) (x : Str) (ns : List Str) (L : Env), vs = [.ref m, .ref S, .ref W] ∧ Mk K H m x ns ∧ Okm x ns L ∧ Dc H S W L ∧ ∀ H', Same H H' → Q (.int (wOf x ns L)) H'
def spGroundsL (K : PySem.W.Frag) : Sp := fun vs H Q _ => ∃ (m : Addr) (x : Str) (ns : List Str) (L : Env), vs = [.ref m] ∧ Mk K H m x ns ∧ Okm x ns L ∧ ∀ (l : Addr) (H' : Hp), Same H H' → H l = none → H' l = some (.lst (ns.map V.str)) → Q (.ref l) H'
def spSortL (K : PySem.W.Frag) : Sp := fun vs H Q _ => ∃ (m : Addr) (x : Str) (ns : List Str) (L : Env), vs = [.ref m] ∧ Mk K H m x ns ∧ Okm x ns L ∧ ∀ H', Same H H' → Q (.str (sOf x)) H'
def spEnter (K : PySem.W.Frag) : Sp := fun vs H Q _ => ∃ (m S W : Addr) (z x : Str) (ns : List Str) (L : Env), vs = [.str z, .ref m, .ref S, .ref W] ∧ Mk K H m x ns ∧ Okm x ns L ∧ Dc H S W L ∧ z ∉ nmsE L ∧
  ∀ H', Kp K H H' → (∀ b o, b ≠ S → b ≠ W → H b = some o → H' b = some o) → H' S = some (.dK (sortsD (envStep L (z, x, ns)))) → H' W = some (.dK (loadsD (envStep L (z, x, ns)))) → Q .non H'
def weightsOf (L : Env) : List V := L.map fun e => .int e.2.2
def spWeights (K : PySem.W.Frag) : Sp := fun vs H Q _ => ∃ (l : Addr) (us : List V) (ts : List Thing), vs = [.ref l] ∧ SqL K H l us ∧ Rws K H us ts ∧ Vr [] ts ∧ ts.length ≤ 60 ∧ ∀ (p : Addr) (H' : Hp), Same H H' → H p = none → H' p = some (.lst (weightsOf (envOf [] ts))) → Q (.ref p) H'
/-- sums of the loads -/
theorem r_dg {td ty : TE} {σ : St} {H : Hp} {Q : VK} (q : td σ H fun x H1 => ty σ H1 fun y H2 => ∃ a v, x = .ref a ∧ DGet H2 a y (some v) ∧ Q v H2) : tDGet td ty σ H Q := q
theorem r_dput {td ty tv : TE} {σ : St} {H : Hp} {D : Ends} (q : tv σ H fun v H1 => td σ H1 fun x H2 => ty σ H2 fun y H3 => ∃ a H4, x = .ref a ∧ DPut H3 a y v H4 ∧ D.nx σ H4) : sDPut td ty tv D σ H := q
theorem r_dputS {td ty tv : TE} {σ : St} {H : Hp} {D : Ends} {u : TS} (q : tv σ H fun v H1 => td σ H1 fun x H2 => ty σ H2 fun y H3 => ∃ a H4, x = .ref a ∧ DPut H3 a y v H4 ∧ u D σ H4) : tSeq (sDPut td ty tv) u D σ H := q
theorem r_inS {K : PySem.W.Frag} {H : Hp} {Q : VK} {a : Addr} {z : Str} {zs : List Str} (h : SqT K H a (zs.map V.str)) (q : Q (.bl (decide (z ∈ zs))) H) : rIn K false (.str z) (.ref a) H Q :=
  ⟨a, _, rfl, .inr h, rfl, by rw [List.all_map]; exact List.all_eq_true.mpr (fun _ _ => rfl), by rw [inV_str]; exact q⟩
theorem r_inSL {K : PySem.W.Frag} {H : Hp} {Q : VK} {a : Addr} {z : Str} {zs : List Str} (h : SqL K H a (zs.map V.str)) (q : Q (.bl (decide (z ∈ zs))) H) : rIn K false (.str z) (.ref a) H Q :=
  ⟨a, _, rfl, .inl h, rfl, by rw [List.all_map]; exact List.all_eq_true.mpr (fun _ _ => rfl), by rw [inV_str]; exact q⟩
theorem at_1 {a b : V} {r : List V} : atI (a :: b :: r) 1 = some b := atI_nat (j := 1) rfl
theorem at_2 {a b c : V} {r : List V} : atI (a :: b :: c :: r) 2 = some c := atI_nat (j := 2) rfl
theorem at_0 {a : V} {r : List V} : atI (a :: r) 0 = some a := atI_nat (j := 0) rfl
theorem cut_tail {x : V} {ys : List V} : cutV (x :: ys) (some 1) none = ys := by
  unfold cutV
  have e1 : HT.sIx (x :: ys).length 0 (some 1) = 1 := by
    have := HT.sIx_nat (x :: ys).length 0 1
    rw [show (some (1 : Int)) = some (((1 : Nat) : Int)) from rfl, this]
    simp only [List.length_cons]
    omega
  have e2 : HT.sIx (x :: ys).length (x :: ys).length none = (x :: ys).length := rfl
  rw [e1, e2]
  simp
theorem Tl.nil {K : PySem.W.Frag} {H : Hp} {x : Str} {r : List V} (h : Tl K H x r) (h1 : x ≠ "free") (h2 : x ≠ "share") (h3 : x ≠ "cut") : r = [] := by
  rcases h with ⟨e, _⟩ | ⟨e, _⟩ | ⟨e, _⟩ | ⟨_, _, _, e⟩
  · exact absurd e h1
  · exact absurd e h2
  · exact absurd e h3
  · exact e
theorem two_of {x s : Str} {g : List Str} (h : (x, s, g) ∈ wordsTab) (c : x = "share" ∨ x = "cut" ∨ x = "foot" ∨ x = "mirror") : g.length = 2 := by
  have all : ∀ q ∈ wordsTab, (q.1 = "share" ∨ q.1 = "cut" ∨ q.1 = "foot" ∨ q.1 = "mirror") → q.2.2.length = 2 := by decide +kernel
  exact all _ h c
theorem pair_of {ns : List Str} (h : ns.length = 2) : ∃ a b, ns = [a, b] := by
  match ns, h with
  | [a, b], _ => exact ⟨a, b, rfl⟩
theorem sorts_of {x s : Str} {g : List Str} (h : (x, s, g) ∈ wordsTab) : (x ∈ (["line", "along", "upright"] : List Str) → s = "line") ∧ (x ∈ (["inline", "round", "alike", "beside", "square"] : List Str) → s = "claim") ∧ (x = "circle" → s = "circle") ∧ (x ∉ (["line", "along", "upright"] : List Str) → x ∉ (["inline", "round", "alike", "beside", "square"] : List Str) → x ≠ "circle" → s = "point") := by
  have all : ∀ q ∈ wordsTab, (q.1 ∈ (["line", "along", "upright"] : List Str) → q.2.1 = "line") ∧ (q.1 ∈ (["inline", "round", "alike", "beside", "square"] : List Str) → q.2.1 = "claim") ∧ (q.1 = "circle" → q.2.1 = "circle") ∧ (q.1 ∉ (["line", "along", "upright"] : List Str) → q.1 ∉ (["inline", "round", "alike", "beside", "square"] : List Str) → q.1 ≠ "circle" → q.2.1 = "point") := by decide +kernel
  exact all _ h
/-! ### comprehensions over a list -/
def lcL (K : PySem.W.Frag) (g : TG) (tt : TT) (te : TE) (vs : List Nat) (σ : St) (Q : VK) (x : V) (H1 : Hp) : Prop := ∃ a, x = .ref a ∧ (∃ xs, SqL K H1 a xs) ∧ ∀ D, H1 D = none → ∃ W : Nat → Nat → Hp → Prop, (∃ m, W 0 m (upd H1 D (.lst []))) ∧ ∀ i m H, W i m H →
  ((Itl K a).stop i H ∧ Q (.ref D) H) ∨ ((Itl K a).go i H ∧ ∃ Nx : Hp → Prop, (∀ H', Nx H' → ∃ m', m' < m ∧ W (i + 1) m' H') ∧ ∀ x H', (Itl K a).yld i H x H' → g x (wipe σ vs) H' fun σ2 H2 => wipe σ2 vs = wipe σ vs ∧ tt σ2 H2 fun b H3 =>
    if b = true then te σ2 H3 fun y H4 => ∃ acc, H4 D = some (.lst acc) ∧ acc.length < sizeLine ∧ Nx (upd H4 D (.lst (acc ++ [y]))) else Nx H3)
theorem r_lcM {K : PySem.W.Frag} {tl : TE} {g : TG} {tt : TT} {te : TE} {vs : List Nat} {σ : St} {H : Hp} {Q : VK} (q : tl σ H (lcL K g tt te vs σ Q)) : tLc (iList K tl) g tt te vs σ H Q := q
/-- a value of each item, nothing changed -/
theorem lc_map {K : PySem.W.Frag} {j : Nat} {te : TE} {σ : St} {Q : VK} {l : Addr} {xs : List V} {H : Hp} (F : V → V) (hl : SqL K H l xs) (few : xs.length ≤ 1000) (hσ : ∀ v, wipe ((wipe σ [j]).set j (some v)) [j] = wipe σ [j])
    (step : ∀ (i : Nat) (x : V) (H' : Hp), xs[i]? = some x → Same H H' → ∀ R : VK, (∀ H4, Same H' H4 → R (F x) H4) → te ((wipe σ [j]).set j (some x)) H' R)
    (fin : ∀ (D : Addr) (H' : Hp), Same H H' → H D = none → H' D = some (.lst (xs.map F)) → Q (.ref D) H') : lcL K (gName j) tYes te [j] σ Q (.ref l) H := by
  refine ⟨l, rfl, ⟨_, hl⟩, fun D hD => ?_⟩
  refine lc_list (xs := xs) (fun i H' => Same H H' ∧ H' D = some (.lst ((xs.take i).map F))) ⟨same_new hD _, by rw [List.take_zero]; exact upd_same⟩ (fun i H' _ h => h.1.seq hl) ?_ ?_
  · rintro i x H' hx ⟨g, d⟩
    have hi : i < xs.length := (List.getElem?_eq_some_iff.mp hx).1
    refine ⟨hσ x, ?_⟩
    refine r_yes ?_
    show te _ _ _
    refine step i x H' hx g _ fun H4 g4 => ?_
    refine ⟨_, g4 _ _ d, ?_, same_updS (g.trans g4) hD, ?_⟩
    · rw [List.length_map, List.length_take]
      exact Nat.lt_of_le_of_lt (Nat.min_le_left _ _) (Nat.lt_of_lt_of_le (show i < 1001 by omega) (by decide))
    · rw [List.take_succ, hx, Option.toList_some, List.map_append]
      exact upd_same
  · rintro H' ⟨g, d⟩
    rw [List.take_length] at d
    exact fin D H' g hD d
theorem r_lst0 {K : PySem.W.Frag} {H : Hp} {Q : VK} {p : Addr} {xs : List V} {v : V} {n : Nat} (h : SqL K H p xs) (e : xs[n]? = some v) (q : Q v H) : rIxL K (.ref p) (.int (n : Int)) H Q := r_ixL h (atI_nat e) q
theorem sm_small {i : Int} (h : i.natAbs < 1000000) : Sm 64 i := Nat.lt_of_lt_of_le h (by decide)
theorem cm_small {i j : Int} (h : i.natAbs < 1000000) (h' : j.natAbs < 1000000) : CMulW i j := Sm.cmul (sm_small h) (sm_small h')
theorem sum_small {L : Env} (hL : Light L) : ∀ ns : List Str, 0 ≤ (ns.map (wtE L)).sum ∧ (ns.map (wtE L)).sum ≤ 40 * (ns.length : Int)
  | [] => by simp
  | n :: r => by
    obtain ⟨h1, h2⟩ := sum_small hL r
    obtain ⟨h3, h4⟩ := hL.wt n
    simp only [List.map_cons, List.sum_cons, List.length_cons, Int.natCast_add]
    omega
theorem envOf_append : ∀ (a b : List Thing) (L : Env), envOf L (a ++ b) = envOf (envOf L a) b
  | [], _, _ => rfl
  | t :: a, b, L => envOf_append a b (envStep L t)
theorem envOf_len : ∀ (a : List Thing) (L : Env), (envOf L a).length = L.length + a.length
  | [], _ => rfl
  | t :: a, L => by
    show (envOf (envStep L t) a).length = _
    rw [envOf_len a]
    unfold envStep
    simp only [List.length_append, List.length_cons, List.length_nil]
    omega
theorem Vr.split : ∀ (a b : List Thing) (L : Env), Vr L (a ++ b) → Vr L a ∧ Vr (envOf L a) b
  | [], _, _, h => ⟨trivial, h⟩
  | t :: a, b, L, ⟨h1, h2⟩ => by
    obtain ⟨h3, h4⟩ := Vr.split a b _ h2
    exact ⟨⟨h1, h3⟩, h4⟩
theorem Vr.join : ∀ (a b : List Thing) (L : Env), Vr L a → Vr (envOf L a) b → Vr L (a ++ b)
  | [], _, _, _, h => h
  | t :: a, b, L, ⟨h1, h2⟩, h => ⟨h1, Vr.join a b _ h2 h⟩
theorem Vr.light : ∀ (a : List Thing) (L : Env), Light L → Vr L a → Light (envOf L a)
  | [], _, h, _ => h
  | t :: a, L, h, ⟨h1, h2⟩ => Vr.light a _ (fun e he => by
      rcases List.mem_append.mp he with h' | h'
      · exact h e h'
      · rw [List.mem_singleton.mp h']
        exact ⟨h1.2.2.2.1, h1.2.2.2.2⟩) h2
theorem light0 : Light [] := fun _ h => by cases h
/-- the i-th thing, with what was known ahead of it -/
theorem Vr.at {ts : List Thing} {i : Nat} {t : Thing} (h : Vr [] ts) (hi : ts[i]? = some t) : t.1 ∉ nmsE (envOf [] (ts.take i)) ∧ Sok t.1 ∧ Okm t.2.1 t.2.2 (envOf [] (ts.take i)) ∧ envOf [] (ts.take (i + 1)) = envStep (envOf [] (ts.take i)) t ∧ Light (envOf [] (ts.take i)) ∧ Light (envOf [] (ts.take (i + 1))) := by
  have hl := (List.getElem?_eq_some_iff.mp hi).1
  have e1 : ts.take (i + 1) = ts.take i ++ [t] := by rw [List.take_succ, hi, Option.toList_some]
  have e2 : envOf [] (ts.take (i + 1)) = envStep (envOf [] (ts.take i)) t := by rw [e1, envOf_append]; rfl
  have h1 : Vr [] (ts.take (i + 1) ++ ts.drop (i + 1)) := by rw [List.take_append_drop]; exact h
  obtain ⟨h2, _⟩ := Vr.split _ _ _ h1
  have h3 := h2
  rw [e1] at h3
  obtain ⟨h4, h5⟩ := Vr.split _ _ _ h3
  exact ⟨h5.1.1, h5.1.2.1, h5.1.2.2.1, e2, Vr.light _ _ light0 h4, Vr.light _ _ light0 h2⟩
theorem Rws.at {K : PySem.W.Frag} {H : Hp} {vs : List V} {ts : List Thing} {i : Nat} {v : V} (h : Rws K H vs ts) (hi : vs[i]? = some v) : ∃ t, ts[i]? = some t ∧ Th K H v t := LiI.paired_get h hi
theorem Rws.len {K : PySem.W.Frag} {H : Hp} {vs : List V} {ts : List Thing} (h : Rws K H vs ts) : vs.length = ts.length := Paired.length h
end Mb
namespace Mb
open PySem L2
/-! ### drawing a making: names by sort -/
structure By (H : Hp) (p B P Ln C Z : Addr) (pts lns crs cls : List Str) : Prop where
  b : H B = some (.dK [(.inr "point", .ref P), (.inr "line", .ref Ln), (.inr "circle", .ref C), (.inr "claim", .ref Z)])
  eP : H P = some (.lst (pts.map V.str))
  eL : H Ln = some (.lst (lns.map V.str))
  eC : H C = some (.lst (crs.map V.str))
  eZ : H Z = some (.lst (cls.map V.str))
  nP : P ≠ p
  nL : Ln ≠ p
  nC : C ≠ p
  nZ : Z ≠ p
  f : pts.length ≤ 100 ∧ lns.length ≤ 100 ∧ crs.length ≤ 100 ∧ cls.length ≤ 100
  nB : B ≠ p
theorem By.but {H H' : Hp} {p B P Ln C Z : Addr} {pts lns crs cls : List Str} (h : By H p B P Ln C Z pts lns crs cls) (k : But p H H') : By H' p B P Ln C Z pts lns crs cls :=
  ⟨k _ _ h.nB h.b, k _ _ h.nP h.eP, k _ _ h.nL h.eL, k _ _ h.nC h.eC, k _ _ h.nZ h.eZ, h.nP, h.nL, h.nC, h.nZ, h.f, h.nB⟩
def Fit (pts lns crs : List Str) (g z : Str) : Prop := (g = "point" ∧ z ∈ pts) ∨ (g = "line" ∧ z ∈ lns) ∨ (g = "circle" ∧ z ∈ crs) ∨ (g = "curve" ∧ (z ∈ lns ∨ z ∈ crs))
theorem fitP {pts lns crs : List Str} {z : Str} (h : z ∈ pts) : Fit pts lns crs "point" z := .inl ⟨rfl, h⟩
theorem fitL {pts lns crs : List Str} {z : Str} (h : z ∈ lns) : Fit pts lns crs "line" z := .inr (.inl ⟨rfl, h⟩)
theorem fitC {pts lns crs : List Str} {z : Str} (h : z ∈ crs) : Fit pts lns crs "circle" z := .inr (.inr (.inl ⟨rfl, h⟩))
theorem fitU {pts lns crs : List Str} {z : Str} (h : z ∈ lns ∨ z ∈ crs) : Fit pts lns crs "curve" z := .inr (.inr (.inr ⟨rfl, h⟩))
def spMaking (K : PySem.W.Frag) : Sp := fun vs H Q _ => ∃ (p B P Ln C Z : Addr) (pts lns crs cls : List Str) (b : Int), vs = [.ref p, .ref B] ∧ Pl H p b ∧ b ≤ 1700000 ∧ By H p B P Ln C Z pts lns crs cls ∧
  ∀ (m : Addr) (x s : Str) (g ns : List Str) (H' : Hp), But p H H' → Pl H' p (b + 100) → Mk K H' m x ns → (x, s, g) ∈ wordsTab → Paired (Fit pts lns crs) g ns → Q (.ref m) H'
theorem pick_str {zs : List Str} {r : Int} (l : 0 ≤ r) (u : r < (zs.length : Int)) : ∃ z, atI (zs.map V.str) r = some (.str z) ∧ z ∈ zs := by
  obtain ⟨j, rfl⟩ : ∃ n : Nat, r = (n : Int) := ⟨r.toNat, by omega⟩
  have hj : j < zs.length := by omega
  exact ⟨zs[j], at_str hj, List.getElem_mem hj⟩
theorem tl0 {K : PySem.W.Frag} {H : Hp} {x : Str} (h1 : x ≠ "free") (h2 : x ≠ "share") (h3 : x ≠ "cut") : Tl K H x [] := .inr (.inr (.inr ⟨h1, h2, h3, rfl⟩))
theorem word4 {i : Int} (h : i = 0 ∨ i = 2 ∨ i = 3) : ∃ x : Str, atI [V.str "middle", .str "share", .str "next", .str "turn"] i = some (.str x) ∧ (x, ("point" : Str), (["point", "point"] : List Str)) ∈ wordsTab ∧ x ≠ "free" ∧ x ≠ "share" ∧ x ≠ "cut" := by
  rcases h with rfl | rfl | rfl
  all_goals exact ⟨_, rfl, by decide +kernel, by decide +kernel, by decide +kernel, by decide +kernel⟩
theorem word4b {i : Int} (h : i = 0 ∨ i = 1 ∨ i = 2 ∨ i = 3) : ∃ x s : Str, atI [V.str "along", .str "upright", .str "foot", .str "mirror"] i = some (.str x) ∧ (x, s, (["point", "line"] : List Str)) ∈ wordsTab ∧ x ≠ "free" ∧ x ≠ "share" ∧ x ≠ "cut" := by
  rcases h with rfl | rfl | rfl | rfl
  · exact ⟨_, "line", rfl, by decide +kernel, by decide +kernel, by decide +kernel, by decide +kernel⟩
  · exact ⟨_, "line", rfl, by decide +kernel, by decide +kernel, by decide +kernel, by decide +kernel⟩
  · exact ⟨_, "point", rfl, by decide +kernel, by decide +kernel, by decide +kernel, by decide +kernel⟩
  · exact ⟨_, "point", rfl, by decide +kernel, by decide +kernel, by decide +kernel, by decide +kernel⟩
theorem word2 {i : Int} (h : i = 0 ∨ i = 1) : ∃ x : Str, atI [V.str "beside", .str "square"] i = some (.str x) ∧ (x, ("claim" : Str), (["line", "line"] : List Str)) ∈ wordsTab ∧ x ≠ "free" ∧ x ≠ "share" ∧ x ≠ "cut" := by
  rcases h with rfl | rfl
  all_goals exact ⟨_, rfl, by decide +kernel, by decide +kernel, by decide +kernel, by decide +kernel⟩
theorem word2b {i : Int} (h : i = 0 ∨ i = 1) : ∃ x : Str, atI [V.str "round", .str "alike"] i = some (.str x) ∧ (x, ("claim" : Str), (["point", "point", "point", "point"] : List Str)) ∈ wordsTab ∧ x ≠ "free" ∧ x ≠ "share" ∧ x ≠ "cut" := by
  rcases h with rfl | rfl
  all_goals exact ⟨_, rfl, by decide +kernel, by decide +kernel, by decide +kernel, by decide +kernel⟩
end Mb
namespace Mb
open PySem L2
/-! ### drawing a row -/
theorem fit_mem {pts lns crs : List Str} : ∀ {g ns : List Str}, Paired (Fit pts lns crs) g ns → ∀ z ∈ ns, z ∈ pts ∨ z ∈ lns ∨ z ∈ crs
  | _, _, .cons h t, z, hz => by
    rcases List.mem_cons.mp hz with rfl | hz
    · rcases h with ⟨_, h⟩ | ⟨_, h⟩ | ⟨_, h⟩ | ⟨_, h | h⟩
      · exact .inl h
      · exact .inr (.inl h)
      · exact .inr (.inr h)
      · exact .inr (.inl h)
      · exact .inr (.inr h)
    · exact fit_mem t z hz
theorem okm_of {pts lns crs : List Str} {x s : Str} {g ns : List Str} {L : Env} (tx : (x, s, g) ∈ wordsTab) (pr : Paired (Fit pts lns crs) g ns) (mem : ∀ z, (z ∈ pts ∨ z ∈ lns ∨ z ∈ crs) → z ∈ nmsE L ∧ Sok z) : Okm x ns L :=
  ⟨⟨s, g, tx, (Paired.length pr).symm⟩, fun z hz => mem z (fit_mem pr z hz)⟩
theorem okm_free {L : Env} : Okm "free" [] L := ⟨⟨"point", [], by decide +kernel, rfl⟩, fun _ h => by cases h⟩
theorem wOf_nonneg {L : Env} (h : Light L) (x : Str) (ns : List Str) : 0 ≤ wOf x ns L := by
  have w := fun z => (h.wt z).1
  have s := (sum_small h ns).1
  have w0 := w (ns.getD 0 "")
  have w1 := w (ns.getD 1 "")
  unfold wOf
  split
  · decide
  split
  · omega
  split
  · split <;> omega
  split <;> omega
theorem wOf_free {L : Env} {ns : List Str} : wOf "free" ns L = 1 := by unfold wOf; rw [if_pos rfl]
structure All (K : PySem.W.Frag) (H H' : Hp) (p R B S W P Ln C Z : Addr) (c : Int) (us : List V) (ts : List Thing) (pts lns crs cls : List Str) : Prop where
  bt : But p H H'
  pl : Pl H' p c
  eR : H' R = some (.lst us)
  rw : Rws K H' us ts
  bi : By H' p B P Ln C Z pts lns crs cls
  dc : Dc H' S W (envOf [] ts)
  vr : Vr [] ts
  mem : ∀ z, (z ∈ pts ∨ z ∈ lns ∨ z ∈ crs) → z ∈ nmsE (envOf [] ts) ∧ Sok z
  ln : pts.length ≤ ts.length ∧ lns.length ≤ ts.length ∧ crs.length ≤ ts.length ∧ cls.length ≤ ts.length
theorem All.but {K : PySem.W.Frag} {H H' H2 : Hp} {p R B S W P Ln C Z : Addr} {c c' : Int} {us : List V} {ts : List Thing} {pts lns crs cls : List Str} (h : All K H H' p R B S W P Ln C Z c us ts pts lns crs cls) (k : But p H' H2) (pl : Pl H2 p c') (nR : R ≠ p) : All K H H2 p R B S W P Ln C Z c' us ts pts lns crs cls :=
  ⟨h.bt.trans k, pl, k _ _ nR h.eR, h.rw.kp (Kp.but k h.pl), h.bi.but k, h.dc.but k h.pl, h.vr, h.mem, h.ln⟩
theorem All.same {K : PySem.W.Frag} {H H' H2 : Hp} {p R B S W P Ln C Z : Addr} {c : Int} {us : List V} {ts : List Thing} {pts lns crs cls : List Str} (h : All K H H' p R B S W P Ln C Z c us ts pts lns crs cls) (k : Same H' H2) (nR : R ≠ p) : All K H H2 p R B S W P Ln C Z c us ts pts lns crs cls := h.but (But.same k) (h.pl.same k) nR
theorem sort_keys {L : Env} : (sortsD L).map (fun kv => kV kv.1) = (nmsE L).map V.str := by
  unfold sortsD nmsE
  rw [List.map_map, List.map_map]
  rfl
theorem nms_len {L : Env} : (nmsE L).length = L.length := List.length_map _
theorem nms_step {L : Env} {t : Thing} : nmsE (envStep L t) = nmsE L ++ [t.1] := by
  unfold envStep nmsE
  rw [List.map_append]
  rfl
theorem srt_step {L : Env} {t : Thing} (h : t.1 ∉ nmsE L) : srtE (envStep L t) t.1 = sOf t.2.1 := by
  unfold srtE envStep
  rw [List.find?_append]
  have : L.find? (fun e => decide (e.1 = t.1)) = none := by
    rw [List.find?_eq_none]
    intro e he hd
    exact h (of_decide_eq_true hd ▸ List.mem_map.mpr ⟨e, he, rfl⟩)
  rw [this]
  simp
theorem sort4 {x s : Str} {g : List Str} (h : (x, s, g) ∈ wordsTab) : sOf x = "point" ∨ sOf x = "line" ∨ sOf x = "circle" ∨ sOf x = "claim" := by
  have all : ∀ q ∈ wordsTab, sOf q.1 = "point" ∨ sOf q.1 = "line" ∨ sOf q.1 = "circle" ∨ sOf q.1 = "claim" := by decide +kernel
  exact all _ h
def spRow (K : PySem.W.Frag) : Sp := fun vs H Q _ => ∃ (p : Addr) (n : Nat) (b : Int), vs = [.ref p, .int (n : Int)] ∧ n ≤ 60 ∧ Pl H p b ∧ b ≤ 1100000 ∧
  ∀ (l : Addr) (us : List V) (ts : List Thing) (H' : Hp), But p H H' → Pl H' p (b + 100000) → H l = none → H' l = some (.lst us) → Rws K H' us ts → Vr [] ts → ts.length = n → Q (.ref l) H'
theorem env_snoc {ts : List Thing} {t : Thing} : envOf [] (ts ++ [t]) = envStep (envOf [] ts) t := by rw [envOf_append]; rfl
theorem vr_snoc {ts : List Thing} {t : Thing} (h : Vr [] ts) (h1 : t.1 ∉ nmsE (envOf [] ts)) (h2 : Sok t.1) (h3 : Okm t.2.1 t.2.2 (envOf [] ts)) (h4 : 0 ≤ wOf t.2.1 t.2.2 (envOf [] ts)) (h5 : wOf t.2.1 t.2.2 (envOf [] ts) ≤ 40) : Vr [] (ts ++ [t]) := Vr.join _ _ _ h ⟨⟨h1, h2, h3, h4, h5⟩, trivial⟩
theorem rws_snoc {K : PySem.W.Frag} {H : Hp} {v : V} {t : Thing} : ∀ {us : List V} {ts : List Thing}, Rws K H us ts → Th K H v t → Rws K H (us ++ [v]) (ts ++ [t])
  | _, _, .nil, h => .cons h .nil
  | _, _, .cons a r, h => .cons a (rws_snoc r h)
theorem ne_kind {H : Hp} {a b : Addr} {xs : List V} {kvs : List (Key × V)} (h : H a = some (.lst xs)) (h' : H b = some (.dK kvs)) : a ≠ b := fun z => by rw [z, h'] at h; cases h
theorem r_prs {tk tv : TE} {r : List (TE × TE)} {σ : St} {H : Hp} {Q : List (V × V) → Hp → Prop} (q : tk σ H fun x H1 => tv σ H1 fun y H2 => tPairs r σ H2 fun ps H3 => Q ((x, y) :: ps) H3) : tPairs ((tk, tv) :: r) σ H Q := q
theorem r_prs0 {σ : St} {H : Hp} {Q : List (V × V) → Hp → Prop} (q : Q [] H) : tPairs [] σ H Q := q
theorem mmP {pts lns crs : List Str} {z : Str} : ∀ y, (y ∈ pts ++ [z] ∨ y ∈ lns ∨ y ∈ crs) → (y ∈ pts ∨ y ∈ lns ∨ y ∈ crs) ∨ y = z := by
  intro y h
  rcases h with h | h | h
  · rcases List.mem_append.mp h with h | h
    · exact .inl (.inl h)
    · exact .inr (List.mem_singleton.mp h)
  · exact .inl (.inr (.inl h))
  · exact .inl (.inr (.inr h))
theorem mmL {pts lns crs : List Str} {z : Str} : ∀ y, (y ∈ pts ∨ y ∈ lns ++ [z] ∨ y ∈ crs) → (y ∈ pts ∨ y ∈ lns ∨ y ∈ crs) ∨ y = z := by
  intro y h
  rcases h with h | h | h
  · exact .inl (.inl h)
  · rcases List.mem_append.mp h with h | h
    · exact .inl (.inr (.inl h))
    · exact .inr (List.mem_singleton.mp h)
  · exact .inl (.inr (.inr h))
theorem mmC {pts lns crs : List Str} {z : Str} : ∀ y, (y ∈ pts ∨ y ∈ lns ∨ y ∈ crs ++ [z]) → (y ∈ pts ∨ y ∈ lns ∨ y ∈ crs) ∨ y = z := by
  intro y h
  rcases h with h | h | h
  · exact .inl (.inl h)
  · exact .inl (.inr (.inl h))
  · rcases List.mem_append.mp h with h | h
    · exact .inl (.inr (.inr h))
    · exact .inr (List.mem_singleton.mp h)
end Mb
namespace Mb
open PySem L2
/-! ### rows as data; equality -/
theorem lay_app : ∀ {a b : List PyData}, PyData.canLayAll0 a = true → PyData.canLayAll0 b = true → PyData.canLayAll0 (a ++ b) = true
  | [], _, _, h => h
  | x :: a, b, h1, h2 => by
    unfold PyData.canLayAll0 at h1
    obtain ⟨h3, h4⟩ := Bool.and_eq_true_iff.mp h1
    show PyData.canLayAll0 (x :: (a ++ b)) = true
    unfold PyData.canLayAll0
    rw [h3, lay_app h4 h2]
    rfl
theorem dep_app : ∀ {a b : List PyData} {n : Nat}, PyData.depthAll a ≤ n → PyData.depthAll b ≤ n → PyData.depthAll (a ++ b) ≤ n
  | [], _, _, _, h => h
  | x :: a, b, n, h1, h2 => by
    unfold PyData.depthAll at h1
    show PyData.depthAll (x :: (a ++ b)) ≤ n
    unfold PyData.depthAll
    have := dep_app (a := a) (b := b) (n := n) (by omega) h2
    omega
theorem dpAll_app {K : PySem.W.Frag} {H : Hp} : ∀ {xs ys : List V} {ds es : List PyData}, DpAll K H xs ds → DpAll K H ys es → DpAll K H (xs ++ ys) (ds ++ es)
  | _, _, _, _, .nil, h => h
  | _, _, _, _, .cons a r, h => .cons a (dpAll_app r h)
theorem dp_two {K : PySem.W.Frag} {H : Hp} {f : Addr} {t u : Int} (h : SqT K H f [.int t, .int u]) : Dp K H (.ref f) (.tuple [.int t, .int u]) := .tup h (.cons (.int t) (.cons (.int u) .nil))
theorem Tl.dp {K : PySem.W.Frag} {H : Hp} {x : Str} {r : List V} (h : Tl K H x r) : ∃ ds, DpAll K H r ds ∧ PyData.canLayAll0 ds = true ∧ PyData.depthAll ds ≤ 10 := by
  rcases h with ⟨e, f, g, t, u, t', u', rfl, h1, h2⟩ | ⟨e, f, t, u, rfl, h1⟩ | ⟨_, n, rfl⟩ | ⟨_, _, _, rfl⟩
  · exact ⟨_, .cons (dp_two h1) (.cons (dp_two h2) .nil), rfl, by simp [PyData.depthAll, PyData.depth]⟩
  · exact ⟨_, .cons (dp_two h1) .nil, rfl, by simp [PyData.depthAll, PyData.depth]⟩
  · exact ⟨_, .cons (.int n) .nil, rfl, by simp [PyData.depthAll, PyData.depth]⟩
  · exact ⟨[], .nil, rfl, by decide⟩
theorem word_ok {x s : Str} {g : List Str} (h : (x, s, g) ∈ wordsTab) : PyData.strOk x = true := by
  have all : ∀ q ∈ wordsTab, PyData.strOk q.1 = true := by decide +kernel
  exact all _ h
theorem Th.dp {K : PySem.W.Frag} {H : Hp} {v : V} {t : Thing} {L : Env} (h : Th K H v t) (ok : Okm t.2.1 t.2.2 L) (sk : Sok t.1) : ∃ d, Dp K H v d ∧ PyData.canLay0 d = true ∧ PyData.depth d ≤ 20 := by
  obtain ⟨a, m, rfl, ta, r, tm, tl⟩ := h
  obtain ⟨⟨so, g, tx, _⟩, hz⟩ := ok
  obtain ⟨ds, d1, d2, d3⟩ := tl.dp
  obtain ⟨e1, e2⟩ := lay_strs t.2.2 fun z h => (hz z h).2.2
  have l1 := lay_app e1 d2
  have l2 : PyData.depthAll (t.2.2.map PyData.str ++ ds) ≤ 10 := dep_app (by omega) d3
  refine ⟨.tuple [.str t.1, .tuple (.str t.2.1 :: (t.2.2.map PyData.str ++ ds))], .tup ta (.cons (.str _) (.cons (.tup tm (.cons (.str _) (dpAll_app (dpAll_strs _) d1))) .nil)), ?_, ?_⟩
  · simp only [PyData.canLay0, PyData.canLayAll0, sk.2, word_ok tx, l1, Bool.and_self]
  · simp only [PyData.depth, PyData.depthAll]
    omega
theorem rows_dp {K : PySem.W.Frag} {H : Hp} : ∀ {us : List V} {ts : List Thing} {L : Env}, Rws K H us ts → Vr L ts → ∃ ds, DpAll K H us ds ∧ PyData.canLayAll0 ds = true ∧ PyData.depthAll ds ≤ 20
  | _, _, _, .nil, _ => ⟨[], .nil, rfl, by decide⟩
  | _, _, L, .cons h r, ⟨v1, v2⟩ => by
    obtain ⟨d, h1, h2, h3⟩ := h.dp v1.2.2.1 v1.2.1
    obtain ⟨ds, g1, g2, g3⟩ := rows_dp r v2
    refine ⟨d :: ds, .cons h1 g1, ?_, ?_⟩
    · unfold PyData.canLayAll0
      rw [h2, g2]
      rfl
    · unfold PyData.depthAll
      omega
theorem r_neRow {K : PySem.W.Frag} {H : Hp} {Q : VK} {a b : Addr} {us : List V} {ts : List Thing} (h1 : SqL K H a us) (h2 : SqL K H b us) (rw_ : Rws K H us ts) (vr : Vr [] ts) (k : Q (.bl false) H) : rNeD K (.ref a) (.ref b) H Q := by
  obtain ⟨ds, d1, d2, d3⟩ := rows_dp rw_ vr
  have sh : SeqAt.shaped (.list ds) = true := by
    have e1 : PyData.canLay0 (.list ds) = true := by unfold PyData.canLay0; exact d2
    have e2 : PyData.depth (.list ds) ≤ 64 := by unfold PyData.depth; omega
    unfold SeqAt.shaped
    rw [e1, decide_eq_true e2]
    rfl
  refine ⟨_, _, .lst h1 d1, .lst h2 d1, sh, sh, ?_⟩
  rw [SeqAt.eqv_refl _ (by unfold PyData.canLay0; exact d2)]
  exact k
theorem dpAll_ints {K : PySem.W.Frag} {H : Hp} : ∀ (ns : List Int), DpAll K H (ns.map V.int) (ns.map PyData.int)
  | [] => .nil
  | n :: r => .cons (.int n) (dpAll_ints r)
theorem lay_ints : ∀ ns : List Int, PyData.canLayAll0 (ns.map PyData.int) = true ∧ PyData.depthAll (ns.map PyData.int) ≤ 1
  | [] => ⟨rfl, by decide⟩
  | n :: r => by
    obtain ⟨h1, h2⟩ := lay_ints r
    rw [List.map_cons]
    refine ⟨?_, ?_⟩
    · unfold PyData.canLayAll0 PyData.canLay0
      rw [h1]
      rfl
    · unfold PyData.depthAll PyData.depth
      omega
theorem sh_ints (ns : List Int) : SeqAt.shaped (.list (ns.map PyData.int)) = true ∧ PyData.canLay0 (.list (ns.map PyData.int)) = true := by
  have e1 : PyData.canLay0 (.list (ns.map PyData.int)) = true := by unfold PyData.canLay0; exact (lay_ints ns).1
  have e2 : PyData.depth (.list (ns.map PyData.int)) ≤ 64 := by unfold PyData.depth; have := (lay_ints ns).2; omega
  refine ⟨?_, e1⟩
  unfold SeqAt.shaped
  rw [e1, decide_eq_true e2]
  rfl
theorem r_neInt {K : PySem.W.Frag} {H : Hp} {Q : VK} {a b : Addr} {ns : List Int} (h1 : SqL K H a (ns.map V.int)) (h2 : SqL K H b (ns.map V.int)) (k : Q (.bl false) H) : rNeD K (.ref a) (.ref b) H Q := by
  refine ⟨_, _, .lst h1 (dpAll_ints ns), .lst h2 (dpAll_ints ns), (sh_ints ns).1, (sh_ints ns).1, ?_⟩
  rw [SeqAt.eqv_refl _ (sh_ints ns).2]
  exact k
theorem r_eqInt {K : PySem.W.Frag} {H : Hp} {Q : VK} {a b : Addr} {ns : List Int} (h1 : SqL K H a (ns.map V.int)) (h2 : SqL K H b (ns.map V.int)) (k : Q (.bl true) H) : rEqD K (.ref a) (.ref b) H Q := by
  refine ⟨_, _, .lst h1 (dpAll_ints ns), .lst h2 (dpAll_ints ns), (sh_ints ns).1, (sh_ints ns).1, ?_⟩
  rw [SeqAt.eqv_refl _ (sh_ints ns).2]
  exact k
def wts (L : Env) : List Int := L.map (·.2.2)
theorem wts_of {L : Env} : weightsOf L = (wts L).map V.int := by
  unfold weightsOf wts
  rw [List.map_map]
  rfl
theorem wts_step {L : Env} {t : Thing} : wts (envStep L t) = wts L ++ [wOf t.2.1 t.2.2 L] := by
  unfold wts envStep
  rw [List.map_append]
  rfl
theorem at_last {xs : List V} {v : V} : atI (xs ++ [v]) (-1) = some v := by
  unfold atI ixN
  rw [if_neg (by decide), if_pos (by simp only [List.length_append, List.length_cons, List.length_nil]; omega)]
  have : ((-1 : Int) + ((xs ++ [v]).length : Int)).toNat = xs.length := by simp only [List.length_append, List.length_cons, List.length_nil]; omega
  rw [this]
  simp
theorem cut_init {xs : List V} {v : V} : cutV (xs ++ [v]) none (some (-1)) = xs := by
  unfold cutV
  have e1 : HT.sIx (xs ++ [v]).length 0 none = 0 := rfl
  have e2 : HT.sIx (xs ++ [v]).length (xs ++ [v]).length (some (-1)) = xs.length := by
    unfold HT.sIx
    dsimp only
    rw [if_pos (by decide)]
    simp only [List.length_append, List.length_cons, List.length_nil]
    omega
  rw [e1, e2]
  simp
theorem rws_split {K : PySem.W.Frag} {H : Hp} : ∀ (ts' : List Thing) {us : List V} {t : Thing}, Rws K H us (ts' ++ [t]) → ∃ us' v, us = us' ++ [v] ∧ Rws K H us' ts'
  | [], us, t, h => by
    unfold Rws at h
    cases h with
    | cons h1 h2 =>
      cases h2
      exact ⟨[], _, rfl, .nil⟩
  | a :: r, us, t, h => by
    unfold Rws at h
    cases h with
    | cons h1 h2 =>
      obtain ⟨us', v, e, q⟩ := rws_split r h2
      exact ⟨_ :: us', v, by rw [e]; rfl, .cons h1 q⟩
theorem rws_init {K : PySem.W.Frag} {H : Hp} {us : List V} {ts : List Thing} (h : Rws K H us ts) (hl : 1 ≤ ts.length) : ∃ us' v ts' t, us = us' ++ [v] ∧ ts = ts' ++ [t] ∧ Rws K H us' ts' := by
  have ne : ts ≠ [] := fun z => by rw [z] at hl; simp at hl
  have e := (List.dropLast_concat_getLast ne).symm
  rw [e] at h
  obtain ⟨us', v, e', q⟩ := rws_split _ h
  exact ⟨us', v, _, _, e', e, q⟩
theorem r_bmz {K : PySem.W.Frag} {T : String} {r : V → List V → Hp → VK → Prop} {to : TE} {σ : St} {H : Hp} {Q : VK} (q : to σ H fun x H1 => tyV K T x H1 ∧ r x [] H1 Q) : tBM0 K T r to σ H Q := q
theorem r_noPart {σ : St} {H : Hp} {Q : Option Int → Hp → Prop} (q : Q none H) : L2.tNoPart σ H Q := q
end Mb
namespace Mb
open PySem L2
/-! ### names out of a row -/
theorem lc_things {K : PySem.W.Frag} {i j : Nat} {tt : TT} {te : TE} {σ : St} {Q : VK} {l : Addr} {us : List V} {ts : List Thing} {H : Hp} (keep : Thing → Bool) (val : Thing → V) (hl : SqL K H l us) (rw_ : Rws K H us ts) (few : us.length ≤ 1000)
    (hσ : ∀ u v, wipe (((wipe σ [i, j]).set i (some u)).set j (some v)) [i, j] = wipe σ [i, j])
    (stT : ∀ (n : Nat) (t : Thing) (m : Addr) (H' : Hp), ts[n]? = some t → Same H H' → Mk K H' m t.2.1 t.2.2 → ∀ R : Bool → Hp → Prop, (∀ H4, Same H' H4 → R (keep t) H4) → tt (((wipe σ [i, j]).set i (some (.str t.1))).set j (some (.ref m))) H' R)
    (stE : ∀ (n : Nat) (t : Thing) (m : Addr) (H' : Hp), ts[n]? = some t → Same H H' → Mk K H' m t.2.1 t.2.2 → ∀ R : VK, (∀ H4, Same H' H4 → R (val t) H4) → te (((wipe σ [i, j]).set i (some (.str t.1))).set j (some (.ref m))) H' R)
    (fin : ∀ (D : Addr) (H' : Hp), Same H H' → H D = none → H' D = some (.lst ((ts.filter keep).map val)) → Q (.ref D) H') : lcL K (gTup K 2 (gCons (gName i) (gCons (gName j) gNil))) tt te [i, j] σ Q (.ref l) H := by
  refine ⟨l, rfl, ⟨_, hl⟩, fun D hD => ?_⟩
  have ln := rw_.len
  refine lc_list (xs := us) (fun n H' => Same H H' ∧ H' D = some (.lst (((ts.take n).filter keep).map val))) ⟨same_new hD _, by rw [List.take_zero]; exact upd_same⟩ (fun n H' _ h => h.1.seq hl) ?_ ?_
  · rintro n v H' hv ⟨g, d⟩
    obtain ⟨t, ht, a, m, rfl, ta, mk⟩ := rw_.at hv
    have hi : n < ts.length := (List.getElem?_eq_some_iff.mp ht).1
    have e1 : ts.take (n + 1) = ts.take n ++ [t] := by rw [List.take_succ, ht, Option.toList_some]
    refine r_gT (g.tp ta) rfl ?_
    refine r_g2 ?_
    refine ⟨hσ _ _, ?_⟩
    refine stT n t m H' ht g (mk.kp (Kp.same g)) _ fun H3 g3 => ?_
    cases hk : keep t with
    | false =>
      rw [if_neg (by simp)]
      refine ⟨g.trans g3, ?_⟩
      rw [e1, List.filter_append, List.filter_cons, hk]
      simpa using g3 _ _ d
    | true =>
      rw [if_pos rfl]
      refine stE n t m H3 ht (g.trans g3) ((mk.kp (Kp.same g)).kp (Kp.same g3)) _ fun H4 g4 => ?_
      refine ⟨_, g4 _ _ (g3 _ _ d), ?_, same_updS ((g.trans g3).trans g4) hD, ?_⟩
      · rw [List.length_map]
        have := List.length_filter_le keep (ts.take n)
        rw [List.length_take] at this
        exact Nat.lt_of_le_of_lt this (Nat.lt_of_lt_of_le (show min n ts.length < 1001 by omega) (by decide))
      · rw [e1, List.filter_append, List.map_append, List.filter_cons, hk]
        simp only [if_true, List.filter_nil, List.map_cons, List.map_nil]
        exact upd_same
  · rintro H' ⟨g, d⟩
    rw [ln, List.take_length] at d
    exact fin D H' g hD d
def nmsT (ts : List Thing) : List Str := ts.map (·.1)
/-- a name that the row has: nothing; else NoThing with it -/
def spMissing (K : PySem.W.Frag) (C : Addr) : Sp := fun vs H Q E => ∃ (l : Addr) (z : Str) (us : List V) (ts : List Thing), vs = [.ref l, .str z] ∧ SqL K H l us ∧ Rws K H us ts ∧ ts.length ≤ 60 ∧ z.length ≤ 1000 ∧
  (z ∈ nmsT ts → ∀ H', Same H H' → Q .non H') ∧ (z ∉ nmsT ts → ∀ (d : Addr) (fs : List (Str × V)) (H' : Hp), Same H H' → H' d = some (.xd fs) → fs.lookup ("name" : Str) = some (V.str z) → E (.ref C) (some d) H')
/-- __init__(self, v) as a raiser takes it -/
def spInitR (C : Addr) (f : Str) (ok : V → Prop) : Sp := fun vs H Q _ => ∃ (a : Addr) (v : V), vs = [.ref a, v] ∧ ok v ∧ H a = some (exo a C none) ∧ ∀ (wd dx : Addr) (H' : Hp), H dx = none → dx ≠ a → But a H H' → H' a = some (exo a C (some dx)) → H' dx = some (exd dx [(f, v), ("words", .ref wd)]) → Q .non H'
theorem r_notIn {K : PySem.W.Frag} {H : Hp} {Q : VK} {a : Addr} {z : Str} {zs : List Str} (h : SqL K H a (zs.map V.str)) (q : Q (.bl (!decide (z ∈ zs))) H) : rIn K true (.str z) (.ref a) H Q :=
  ⟨a, _, rfl, .inl h, rfl, by rw [List.all_map]; exact List.all_eq_true.mpr (fun _ _ => rfl), by rw [inV_str]; exact q⟩
theorem r_mkO {C : Addr} {sp : Sp} {ta : TA} {σ : St} {H : Hp} {Q : XK} (q : ta σ H fun vs H1 => vs.length ≤ 1000 ∧ ∀ a, H1 a = none → sp (.ref a :: (vs ++ [])) (upd H1 a (exo a C none)) (fun v H2 => v = .non ∧ ∃ (d : Addr) (fs : List (Str × V)), H2 a = some (exo a C (some d)) ∧ H2 d = some (exd d fs) ∧ H1 d = none ∧ Q (.ref C) (some d) (upd (del H2 a) d (.xd fs))) (fun _ _ _ => False)) : tMkO C sp [] ta σ H Q := q
/-! ### a dict as a set of names -/
def setD (F : List Str) : List (Key × V) := F.map fun k => (.inr k, .bl true)
def addF (F : List Str) (g : Str) : List Str := if g ∈ F then F else F ++ [g]
theorem any_set {F : List Str} {g : Str} : ((setD F).any fun kv => decide (kv.1 = (.inr g : Key))) = decide (g ∈ F) := by
  unfold setD
  rw [List.any_map]
  induction F with
  | nil => rfl
  | cons a r ih =>
    rw [List.any_cons, ih]
    by_cases h : a = g
    · subst h; simp
    · have h1 : ¬ ((.inr a : Key) = .inr g) := fun e => h (Sum.inr.inj e)
      have h2 : ¬ g = a := fun e => h e.symm
      simp [h1, h2]
theorem put_set {F : List Str} {g : Str} : putK (setD F) (.inr g) (.bl true) = setD (addF F g) := by
  unfold putK addF
  rw [any_set]
  by_cases h : g ∈ F
  · rw [if_pos (by simpa using h), if_pos h]
    unfold setD
    rw [List.map_map]
    refine List.map_congr_left fun k _ => ?_
    show (if (.inr k : Key) = .inr g then ((.inr k : Key), V.bl true) else (.inr k, .bl true)) = _
    split <;> rfl
  · rw [if_neg (by simpa using h), if_neg h]
    unfold setD
    rw [List.map_append]
    rfl
theorem get_set {H : Hp} {D : Addr} {F : List Str} {z : Str} (h : H D = some (.dK (setD F))) : ∃ o, DGet H D (.str z) o ∧ o.isSome = decide (z ∈ F) := by
  refine ⟨_, DGet.k (k := .inr z) h, ?_⟩
  rw [← valV_any, any_set]
theorem addF_len {F : List Str} {g : Str} : (addF F g).length ≤ F.length + 1 := by
  unfold addF
  split
  · omega
  · simp
theorem addsF_len : ∀ (ns F : List Str), (ns.foldl addF F).length ≤ F.length + ns.length
  | [], _ => Nat.le_refl _
  | n :: r, F => by
    have h1 := addsF_len r (addF F n)
    have h2 := addF_len (F := F) (g := n)
    simp only [List.foldl_cons, List.length_cons]
    omega
def stepF (F : List Str) (t : Thing) : List Str := if t.1 ∈ F then t.2.2.foldl addF F else F
/-- the name and all that it hangs on, found from the row's end -/
def closeF (z : Str) (ts : List Thing) : List Str := ts.reverse.foldl stepF [z]
def keepB (z : Str) (F : List Str) (t : Thing) : Bool := decide (t.1 ∈ F) && !decide (t.1 = z)
def benOf (z : Str) (ts : List Thing) : List Str := (ts.filter (keepB z (closeF z ts))).map (·.1)
def spBeneath (K : PySem.W.Frag) (C : Addr) : Sp := fun vs H Q E => ∃ (l : Addr) (z : Str) (us : List V) (ts : List Thing), vs = [.ref l, .str z] ∧ SqL K H l us ∧ Rws K H us ts ∧ Vr [] ts ∧ ts.length ≤ 60 ∧ z.length ≤ 1000 ∧
  (z ∈ nmsT ts → ∀ (D : Addr) (H' : Hp), Same H H' → H D = none → H' D = some (.lst ((benOf z ts).map V.str)) → Q (.ref D) H') ∧ (z ∉ nmsT ts → ∀ (d : Addr) (fs : List (Str × V)) (H' : Hp), Same H H' → H' d = some (.xd fs) → fs.lookup ("name" : Str) = some (V.str z) → E (.ref C) (some d) H')
theorem Vr.okm {ts : List Thing} {i : Nat} {t : Thing} (h : Vr [] ts) (hi : ts[i]? = some t) : ∃ (s : Str) (g : List Str), (t.2.1, s, g) ∈ wordsTab ∧ t.2.2.length = g.length := (h.at hi).2.2.1.1
theorem four {x s : Str} {g : List Str} (h : (x, s, g) ∈ wordsTab) : g.length ≤ 4 := by
  have all : ∀ q ∈ wordsTab, q.2.2.length ≤ 4 := by decide +kernel
  exact all _ h
theorem r_din {ty td : TE} {σ : St} {H : Hp} {Q : VK} (q : ty σ H fun y H1 => td σ H1 fun x H2 => ∃ a o, x = .ref a ∧ DGet H2 a y o ∧ Q (.bl o.isSome) H2) : tDIn ty td σ H Q := q
theorem step_in {F : List Str} {t : Thing} (h : t.1 ∈ F) : stepF F t = t.2.2.foldl addF F := if_pos h
theorem step_out {F : List Str} {t : Thing} (h : t.1 ∉ F) : stepF F t = F := if_neg h
/-- things made anew as pairs -/
theorem lc_made {K : PySem.W.Frag} {i j : Nat} {tt : TT} {te : TE} {σ : St} {Q : VK} {l : Addr} {us : List V} {ts : List Thing} {H : Hp} (keep : Thing → Bool) (hl : SqL K H l us) (rw_ : Rws K H us ts) (few : us.length ≤ 1000)
    (hσ : ∀ u v, wipe (((wipe σ [i, j]).set i (some u)).set j (some v)) [i, j] = wipe σ [i, j])
    (stT : ∀ (n : Nat) (t : Thing) (m : Addr) (H' : Hp), ts[n]? = some t → Same H H' → Mk K H' m t.2.1 t.2.2 → ∀ R : Bool → Hp → Prop, (∀ H4, Same H' H4 → R (keep t) H4) → tt (((wipe σ [i, j]).set i (some (.str t.1))).set j (some (.ref m))) H' R)
    (stE : ∀ (n : Nat) (t : Thing) (m : Addr) (H' : Hp), ts[n]? = some t → Same H H' → Mk K H' m t.2.1 t.2.2 → ∀ R : VK, (∀ a H4, Same H' H4 → SqT K H4 a [.str t.1, .ref m] → R (.ref a) H4) → te (((wipe σ [i, j]).set i (some (.str t.1))).set j (some (.ref m))) H' R)
    (fin : ∀ (D : Addr) (vs : List V) (H' : Hp), Same H H' → H D = none → H' D = some (.lst vs) → Rws K H' vs (ts.filter keep) → Q (.ref D) H') : lcL K (gTup K 2 (gCons (gName i) (gCons (gName j) gNil))) tt te [i, j] σ Q (.ref l) H := by
  refine ⟨l, rfl, ⟨_, hl⟩, fun D hD => ?_⟩
  have ln := rw_.len
  refine lc_list (xs := us) (fun n H' => ∃ vs : List V, Same H H' ∧ H' D = some (.lst vs) ∧ Rws K H' vs ((ts.take n).filter keep)) ⟨[], same_new hD _, upd_same, by rw [List.take_zero]; exact .nil⟩ (fun n H' _ h => by obtain ⟨_, h, _⟩ := h; exact h.seq hl) ?_ ?_
  · rintro n v H' hv ⟨vs, g, d, rv⟩
    obtain ⟨t, ht, a, m, rfl, ta, mk⟩ := rw_.at hv
    have hi : n < ts.length := (List.getElem?_eq_some_iff.mp ht).1
    have e1 : ts.take (n + 1) = ts.take n ++ [t] := by rw [List.take_succ, ht, Option.toList_some]
    have lv := rv.len
    refine r_gT (g.tp ta) rfl ?_
    refine r_g2 ?_
    refine ⟨hσ _ _, ?_⟩
    replace mk := mk.kp (Kp.same g)
    refine stT n t m H' ht g mk _ fun H3 g3 => ?_
    cases hk : keep t with
    | false =>
      rw [if_neg (by simp)]
      refine ⟨vs, g.trans g3, g3 _ _ d, ?_⟩
      rw [e1, List.filter_append, List.filter_cons, hk]
      simpa using rv.kp (Kp.same g3)
    | true =>
      rw [if_pos rfl]
      replace mk := mk.kp (Kp.same g3)
      refine stE n t m H3 ht (g.trans g3) mk _ fun b H4 g4 tb => ?_
      have d4 := g4 _ _ (g3 _ _ d)
      have kp : Kp K H4 (upd H4 D (.lst (vs ++ [.ref b]))) := kp_list d4
      refine ⟨_, d4, ?_, vs ++ [.ref b], same_updS ((g.trans g3).trans g4) hD, upd_same, ?_⟩
      · have := List.length_filter_le keep (ts.take n)
        rw [List.length_take] at this
        exact Nat.lt_of_le_of_lt (show vs.length ≤ 1000 by omega) (by decide)
      · rw [e1, List.filter_append, List.filter_cons, hk]
        simp only [if_true, List.filter_nil]
        exact rws_snoc (((rv.kp (Kp.same g3)).kp (Kp.same g4)).kp kp) ⟨b, m, rfl, kp _ _ tb, (mk.kp (Kp.same g4)).kp kp⟩
  · rintro H' ⟨vs, g, d, rv⟩
    rw [ln, List.take_length] at rv
    exact fin D vs H' g hD d rv
def freeB (t : Thing) : Bool := decide (t.2.1 = "free")
def spFrees (K : PySem.W.Frag) : Sp := fun vs H Q _ => ∃ (l : Addr) (us : List V) (ts : List Thing), vs = [.ref l] ∧ SqL K H l us ∧ Rws K H us ts ∧ us.length ≤ 1000 ∧ ∀ (D : Addr) (H' : Hp), Same H H' → H D = none → H' D = some (.lst (((ts.filter freeB).map (·.1)).map V.str)) → Q (.ref D) H'
/-- the name and what it hangs on, as a row -/
def rootB (z : Str) (ts : List Thing) (t : Thing) : Bool := decide (t.1 ∈ benOf z ts ++ [z])
def spRooted (K : PySem.W.Frag) (C : Addr) : Sp := fun vs H Q E => ∃ (l : Addr) (z : Str) (us : List V) (ts : List Thing), vs = [.ref l, .str z] ∧ SqL K H l us ∧ Rws K H us ts ∧ Vr [] ts ∧ ts.length ≤ 60 ∧ z.length ≤ 1000 ∧
  (z ∈ nmsT ts → ∀ (D : Addr) (vs : List V) (H' : Hp), Same H H' → H D = none → H' D = some (.lst vs) → Rws K H' vs (ts.filter (rootB z ts)) → Q (.ref D) H') ∧ (z ∉ nmsT ts → ∀ (d : Addr) (fs : List (Str × V)) (H' : Hp), Same H H' → H' d = some (.xd fs) → fs.lookup ("name" : Str) = some (V.str z) → E (.ref C) (some d) H')
def freeOf (z : Str) (ts : List Thing) : List Str := ((ts.filter (rootB z ts)).filter freeB).map (·.1)
def spFreePoints (K : PySem.W.Frag) (C : Addr) : Sp := fun vs H Q E => ∃ (l : Addr) (z : Str) (us : List V) (ts : List Thing), vs = [.ref l, .str z] ∧ SqL K H l us ∧ Rws K H us ts ∧ Vr [] ts ∧ ts.length ≤ 60 ∧ z.length ≤ 1000 ∧
  (z ∈ nmsT ts → ∀ (D : Addr) (H' : Hp), Same H H' → H D = none → H' D = some (.lst ((freeOf z ts).map V.str)) → Q (.ref D) H') ∧ (z ∉ nmsT ts → ∀ (d : Addr) (fs : List (Str × V)) (H' : Hp), Same H H' → H' d = some (.xd fs) → fs.lookup ("name" : Str) = some (V.str z) → E (.ref C) (some d) H')
theorem r_in2 {K : PySem.W.Frag} {H : Hp} {Q : VK} {a : Addr} {z : Str} {zs : List Str} (h : SqL K H a (zs.map V.str)) (q : Q (.bl (decide (z ∈ zs))) H) : rIn K false (.str z) (.ref a) H Q := r_inSL h q
/-! ### the law's own part of a row: taken at its time, from the row's end -/
def takeF : List Str → List Thing → List Thing
  | _, [] => []
  | F, t :: r => if t.1 ∈ F then t :: takeF (t.2.2.foldl addF F) r else takeF F r
theorem takeF_snoc : ∀ (a : List Thing) (F : List Str) (t : Thing), takeF F (a ++ [t]) = takeF F a ++ (if t.1 ∈ a.foldl stepF F then [t] else [])
  | [], F, t => by
    show takeF F [t] = [] ++ _
    unfold takeF
    by_cases h : t.1 ∈ F
    · rw [if_pos h, if_pos (show t.1 ∈ [].foldl stepF F from h)]
      rfl
    · rw [if_neg h, if_neg (show ¬ t.1 ∈ [].foldl stepF F from h)]
      rfl
  | u :: r, F, t => by
    rw [List.cons_append]
    unfold takeF
    rw [List.foldl_cons]
    by_cases h : u.1 ∈ F
    · rw [if_pos h, if_pos h, takeF_snoc r, step_in h]
      rfl
    · rw [if_neg h, if_neg h, takeF_snoc r, step_out h]
theorem takeF_len : ∀ (a : List Thing) (F : List Str), (takeF F a).length ≤ a.length
  | [], _ => by simp [takeF]
  | u :: r, F => by
    unfold takeF
    have h1 := takeF_len r (u.2.2.foldl addF F)
    have h2 := takeF_len r F
    split
    · simp only [List.length_cons]; omega
    · simp only [List.length_cons]; omega
theorem rws_rev {K : PySem.W.Frag} {H : Hp} : ∀ {us : List V} {ts : List Thing}, Rws K H us ts → Rws K H us.reverse ts.reverse
  | _, _, .nil => .nil
  | _, _, .cons h r => by
    rw [List.reverse_cons, List.reverse_cons]
    exact rws_snoc (rws_rev r) h
def partOf (z : Str) (ts : List Thing) : List Thing := (takeF [z] ts.reverse).reverse
def spPart (K : PySem.W.Frag) : Sp := fun vs H Q _ => ∃ (l : Addr) (z : Str) (us : List V) (ts : List Thing), vs = [.ref l, .str z] ∧ SqL K H l us ∧ Rws K H us ts ∧ Vr [] ts ∧ ts.length ≤ 60 ∧ ∀ (D : Addr) (vs : List V) (H' : Hp), Same H H' → H D = none → H' D = some (.lst vs) → Rws K H' vs (partOf z ts) → Q (.ref D) H'
theorem r_revL {K : PySem.W.Frag} {te : TE} {σ : St} {H : Hp} {Q : VK} (q : te σ H fun x H1 => ∃ a xs, x = .ref a ∧ SqL K H1 a xs ∧ ∀ p, H1 p = none → Q (.ref p) (upd H1 p (.lst xs.reverse))) : tRevL K te σ H Q := q
end Mb
namespace Mb
open PySem L2
/-! ### the part of a row by both ways -/
theorem mem_addF {F : List Str} {g n : Str} : n ∈ addF F g ↔ n ∈ F ∨ n = g := by
  unfold addF
  split
  · rename_i h
    constructor
    · exact .inl
    · rintro (h' | rfl)
      · exact h'
      · exact h
  · rw [List.mem_append, List.mem_singleton]
theorem mem_addsF : ∀ {ns F : List Str} {n : Str}, n ∈ ns.foldl addF F ↔ n ∈ F ∨ n ∈ ns
  | [], F, n => by simp
  | g :: r, F, n => by
    rw [List.foldl_cons, mem_addsF, mem_addF, List.mem_cons, or_assoc]
theorem mem_stepF {F : List Str} {t : Thing} {n : Str} : n ∈ stepF F t ↔ n ∈ F ∨ (t.1 ∈ F ∧ n ∈ t.2.2) := by
  unfold stepF
  split
  · rename_i h
    rw [mem_addsF]
    simp [h]
  · rename_i h
    simp [h]
/-- nothing further on hangs on it -/
theorem mem_foldF : ∀ {r : List Thing} {F : List Str} {n : Str}, (∀ u ∈ r, n ∉ u.2.2) → (n ∈ r.foldl stepF F ↔ n ∈ F)
  | [], _, _, _ => Iff.rfl
  | t :: r, F, n, h => by
    rw [List.foldl_cons, mem_foldF (fun u hu => h u (List.mem_cons_of_mem _ hu)), mem_stepF]
    have := h t List.mem_cons_self
    simp [this]
def Rv : List Thing → Prop
  | [] => True
  | t :: r => (t.1 ∉ t.2.2 ∧ ∀ u ∈ r, t.1 ∉ u.2.2) ∧ Rv r
theorem takeF_filter : ∀ {r : List Thing} {F : List Str}, Rv r → takeF F r = r.filter fun t => decide (t.1 ∈ r.foldl stepF F)
  | [], _, _ => rfl
  | t :: r, F, ⟨⟨h1, h2⟩, h3⟩ => by
    rw [List.filter_cons, List.foldl_cons]
    have e1 : t.1 ∈ r.foldl stepF (stepF F t) ↔ t.1 ∈ F := by
      rw [mem_foldF h2, mem_stepF]
      simp [h1]
    unfold takeF
    by_cases h : t.1 ∈ F
    · rw [if_pos h, if_pos (decide_eq_true (e1.mpr h)), takeF_filter h3, step_in h]
    · rw [if_neg h, if_neg (by simpa using fun z => h (e1.mp z)), takeF_filter h3, step_out h]
theorem nms_env : ∀ (ts : List Thing) (L : Env), nmsE (envOf L ts) = nmsE L ++ nmsT ts
  | [], L => by simp [envOf, nmsT]
  | t :: r, L => by
    show nmsE (envOf (envStep L t) r) = _
    rw [nms_env r, nms_step]
    unfold nmsT
    simp
theorem nms_env0 {ts : List Thing} : nmsE (envOf [] ts) = nmsT ts := by rw [nms_env]; rfl
theorem Vr.gr : ∀ {ts : List Thing} {L : Env}, Vr L ts → ∀ u ∈ ts, ∀ g ∈ u.2.2, g ∈ nmsE (envOf L ts)
  | t :: r, L, ⟨h1, h2⟩, u, hu, g, hg => by
    rcases List.mem_cons.mp hu with rfl | hu
    · show g ∈ nmsE (envOf (envStep L u) r)
      rw [nms_env, nms_step]
      exact List.mem_append_left _ (List.mem_append_left _ (h1.2.2.1.2 g hg).1)
    · exact Vr.gr h2 u hu g hg
theorem Rv_of : ∀ {n : Nat} {ts : List Thing}, ts.length = n → Vr [] ts → Rv ts.reverse
  | 0, ts, hn, _ => by
    rw [List.eq_nil_of_length_eq_zero hn]
    exact trivial
  | n + 1, ts, hn, h => by
    have hne : ts ≠ [] := fun e => by rw [e] at hn; cases hn
    have e := List.dropLast_concat_getLast hne
    generalize ts.dropLast = a at e
    generalize ts.getLast hne = t at e
    subst e
    rw [List.reverse_append]
    obtain ⟨h1, h2⟩ := Vr.split _ _ _ h
    obtain ⟨⟨h3, _, h5, _⟩, _⟩ := h2
    refine ⟨⟨fun z => h3 (h5.2 _ z).1, fun u hu z => ?_⟩, Rv_of (n := n) (by simpa using hn) h1⟩
    exact h3 (Vr.gr h1 u (List.mem_reverse.mp hu) _ z)
theorem mem_foldl_self : ∀ {r : List Thing} {F : List Str} {n : Str}, n ∈ F → n ∈ r.foldl stepF F
  | [], _, _, h => h
  | t :: r, F, n, h => by
    rw [List.foldl_cons]
    exact mem_foldl_self (mem_stepF.mpr (.inl h))
theorem part_root {z : Str} {ts : List Thing} (h : Vr [] ts) : partOf z ts = ts.filter (rootB z ts) := by
  unfold partOf
  rw [takeF_filter (Rv_of rfl h), ← List.filter_reverse, List.reverse_reverse]
  refine List.filter_congr fun t ht => ?_
  unfold rootB
  rw [decide_eq_decide, List.mem_append, List.mem_singleton]
  show t.1 ∈ closeF z ts ↔ _
  have hz : z ∈ closeF z ts := mem_foldl_self List.mem_cons_self
  constructor
  · intro hc
    by_cases e : t.1 = z
    · exact .inr e
    · refine .inl (List.mem_map.mpr ⟨t, List.mem_filter.mpr ⟨ht, ?_⟩, rfl⟩)
      unfold keepB
      simp [hc, e]
  · rintro (hb | e)
    · obtain ⟨u, hu, e⟩ := List.mem_map.mp hb
      have := (List.mem_filter.mp hu).2
      unfold keepB at this
      simp only [Bool.and_eq_true, decide_eq_true_eq] at this
      rw [← e]
      exact this.1
    · rw [e]
      exact hz
/-- an unknown name is refused by its name -/
def spUnknown (K : PySem.W.Frag) : Sp := fun vs H Q _ => ∃ (l : Addr) (z : Str) (us : List V) (ts : List Thing), vs = [.ref l, .str z] ∧ SqL K H l us ∧ Rws K H us ts ∧ Vr [] ts ∧ ts.length ≤ 60 ∧ z.length ≤ 1000 ∧ z ∉ nmsT ts ∧ ∀ H', Same H H' → Q (.bl true) H'
theorem Vr.sok {ts : List Thing} (h : Vr [] ts) : ∀ z ∈ nmsT ts, Sok z := fun z hz => by
  obtain ⟨t, ht, rfl⟩ := List.mem_map.mp hz
  obtain ⟨i, hi⟩ := List.getElem?_of_mem ht
  exact (h.at hi).2.1
theorem Vr.noQ {ts : List Thing} (h : Vr [] ts) : ("Q" : Str) ∉ nmsT ts := fun hz => not_Q (h.sok _ hz).1.2 rfl
theorem r_neStrs {K : PySem.W.Frag} {H : Hp} {Q : VK} {a b : Addr} {ns : List Str} (h1 : SqL K H a (ns.map V.str)) (h2 : SqL K H b (ns.map V.str)) (ok : ∀ z ∈ ns, PyData.strOk z = true) (k : Q (.bl false) H) : rNeD K (.ref a) (.ref b) H Q := by
  obtain ⟨l1, l2⟩ := lay_strs ns ok
  have e1 : PyData.canLay0 (.list (ns.map PyData.str)) = true := by unfold PyData.canLay0; exact l1
  have sh : SeqAt.shaped (.list (ns.map PyData.str)) = true := by
    have e2 : PyData.depth (.list (ns.map PyData.str)) ≤ 64 := by unfold PyData.depth; omega
    unfold SeqAt.shaped
    rw [e1, decide_eq_true e2]
    rfl
  refine ⟨_, _, dp_strs h1, dp_strs h2, sh, sh, ?_⟩
  rw [SeqAt.eqv_refl _ e1]
  exact k
theorem free_mem {z : Str} {ts : List Thing} : ∀ x ∈ freeOf z ts, x ∈ nmsT ts := fun x hx => by
  unfold freeOf at hx
  obtain ⟨t, ht, rfl⟩ := List.mem_map.mp hx
  exact List.mem_map.mpr ⟨t, (List.mem_filter.mp (List.mem_filter.mp ht).1).1, rfl⟩
end Mb
namespace Mb
open PySem L2
theorem r_xf {a : Addr} {cls : Value} {d : Option Addr} {C : Addr} {f : Str} {te : TE} {σ : St} {H : Hp} {Q : VK} (q : te σ H fun x H1 => x = .ref a ∧ cls = .ref C ∧ ∃ (dd : Addr) (fs : List (Str × V)) (v : V), d = some dd ∧ H1 dd = some (.xd fs) ∧ fs.lookup f = some v ∧ Q v H1) : tXf a cls d C f te σ H Q := q
end Mb
namespace Mb
open PySem L2
theorem cutV_map {ns : List Str} {lo hi : Option Int} : ∃ zs : List Str, cutV (ns.map V.str) lo hi = zs.map V.str ∧ (∀ z ∈ zs, z ∈ ns) ∧ zs.length ≤ ns.length := by
  refine ⟨(ns.drop (HT.sIx (ns.map V.str).length 0 lo)).take (HT.sIx (ns.map V.str).length (ns.map V.str).length hi - HT.sIx (ns.map V.str).length 0 lo), ?_, fun z hz => List.mem_of_mem_drop (List.mem_of_mem_take hz), ?_⟩
  · unfold cutV
    rw [List.map_take, List.map_drop]
  · rw [List.length_take, List.length_drop]
    omega
theorem one60 {m : Int} {r : Int} (h0 : 0 ≤ m) (h1 : m < 14) : ∃ n : Nat, atI [V.int (1 + m), .int 60] (if decide (r = 0) = true then 1 else 0) = some (.int (n : Int)) ∧ 1 ≤ n ∧ n ≤ 60 ∧ (r = 0 → n = 60) := by
  by_cases c : r = 0
  · rw [if_pos (decide_eq_true c)]
    exact ⟨60, rfl, by decide, by decide, fun _ => rfl⟩
  · rw [if_neg (by simpa using c)]
    obtain ⟨n, hn⟩ : ∃ n : Nat, 1 + m = (n : Int) := ⟨(1 + m).toNat, by omega⟩
    refine ⟨n, by rw [hn]; rfl, by omega, by omega, fun h => absurd h c⟩
end Mb
namespace Mb
open PySem PySem.Spec PyProof.Rows L2
/-! ### sorted(d) of a dict with tuples of ints for keys, any number of them -/
def lexL : List Int → List Int → Bool
  | _, [] => false
  | [], _ :: _ => true
  | x :: xs, y :: ys => if x = y then lexL xs ys else decide (x < y)
theorem lexL_cons {x y : Int} {xs ys : List Int} : lexL (x :: xs) (y :: ys) = true ↔ x < y ∨ (x = y ∧ lexL xs ys = true) := by
  show (if x = y then lexL xs ys else decide (x < y)) = true ↔ _
  by_cases e : x = y
  · rw [if_pos e]
    constructor
    · exact fun h => .inr ⟨e, h⟩
    · rintro (h | h)
      · omega
      · exact h.2
  · rw [if_neg e, decide_eq_true_eq]
    constructor
    · exact .inl
    · rintro (h | h)
      · exact h
      · exact absurd h.1 e
theorem lexL_no {x y : Int} {xs ys : List Int} : lexL (x :: xs) (y :: ys) = false ↔ ¬ (x < y ∨ (x = y ∧ lexL xs ys = true)) := by
  rw [← lexL_cons]
  cases lexL (x :: xs) (y :: ys) <;> simp
theorem lexL_asym : ∀ xs ys : List Int, lexL xs ys = true → lexL ys xs = false
  | [], [], h => by cases h
  | [], _ :: _, _ => rfl
  | _ :: _, [], h => by cases h
  | x :: xs, y :: ys, h => by
    rw [lexL_no]
    rcases lexL_cons.mp h with h | ⟨e, h⟩
    · rintro (h' | ⟨e, _⟩)
      · omega
      · omega
    · rintro (h' | ⟨_, h'⟩)
      · omega
      · rw [lexL_asym xs ys h] at h'
        cases h'
theorem lexL_tr : ∀ xs ys zs : List Int, lexL ys xs = false → lexL zs ys = false → lexL zs xs = false
  | [], _, _, _, _ => by unfold lexL; rfl
  | _ :: _, [], _, h, _ => by cases h
  | _ :: _, _ :: _, [], _, h => by cases h
  | x :: xs, y :: ys, z :: zs, h1, h2 => by
    rw [lexL_no] at h1 h2 ⊢
    rintro (h | ⟨e, h⟩)
    · by_cases c : z < y
      · exact h2 (.inl c)
      · exact h1 (.inl (by omega))
    · by_cases c : z < y
      · exact h2 (.inl c)
      · by_cases c' : y < x
        · exact h1 (.inl c')
        · have e1 : y = x := by omega
          have e2 : z = y := by omega
          have a1 : lexL ys xs = false := by
            cases q : lexL ys xs with
            | false => rfl
            | true => exact absurd (.inr ⟨e1, q⟩) h1
          have a2 : lexL zs ys = false := by
            cases q : lexL zs ys with
            | false => rfl
            | true => exact absurd (.inr ⟨e2, q⟩) h2
          rw [lexL_tr xs ys zs a1 a2] at h
          cases h
theorem lexL_eq : ∀ xs ys : List Int, lexL xs ys = false → lexL ys xs = false → xs = ys
  | [], [], _, _ => rfl
  | [], _ :: _, h, _ => by cases h
  | _ :: _, [], _, h => by cases h
  | x :: xs, y :: ys, h1, h2 => by
    rw [lexL_no] at h1 h2
    have e : x = y := by
      rcases Int.lt_trichotomy x y with c | c | c
      · exact absurd (.inl c) h1
      · exact c
      · exact absurd (.inl c) h2
    have a1 : lexL xs ys = false := by
      cases q : lexL xs ys with
      | false => rfl
      | true => exact absurd (.inr ⟨e, q⟩) h1
    have a2 : lexL ys xs = false := by
      cases q : lexL ys xs with
      | false => rfl
      | true => exact absurd (.inr ⟨e.symm, q⟩) h2
    rw [e, lexL_eq xs ys a1 a2]
theorem swo_lexL (k : Value → List Int) : SrtO.Swo fun v u => lexL (k v) (k u) := ⟨fun x y => lexL_asym _ _, fun x y z => lexL_tr _ _ _⟩
section
variable {prog : Program} {w : World} {A : Around} {s : Shared}
theorem lex_run {b fin : Bool} {xs : List Value} {ns : List Int} (hx : IntsAre xs ns) : ∀ {ys : List Value} {ms : List Int} (i : Nat), IntsAre ys ms → fin = decide (xs.length < ys.length) → PySem.W.KatLex prog w A b fin (fun r s' => s' = s ∧ r = lexL ns ms) (xs.zip ys) i s := by
  induction hx with
  | nil =>
    intro ys ms i hy hf
    refine PySem.W.kat_nil ⟨rfl, ?_⟩
    rw [hf]
    cases hy with
    | nil => rfl
    | cons q u hy => simp [lexL]
  | @cons p t xs ns hx ih =>
    intro ys ms i hy hf
    cases hy with
    | nil =>
      refine PySem.W.kat_nil ⟨rfl, ?_⟩
      rw [hf]
      simp [lexL]
    | @cons q u ys ms hy =>
      show PySem.W.KatLex prog w A b fin _ ((Value.int p t, Value.int q u) :: xs.zip ys) i s
      refine PySem.W.kat_cons (wpAny_eqBool_int ?_)
      by_cases e : p = q
      · subst e
        rw [beq_self_eq_true]
        refine PySem.W.kat_yes ?_
        have := ih (i + 1) hy (by rw [hf]; simp)
        rw [show lexL (p :: ns) (p :: ms) = lexL ns ms from if_pos rfl]
        exact this
      · rw [show (p == q) = false from beq_eq_false_iff_ne.mpr e]
        refine PySem.W.kat_no (TS.oneLt_ints _ ⟨rfl, ?_⟩)
        exact (if_neg e : lexL (p :: ns) (q :: ms) = _).symm
theorem lex_cmp {vs : List Value} {k : Value → List Int} (hp : ∀ v ∈ vs, TS.TupInts s.heap v (k v)) : SrtO.Cmp prog w A s (tuples' true) (fun p => p.1 ∈ vs) (SrtO.lt2 fun v u => lexL (k v) (k u)) := by
  intro p q hm hm'
  obtain ⟨a, xs, e, ⟨o, ho, hc, n, hd⟩, i1⟩ := hp _ hm
  obtain ⟨a', xs', e', ⟨o', ho', hc', n', hd'⟩, i2⟩ := hp _ hm'
  show wpAny (model prog w) A (keyLt' (tuples' true) p.1 q.1) (fun r s' => s' = s ∧ r = lexL (k p.1) (k q.1)) (fun _ _ => False) s
  generalize k p.1 = K1 at *
  generalize k q.1 = K2 at *
  rw [e, e']
  refine PySem.W.kat_lt ho hd ho' hd' ?_
  exact lex_run i1 0 i2 (by simp)
theorem lex_firsts {h : Heap} {k : Value → List Int} : ∀ vs : List Value, (∀ v ∈ vs, TS.TupInts h v (k v) ∧ k v ≠ []) → ∃ fs, PySem.W.KatTups h vs fs ∧ fs.length = vs.length ∧ ∀ f ∈ fs, ∃ n t, f = Value.int n t
  | [], _ => ⟨[], PySem.W.KatTups.nil, rfl, fun f hf => by simp at hf⟩
  | v :: vs, x => by
    obtain ⟨fs, kt, hl, hi⟩ := lex_firsts vs fun u hu => x u (List.mem_cons_of_mem _ hu)
    obtain ⟨⟨a, xs, e0, ⟨o, ho, hc, n, hdt⟩, i⟩, hn⟩ := x v List.mem_cons_self
    obtain ⟨y, ys, e⟩ : ∃ y ys, xs.toList = y :: ys := by
      cases q : xs.toList with
      | nil =>
        rw [q] at i
        have l := i.length
        rw [List.length_nil] at l
        exact absurd (List.eq_nil_of_length_eq_zero (by omega)) hn
      | cons y ys => exact ⟨y, ys, rfl⟩
    obtain ⟨m, t, hy⟩ := i.all y (by rw [e]; exact List.mem_cons_self ..)
    rw [e0]
    refine ⟨y :: fs, PySem.W.KatTups.cons ho hc hdt ?_ kt, by simp [hl], ?_⟩
    · have z := congrArg (fun l : List Value => l[0]?) e
      simpa using z
    · intro f hf
      rcases List.mem_cons.mp hf with rfl | hf
      · exact ⟨m, t, hy⟩
      · exact hi f hf
theorem lex_sortable {a : Addr} {vs : List Value} {k : Value → List Int} (h0 : 0 < vs.length) (hp : ∀ v ∈ vs, TS.TupInts s.heap v (k v) ∧ k v ≠ []) (ha : ∀ o, s.heap.get? a = some o → o.cls ≠ .type "tuple") : SrtO.SortableO prog w A s a vs fun v u => lexL (k v) (k u) := by
  intro h' keep
  have hp' : ∀ v ∈ vs, TS.TupInts h' v (k v) ∧ k v ≠ [] := fun v hm => ⟨(hp v hm).1.keeps fun b o e c => keep b o (fun z => by subst z; exact ha o e c) e, (hp v hm).2⟩
  obtain ⟨fs, h1, h2, h3⟩ := lex_firsts vs hp'
  refine ⟨tuples' true, fun Q E hq => ?_, lex_cmp fun v hv => (hp' v hv).1⟩
  refine PySem.W.kat_kind (T := .type "int") h1 (by omega) (fun f hm => ?_) (by rfl) ?_
  · obtain ⟨x, t, rfl⟩ := h3 f hm
    exact PySem.W.Looks.of_pure rfl
  · have e : (Value.type "int" != Value.type "tuple") = true := by decide +kernel
    rw [e]
    exact hq
end
def rSortedDT (K : PySem.W.Frag) : List V → Hp → VK → Prop := fun vs H Q => ∃ (a : Addr) (kvs : List (List Key × V)) (ks : List (List Int)), vs = [.ref a] ∧ H a = some (.dT kvs) ∧ kvs.map (·.1) = ks.map (List.map Sum.inl) ∧ (2 ≤ ks.length → ∀ k ∈ ks, k ≠ []) ∧
  ∀ (ls : List (List Int)) (qs : List Addr) (p : Addr), ls.Perm ks → ls.Pairwise (fun x y => lexL y x = false) → H p = none → Paired (fun q k => H q = some (.tup (k.map V.int))) qs ls → Q (.ref p) (upd H p (.lst (qs.map V.ref)))
theorem ints_vals {xs : List Int} {its : List Value} (h : Vals (xs.map V.int) its) : IntsAre its xs := by
  induction xs generalizing its with
  | nil => cases h; exact .nil
  | cons x xs ih =>
    cases h with
    | cons r t =>
      obtain ⟨t', rfl⟩ := r
      exact .cons _ _ (ih t)
theorem paired_map {α β γ : Type} {R : α → β → Prop} {f : γ → α} {g : γ → β} : ∀ l : List γ, (∀ x ∈ l, R (f x) (g x)) → Paired R (l.map f) (l.map g)
  | [], _ => .nil
  | x :: r, h => .cons (h x List.mem_cons_self) (paired_map r fun y hy => h y (List.mem_cons_of_mem _ hy))
theorem cr_sortedDT {X : Cx} (hcalm : X.calm = true) : CallR X (.builtin "sorted") (rSortedDT X.K) := by
  intro pins s σ H xs us Q I r q
  obtain ⟨a, kvs, ks, ex, hd, hks, hne, q⟩ := q
  subst ex
  obtain ⟨u, eu, rx⟩ := vals1 r
  subst eu
  cases rx
  obtain ⟨z, lo, xs, pr, o, es, ep, ho, hx, hdt, he, nd⟩ := (show ObjOk X.prog X.w H s.heap a (.dT kvs) from I.hok a _ hd)
  have l1 : es.size = xs.length := size_of_entries he
  have l2 : kvs.length = xs.length := Paired.length pr
  have l3 : kvs.length = ks.length := by
    have e := congrArg List.length hks
    rw [List.length_map, List.length_map] at e
    exact e
  refine Calls.call_function_entry PyProof.Rows.kind_sorted PyProof.Rows.plain_sorted PyProof.Rows.entry_sorted (PyProof.Rows.args_sorted1 _) ?_
  unfold Builtin.«sorted»
  refine wpAny_bind (m := checkCount "sorted" 1 1 _) (wpAny_pure ?_)
  refine wpAny_bind (PySem.W.kdu_collect (A := X.A.in1) (kdl_raw lo hx hdt) (I.ok.hd hcalm) ho (by omega) fun h' tk acc hk hacc => ?_)
  have I1 : Inv X pins σ H { s with heap := h', toks := tk } := I.kept hk
  have hal : acc.toList.length = ks.length := by rw [Array.length_toList, hacc.1]; omega
  have each : ∀ (j : Nat) (v : Value), acc.toList[j]? = some v → ∃ (b : Addr) (k : List Int), v = .ref b ∧ ks[j]? = some k ∧ H b = some (.tup (k.map V.int)) := by
    intro j v e
    obtain ⟨en, he1, e2⟩ := hacc.2 j v (by rw [← Array.getElem?_toList]; exact e)
    have hj : j < kvs.length := by
      have := (Array.getElem?_eq_some_iff.mp he1).1
      omega
    have e3 : kvs[j]? = some kvs[j] := List.getElem?_eq_getElem hj
    obtain ⟨b, hb, f1, f2, _⟩ := L2.paired_get pr e3
    have g := entry_at he j
    rw [hb] at g
    have g' : es[j]? = some (entryOfKey (tupleKind (mixKind X.prog X.w)) b) := g
    rw [he1] at g'
    have hv : v = .ref b.2.1 := by rw [e2, Option.some.inj g']; rfl
    have e4 : (kvs.map (·.1))[j]? = some (kvs[j]).1 := by rw [List.getElem?_map, e3]; rfl
    rw [hks, List.getElem?_map] at e4
    obtain ⟨k, hk1, hk2⟩ := Option.map_eq_some_iff.mp e4
    refine ⟨b.2.1, k, hv, hk1, ?_⟩
    rw [f2, ← hk2, List.map_map]
    rfl
  have ti : ∀ (b : Addr) (k : List Int), H b = some (.tup (k.map V.int)) → TS.TupInts h' (.ref b) k := fun b k hb => by
    obtain ⟨_, its, rv, it⟩ := (show ObjOk X.prog X.w H h' b (.tup (k.map V.int)) from I1.hok b _ hb)
    exact ⟨b, its.toArray, rfl, it, by simpa using ints_vals rv⟩
  have key : ∀ v ∈ acc.toList, ∃ b, v = Value.ref b ∧ TS.intsOf h' v ∈ ks ∧ H b = some (.tup ((TS.intsOf h' v).map V.int)) ∧ TS.TupInts h' v (TS.intsOf h' v) := by
    intro v hv
    obtain ⟨j, hj⟩ := List.getElem?_of_mem hv
    obtain ⟨b, k, rfl, hk1, hb⟩ := each j v hj
    have t := ti b k hb
    rw [t.ints]
    exact ⟨b, rfl, List.mem_of_getElem? hk1, hb, t⟩
  have keys : acc.toList.map (TS.intsOf h') = ks := by
    refine List.ext_getElem? fun j => ?_
    rw [List.getElem?_map]
    cases e : acc.toList[j]? with
    | none =>
      have : ks.length ≤ j := by
        have := List.getElem?_eq_none_iff.mp e
        omega
      rw [List.getElem?_eq_none this]
      rfl
    | some v =>
      obtain ⟨b, k, rfl, hk1, hb⟩ := each j v e
      rw [hk1]
      show some (TS.intsOf h' (.ref b)) = _
      rw [(ti b k hb).ints]
  refine wpAny_bind (wpAny_newList ?_ (by rw [hal]; omega))
  have hoL : (h'.push (seqObj "list" acc.toList.toArray 0)).get? h'.objs.size = some (seqObj "list" acc.toList.toArray 0) := Heap.get?_push_size _ rfl
  show wpAny _ _ _ _ _ { s with heap := h'.push (seqObj "list" acc.toList.toArray 0), toks := tk }
  refine wpAny_bind (wpAny_holding (wpAny_call_entry PyProof.Rows.slot_list_sort ⟨_, hoL, rfl⟩ PyProof.Rows.entry_list_sort
    (SrtO.list_sort_ord (s := { s with heap := h'.push (seqObj "list" acc.toList.toArray 0), toks := tk }) (ltv := fun v u => lexL (TS.intsOf h' v) (TS.intsOf h' u)) (swo_lexL _) hoL (by rw [hal]; omega) (fun h2 => ?_) fun out g1 g2 => ⟨_, rfl, ?_⟩) (PyProof.Rows.args_list_sort _)))
  · refine lex_sortable (by omega) (fun v hv => ?_) (fun o e => ?_)
    · obtain ⟨b, e, hm, hb, t⟩ := key v hv
      exact ⟨t.keeps fun c u e _ => Heap.get?_push_of_some _ e, hne (by rw [← hal]; exact h2) _ hm⟩
    · have e' : some o = some (seqObj "list" acc.toList.toArray 0) := e.symm.trans hoL
      cases e'
      intro c
      exact absurd (Value.type.inj c) (by decide)
  · obtain ⟨e', he'⟩ := PyProof.Rows.sortedHeap_at (vs := acc.toList) (out := out.toArray) hoL
    have mem : ∀ v ∈ out, ∃ b, v = Value.ref b ∧ TS.intsOf h' v ∈ ks ∧ H b = some (.tup ((TS.intsOf h' v).map V.int)) ∧ TS.TupInts h' v (TS.intsOf h' v) := fun v hv => key v (g2.perm.mem_iff.mp hv)
    have hre : ∀ v ∈ out, ∃ b, v = Value.ref b := fun v hv => by
      obtain ⟨b, e, _⟩ := mem v hv
      exact ⟨b, e⟩
    have eb : out.map bkV = (out.map fun v => match v with | .ref b => b | _ => 0).map V.ref := by
      rw [List.map_map]
      refine List.map_congr_left fun v hv => ?_
      obtain ⟨b, rfl⟩ := hre v hv
      rfl
    have hlen : (out.map bkV).length ≤ sizeLine := by
      rw [List.length_map, g2.perm.length_eq, hal]
      omega
    refine wpAny_pure ⟨_, rfl, .ref h'.objs.size, upd H h'.objs.size (.lst (out.map bkV)), I1.laid (t' := tk) (fun b u e => ?_) (Nat.le_refl _)
      (show ObjOk X.prog X.w _ _ _ (.lst (out.map bkV)) from ⟨hlen, out, e', bkV_vals hre, he'⟩), rfl, ?_⟩
    · have hb : b < h'.objs.size := Heap.lt_size e
      rw [PyProof.Rows.sortedHeap_old (Nat.ne_of_lt hb) (by rw [size_push']; exact Nat.lt_succ_of_lt hb)]
      exact Heap.get?_push_of_some _ e
    · rw [eb]
      refine q (out.map (TS.intsOf h')) _ _ ?_ ?_ (I1.hok.fresh (Nat.le_refl _)) (paired_map out fun v hv => ?_)
      · rw [← keys]
        exact g2.perm.map _
      · exact List.pairwise_map.mpr g1
      · obtain ⟨b, rfl, _, hb, _⟩ := mem v hv
        exact hb
end Mb
namespace Mb
open PySem L2
def spTakeW : Sp := fun vs H Q _ => ∃ (p : Addr) (k b : Int), vs = [.ref p, .int k] ∧ Pl H p b ∧ b ≤ 2000000 ∧ 1 ≤ k ∧ k ≤ 1000000000 ∧
  ∀ (r : Int) (H' : Hp), But p H H' → Pl H' p (b + 1) → 0 ≤ r → r < k → Q (.int r) H'
theorem pw_le {k n : Nat} (h : k ≤ n) : (100000 : Int) ^ k ≤ 100000 ^ n := by
  have h1 : (100000 : Nat) ^ k ≤ 100000 ^ n := Nat.pow_le_pow_right (by decide) h
  have e : ∀ j : Nat, (100000 : Int) ^ j = ((100000 ^ j : Nat) : Int) := fun j => by rw [Int.natCast_pow]; rfl
  rw [e, e]
  exact Int.ofNat_le.mpr h1
end Mb
namespace Mb
open PySem L2
/-! ### forms: terms, sums by their powers -/
abbrev Trm : Type := List Int × Int
def sumK (ts : List Trm) (k : List Int) : Int := ((ts.filter fun t => decide (t.1 = k)).map (·.2)).sum
theorem sumK_nil {k : List Int} : sumK [] k = 0 := rfl
theorem sumK_app {a b : List Trm} {k : List Int} : sumK (a ++ b) k = sumK a k + sumK b k := by
  unfold sumK
  rw [List.filter_append, List.map_append, List.sum_append]
theorem sumK_one {t : Trm} {k : List Int} : sumK [t] k = if t.1 = k then t.2 else 0 := by
  unfold sumK
  by_cases h : t.1 = k
  · rw [if_pos h, List.filter_cons, decide_eq_true h]
    simp
  · rw [if_neg h, List.filter_cons, decide_eq_false h]
    simp
theorem sumK_cons {t : Trm} {b : List Trm} {k : List Int} : sumK (t :: b) k = (if t.1 = k then t.2 else 0) + sumK b k := by
  rw [show t :: b = [t] ++ b from rfl, sumK_app, sumK_one]
theorem sumK_none {ts : List Trm} {k : List Int} (h : k ∉ ts.map (·.1)) : sumK ts k = 0 := by
  unfold sumK
  rw [List.filter_eq_nil_iff.mpr]
  · rfl
  · intro t ht hd
    exact h (of_decide_eq_true hd ▸ List.mem_map.mpr ⟨t, ht, rfl⟩)
def keysD (M : List Trm) : List (List Key × V) := M.map fun m => (m.1.map Sum.inl, .int m.2)
def accM (M : List Trm) (t : Trm) : List Trm := if t.1 ∈ M.map (·.1) then M.map (fun m => if m.1 = t.1 then (m.1, m.2 + t.2) else m) else M ++ [t]
def accOf (ts : List Trm) : List Trm := ts.foldl accM []
theorem acc_snoc {ts : List Trm} {t : Trm} : accOf (ts ++ [t]) = accM (accOf ts) t := by
  unfold accOf
  rw [List.foldl_append]
  rfl
theorem acc_keys {M : List Trm} {t : Trm} : (accM M t).map (·.1) = if t.1 ∈ M.map (·.1) then M.map (·.1) else M.map (·.1) ++ [t.1] := by
  unfold accM
  split
  · rw [List.map_map]
    refine List.map_congr_left fun m _ => ?_
    show (if m.1 = t.1 then (m.1, m.2 + t.2) else m).1 = m.1
    split <;> rfl
  · rw [List.map_append]
    rfl
theorem acc_len {M : List Trm} {t : Trm} : (accM M t).length ≤ M.length + 1 := by
  unfold accM
  split
  · rw [List.length_map]; omega
  · simp
theorem accs_len : ∀ (ts M : List Trm), (ts.foldl accM M).length ≤ M.length + ts.length
  | [], _ => Nat.le_refl _
  | t :: r, M => by
    have h1 := accs_len r (accM M t)
    have h2 := acc_len (M := M) (t := t)
    simp only [List.foldl_cons, List.length_cons]
    omega
structure AccOk (M ts : List Trm) : Prop where
  nd : (M.map (·.1)).Nodup
  ks : ∀ k, k ∈ M.map (·.1) ↔ k ∈ ts.map (·.1)
  sm : ∀ m ∈ M, m.2 = sumK ts m.1
theorem acc_ok1 {M ts : List Trm} {t : Trm} (h : AccOk M ts) : AccOk (accM M t) (ts ++ [t]) := by
  refine ⟨?_, fun k => ?_, fun m hm => ?_⟩
  · rw [acc_keys]
    split
    · exact h.nd
    · rename_i c
      refine List.nodup_append.mpr ⟨h.nd, List.nodup_cons.mpr ⟨List.not_mem_nil, List.nodup_nil⟩, fun a ha b hb e => ?_⟩
      rw [List.mem_singleton.mp hb] at e
      exact c (by rw [← e]; exact ha)
  · rw [acc_keys, List.map_append, List.mem_append]
    show _ ↔ _ ∨ k ∈ [t.1]
    rw [List.mem_singleton]
    split
    · rename_i c
      rw [h.ks]
      constructor
      · exact .inl
      · rintro (x | rfl)
        · exact x
        · exact (h.ks _).mp c
    · rw [List.mem_append, h.ks, List.mem_singleton]
  · rw [sumK_app, sumK_one]
    unfold accM at hm
    split at hm
    · obtain ⟨m', hm', rfl⟩ := List.mem_map.mp hm
      by_cases e : m'.1 = t.1
      · rw [if_pos e]
        show m'.2 + t.2 = sumK ts m'.1 + if t.1 = m'.1 then t.2 else 0
        rw [if_pos e.symm, h.sm m' hm']
      · rw [if_neg e, if_neg (fun x => e x.symm), h.sm m' hm', Int.add_zero]
    · rename_i c
      rcases List.mem_append.mp hm with hm | hm
      · rw [if_neg (fun x => c (by rw [x]; exact List.mem_map.mpr ⟨m, hm, rfl⟩)), h.sm m hm, Int.add_zero]
      · rw [List.mem_singleton.mp hm, if_pos rfl, sumK_none (fun x => c ((h.ks _).mpr x)), Int.zero_add]
theorem acc_okS : ∀ (b a M : List Trm), AccOk M a → AccOk (b.foldl accM M) (a ++ b)
  | [], a, M, h => by rw [List.append_nil]; exact h
  | t :: b, a, M, h => by
    have := acc_okS b (a ++ [t]) _ (acc_ok1 (t := t) h)
    rw [List.append_assoc] at this
    exact this
theorem acc_ok (ts : List Trm) : AccOk (accOf ts) ts := acc_okS ts [] [] ⟨List.nodup_nil, fun k => Iff.rfl, fun m hm => by cases hm⟩
/-- the form of terms -/
structure Fm (ts F : List Trm) : Prop where
  up : F.Pairwise fun x y => lexL x.1 y.1 = true
  mem : ∀ x : Trm, x ∈ F ↔ x.2 ≠ 0 ∧ x.2 = sumK ts x.1
theorem lexL_irr : ∀ xs : List Int, lexL xs xs = false
  | [] => rfl
  | x :: r => by
    show (if x = x then lexL r r else _) = false
    rw [if_pos rfl]
    exact lexL_irr r
theorem fm_of {ts : List Trm} {ls : List (List Int)} (hp : ls.Perm ((accOf ts).map (·.1))) (hs : ls.Pairwise fun x y => lexL y x = false) : Fm ts ((ls.map fun k => (k, sumK ts k)).filter fun t => !decide (t.2 = 0)) := by
  have ok := acc_ok ts
  have nd : ls.Nodup := hp.nodup_iff.mpr ok.nd
  have st : ls.Pairwise fun x y => lexL x y = true := by
    refine (List.Pairwise.and hs nd).imp fun {x y} h => ?_
    cases q : lexL x y with
    | true => rfl
    | false => exact absurd (lexL_eq x y q h.1) h.2
  refine ⟨List.Pairwise.filter _ (List.pairwise_map.mpr st), fun x => ?_⟩
  rw [List.mem_filter, List.mem_map]
  constructor
  · rintro ⟨⟨k, hk, rfl⟩, h⟩
    exact ⟨by simpa using h, rfl⟩
  · rintro ⟨h1, h2⟩
    refine ⟨⟨x.1, ?_, by rw [← h2]⟩, by simpa using h1⟩
    rw [hp.mem_iff, ok.ks]
    by_cases c : x.1 ∈ ts.map (·.1)
    · exact c
    · rw [sumK_none c] at h2
      exact absurd h2 h1
theorem up_uniq : ∀ {F G : List Trm}, F.Pairwise (fun x y => lexL x.1 y.1 = true) → G.Pairwise (fun x y => lexL x.1 y.1 = true) → (∀ x, x ∈ F ↔ x ∈ G) → F = G
  | [], G, _, _, h => by
    cases G with
    | nil => rfl
    | cons y G => exact absurd ((h y).mpr List.mem_cons_self) List.not_mem_nil
  | x :: F, [], _, _, h => absurd ((h x).mp List.mem_cons_self) List.not_mem_nil
  | x :: F, y :: G, h1, h2, h => by
    obtain ⟨a1, a2⟩ := List.pairwise_cons.mp h1
    obtain ⟨b1, b2⟩ := List.pairwise_cons.mp h2
    have e : x = y := by
      rcases List.mem_cons.mp ((h x).mp List.mem_cons_self) with e | hx
      · exact e
      · rcases List.mem_cons.mp ((h y).mpr List.mem_cons_self) with e | hy
        · exact e.symm
        · have := lexL_asym _ _ (b1 x hx)
          rw [a1 y hy] at this
          cases this
    subst e
    congr 1
    refine up_uniq a2 b2 fun z => ?_
    have no : ∀ {L : List Trm}, (∀ y ∈ L, lexL x.1 y.1 = true) → x ∉ L := fun hl hx => by
      have := hl x hx
      rw [lexL_irr] at this
      cases this
    constructor
    · intro hz
      rcases List.mem_cons.mp ((h z).mp (List.mem_cons_of_mem _ hz)) with e | hz'
      · rw [e] at hz
        exact absurd hz (no a1)
      · exact hz'
    · intro hz
      rcases List.mem_cons.mp ((h z).mpr (List.mem_cons_of_mem _ hz)) with e | hz'
      · rw [e] at hz
        exact absurd hz (no b1)
      · exact hz'
theorem Fm.uniq {ts us F G : List Trm} (h1 : Fm ts F) (h2 : Fm us G) (h : ∀ k, sumK ts k = sumK us k) : F = G :=
  up_uniq h1.up h2.up fun x => by rw [h1.mem, h2.mem, h]
/-- powers in m unknowns, from 0 to c -/
def OkT (m : Nat) (c : Int) (ts : List Trm) : Prop := ∀ t ∈ ts, t.1.length = m ∧ ∀ p ∈ t.1, 0 ≤ p ∧ p ≤ c
theorem Fm.ok {ts F : List Trm} {m : Nat} {c : Int} (h : Fm ts F) (k : OkT m c ts) : OkT m c F := fun x hx => by
  obtain ⟨h1, h2⟩ := (h.mem x).mp hx
  by_cases e : x.1 ∈ ts.map (·.1)
  · obtain ⟨t, ht, e⟩ := List.mem_map.mp e
    rw [← e]
    exact k t ht
  · rw [sumK_none e] at h2
    exact absurd h2 h1
theorem Fm.len {ts F : List Trm} (h : Fm ts F) : F.length ≤ ts.length := by
  have nd : (F.map (·.1)).Nodup := List.pairwise_map.mpr (h.up.imp fun {x y} q e => by
    rw [e, lexL_irr] at q
    cases q)
  have sub : ∀ k ∈ F.map (·.1), k ∈ (accOf ts).map (·.1) := fun k hk => by
    obtain ⟨x, hx, rfl⟩ := List.mem_map.mp hk
    obtain ⟨h1, h2⟩ := (h.mem x).mp hx
    rw [(acc_ok ts).ks]
    by_cases e : x.1 ∈ ts.map (·.1)
    · exact e
    · rw [sumK_none e] at h2
      exact absurd h2 h1
  have le : ∀ {A B : List (List Int)}, A.Nodup → (∀ x ∈ A, x ∈ B) → A.length ≤ B.length := by
    intro A
    induction A with
    | nil => intro B _ _; exact Nat.zero_le _
    | cons a r ih =>
      intro B nd h
      obtain ⟨h1, h2⟩ := List.nodup_cons.mp nd
      have ha := h a List.mem_cons_self
      have := ih (B := B.erase a) h2 fun x hx => (List.mem_erase_of_ne (fun e => h1 (by rw [← e]; exact hx))).mpr (h x (List.mem_cons_of_mem _ hx))
      rw [List.length_erase_of_mem ha] at this
      have := List.length_pos_of_mem ha
      rw [List.length_cons]
      omega
  have l1 := le nd sub
  rw [List.length_map, List.length_map] at l1
  have l2 := accs_len ts []
  have : accOf ts = ts.foldl accM [] := rfl
  rw [← this] at l2
  simp only [List.length_nil] at l2
  omega
/-! ### in the heap -/
def Pw (H : Hp) (q : Addr) (k : List Int) : Prop := H q = some (.tup (k.map V.int))
def Tm (H : Hp) (v : V) (t : Trm) : Prop := ∃ a q, v = .ref a ∧ H a = some (.tup [.ref q, .int t.2]) ∧ Pw H q t.1
abbrev Tms (H : Hp) (us : List V) (ts : List Trm) : Prop := Paired (Tm H) us ts
def Kt (H H' : Hp) : Prop := ∀ q xs, H q = some (.tup xs) → H' q = some (.tup xs)
theorem Kt.refl (H : Hp) : Kt H H := fun _ _ h => h
theorem Kt.trans {H H1 H2 : Hp} (a : Kt H H1) (b : Kt H1 H2) : Kt H H2 := fun q xs h => b q xs (a q xs h)
theorem Kt.same {H H' : Hp} (s : Same H H') : Kt H H' := fun q xs h => s _ _ h
theorem Kt.but {H H' : Hp} {p : Addr} {b : Int} (k : But p H H') (h : Pl H p b) : Kt H H' := fun q xs hq => by
  obtain ⟨x, y, z, e, _⟩ := h
  exact k _ _ (fun z => by rw [z, e] at hq; cases hq) hq
theorem Kt.lst {H : Hp} {p : Addr} {xs : List V} {o : HO} (h : H p = some (.lst xs)) : Kt H (upd H p o) := fun q ys hq => by
  rw [upd_ne (fun z => by rw [z, h] at hq; cases hq)]
  exact hq
theorem Kt.dT {H : Hp} {p : Addr} {kvs : List (List Key × V)} {o : HO} (h : H p = some (.dT kvs)) : Kt H (upd H p o) := fun q ys hq => by
  rw [upd_ne (fun z => by rw [z, h] at hq; cases hq)]
  exact hq
theorem Tm.kt {H H' : Hp} (s : Kt H H') {v : V} {t : Trm} (h : Tm H v t) : Tm H' v t := by
  obtain ⟨a, q, e, h1, h2⟩ := h
  exact ⟨a, q, e, s _ _ h1, s _ _ h2⟩
theorem _root_.PySem.Paired.tmk {H H' : Hp} (s : Kt H H') {us : List V} {ts : List Trm} (h : Tms H us ts) : Tms H' us ts := Paired.mapP h fun _ _ h => Tm.kt s h
theorem Tms.at {H : Hp} {us : List V} {ts : List Trm} {i : Nat} {v : V} (h : Tms H us ts) (hi : us[i]? = some v) : ∃ t, ts[i]? = some t ∧ Tm H v t := LiI.paired_get h hi
theorem tms_snoc {H : Hp} {v : V} {t : Trm} : ∀ {us : List V} {ts : List Trm}, Tms H us ts → Tm H v t → Tms H (us ++ [v]) (ts ++ [t])
  | _, _, .nil, h => .cons h .nil
  | _, _, .cons a r, h => .cons a (tms_snoc r h)
def FmAt (H : Hp) (f : Addr) (F : List Trm) : Prop := ∃ us, H f = some (.tup us) ∧ Tms H us F
theorem FmAt.kt {H H' : Hp} {f : Addr} {F : List Trm} (s : Kt H H') (h : FmAt H f F) : FmAt H' f F := by
  obtain ⟨us, h1, h2⟩ := h
  exact ⟨us, s _ _ h1, h2.tmk s⟩
theorem inl_inj {a b : List Int} (h : a.map (Sum.inl : Int → Key) = b.map Sum.inl) : a = b := by
  induction a generalizing b with
  | nil => cases b with
    | nil => rfl
    | cons y b => cases h
  | cons x a ih => cases b with
    | nil => cases h
    | cons y b =>
      rw [List.map_cons, List.map_cons] at h
      obtain ⟨h1, h2⟩ := List.cons.inj h
      rw [Sum.inl.inj h1, ih h2]
theorem keysD_any {M : List Trm} {k : List Int} : ((keysD M).any fun kv => decide (kv.1 = k.map Sum.inl)) = decide (k ∈ M.map (·.1)) := by
  unfold keysD
  rw [List.any_map]
  induction M with
  | nil => rfl
  | cons m r ih =>
    rw [List.any_cons, ih]
    by_cases h : m.1 = k
    · subst h; simp
    · have h1 : ¬ (m.1.map (Sum.inl : Int → Key) = k.map Sum.inl) := fun e => h (inl_inj e)
      have h2 : ¬ k = m.1 := fun e => h e.symm
      simp [h1, h2]
theorem keysD_get {M : List Trm} {k : List Int} (nd : (M.map (·.1)).Nodup) (z : Int) : ((valV (keysD M) (k.map Sum.inl)).getD (.int z)) = .int (match M.find? (fun m => decide (m.1 = k)) with | some m => m.2 | none => z) := by
  unfold valV keysD
  induction M with
  | nil => rfl
  | cons m r ih =>
    rw [List.map_cons, List.find?_cons, List.find?_cons]
    by_cases h : m.1 = k
    · subst h; simp
    · have h1 : ¬ (m.1.map (Sum.inl : Int → Key) = k.map Sum.inl) := fun e => h (inl_inj e)
      simp only [h, h1, decide_false]
      exact ih (List.nodup_cons.mp nd).2
theorem find_none {M : List Trm} {k : List Int} (h : k ∉ M.map (·.1)) : M.find? (fun m => decide (m.1 = k)) = none := by
  rw [List.find?_eq_none]
  intro m hm hd
  exact h (of_decide_eq_true hd ▸ List.mem_map.mpr ⟨m, hm, rfl⟩)
theorem find_some {M : List Trm} {m : Trm} (nd : (M.map (·.1)).Nodup) (hm : m ∈ M) : M.find? (fun x => decide (x.1 = m.1)) = some m := by
  induction M with
  | nil => cases hm
  | cons a r ih =>
    rw [List.find?_cons]
    obtain ⟨h1, h2⟩ := List.nodup_cons.mp nd
    rcases List.mem_cons.mp hm with rfl | hm
    · rw [decide_eq_true rfl]
    · rw [decide_eq_false (fun e => h1 (List.mem_map.mpr ⟨m, hm, e.symm⟩))]
      exact ih h2 hm
/-- one term more in the dict -/
theorem keysD_put {M : List Trm} {t : Trm} (nd : (M.map (·.1)).Nodup) : putK (keysD M) (t.1.map Sum.inl) (.int ((match M.find? (fun m => decide (m.1 = t.1)) with | some m => m.2 | none => 0) + t.2)) = keysD (accM M t) := by
  unfold putK accM
  rw [keysD_any]
  by_cases h : t.1 ∈ M.map (·.1)
  · rw [if_pos (by simpa using h), if_pos h]
    obtain ⟨m0, hm0, e0⟩ := List.mem_map.mp h
    have hf := find_some nd hm0
    rw [e0] at hf
    rw [hf]
    unfold keysD
    rw [List.map_map, List.map_map]
    refine List.map_congr_left fun m hm => ?_
    show (if m.1.map (Sum.inl : Int → Key) = t.1.map Sum.inl then (m.1.map (Sum.inl : Int → Key), V.int (m0.2 + t.2)) else (m.1.map Sum.inl, .int m.2)) = _
    by_cases c : m.1 = t.1
    · rw [if_pos (by rw [c])]
      have : m = m0 := by
        have h1 := find_some nd hm
        rw [c, hf] at h1
        exact (Option.some.inj h1).symm
      show _ = ((if m.1 = t.1 then (m.1, m.2 + t.2) else m).1.map (Sum.inl : Int → Key), V.int (if m.1 = t.1 then (m.1, m.2 + t.2) else m).2)
      rw [if_pos c, this]
    · rw [if_neg (fun e => c (inl_inj e))]
      show _ = ((if m.1 = t.1 then (m.1, m.2 + t.2) else m).1.map (Sum.inl : Int → Key), V.int (if m.1 = t.1 then (m.1, m.2 + t.2) else m).2)
      rw [if_neg c]
  · rw [if_neg (by simpa using h), if_neg h, find_none h]
    unfold keysD
    rw [List.map_append, List.map_cons, List.map_nil, Int.zero_add]
theorem keysD_keys {M : List Trm} : (keysD M).map (·.1) = (M.map (·.1)).map (List.map Sum.inl) := by
  unfold keysD
  rw [List.map_map, List.map_map]
  rfl
def spSummed (K : PySem.W.Frag) : Sp := fun vs H Q _ => ∃ (l : Addr) (us : List V) (ts : List Trm) (m : Nat) (c : Int), vs = [.ref l] ∧ SqL K H l us ∧ Tms H us ts ∧ OkT m c ts ∧ ts.length ≤ 200000 ∧
  ∀ (f : Addr) (F : List Trm) (H' : Hp), Same H H' → H f = none → FmAt H' f F → Fm ts F → Q (.ref f) H'
theorem intV {a b : List Int} (h : a.map V.int = b.map V.int) : a = b := by
  induction a generalizing b with
  | nil => cases b with
    | nil => rfl
    | cons y b => cases h
  | cons x a ih => cases b with
    | nil => cases h
    | cons y b =>
      rw [List.map_cons, List.map_cons] at h
      obtain ⟨h1, h2⟩ := List.cons.inj h
      rw [V.int.inj h1, ih h2]
theorem pw_key {H : Hp} {q : Addr} {k : List Int} (h : Pw H q k) : H q = some (.tup ((k.map (Sum.inl : Int → Key)).map kV)) := by
  rw [h, List.map_map]
  rfl
theorem few_keys {ts : List Trm} {m : Nat} {c : Int} (ok : OkT m c ts) : 2 ≤ ((accOf ts).map (·.1)).length → ∀ k ∈ (accOf ts).map (·.1), k ≠ [] := by
  intro h2 k hk e
  have a := acc_ok ts
  have len : ∀ k ∈ (accOf ts).map (·.1), k.length = m := fun k hk => by
    obtain ⟨t, ht, e⟩ := List.mem_map.mp ((a.ks k).mp hk)
    rw [← e]
    exact (ok t ht).1
  have m0 : m = 0 := by rw [← len k hk, e]; rfl
  have all : ∀ k ∈ (accOf ts).map (·.1), k = [] := fun k hk => List.eq_nil_of_length_eq_zero (by rw [len k hk, m0])
  have nd := a.nd
  generalize (accOf ts).map (·.1) = L at *
  match L, h2, nd with
  | x :: y :: r, _, nd =>
    refine (List.nodup_cons.mp nd).1 ?_
    rw [all x List.mem_cons_self, all y (List.mem_cons_of_mem _ List.mem_cons_self)]
    exact List.mem_cons_self
end Mb
namespace Mb
open PySem L2
theorem u0 {n : Nat} (h : n + 64 < cLine) : n < cLine := by omega
theorem r_dget2 {td ty tx : TE} {σ : St} {H : Hp} {Q : VK} (q : td σ H fun x H1 => ∃ a, x = .ref a ∧ IsD H1 a ∧ ty σ H1 fun y H2 => tx σ H2 fun z H3 => ∃ o, DGet H3 a y o ∧ Q (o.getD z) H3) : tDGet2 td ty tx σ H Q := q
theorem keysD_val {ts : List Trm} {k : List Int} (h : k ∈ (accOf ts).map (·.1)) : valV (keysD (accOf ts)) (k.map Sum.inl) = some (.int (sumK ts k)) := by
  have a := acc_ok ts
  obtain ⟨m, hm, e⟩ := List.mem_map.mp h
  have e' : m.1 = k := e
  subst e'
  have g := keysD_get (M := accOf ts) (k := m.1) a.nd 0
  rw [find_some a.nd hm, show (match some m with | some m => m.2 | none => 0) = m.2 from rfl, a.sm m hm] at g
  cases v : valV (keysD (accOf ts)) (m.1.map Sum.inl) with
  | none =>
    unfold valV at v
    have hn : (keysD (accOf ts)).find? (fun kv => decide (kv.1 = m.1.map Sum.inl)) = none := by
      cases q : (keysD (accOf ts)).find? (fun kv => decide (kv.1 = m.1.map Sum.inl)) with
      | none => rfl
      | some x => rw [q] at v; cases v
    have := List.find?_eq_none.mp hn (m.1.map Sum.inl, .int m.2) (List.mem_map.mpr ⟨m, hm, rfl⟩)
    simp at this
  | some x =>
    rw [v] at g
    exact congrArg some g
theorem lc_form {K : PySem.W.Frag} {j : Nat} {tt : TT} {te : TE} {σ : St} {Q : VK} {l : Addr} {qs : List Addr} {ls : List (List Int)} {H : Hp} (val : List Int → Int) (hl : SqL K H l (qs.map V.ref)) (few : ls.length ≤ 10000000) (hσ : ∀ v, wipe ((wipe σ [j]).set j (some v)) [j] = wipe σ [j])
    (hq : Paired (fun q k => Pw H q k) qs ls)
    (stT : ∀ (q : Addr) (k : List Int) (H' : Hp), k ∈ ls → Pw H' q k → Same H H' → ∀ R : Bool → Hp → Prop, (∀ H4, Same H' H4 → R (!decide (val k = 0)) H4) → tt ((wipe σ [j]).set j (some (.ref q))) H' R)
    (stE : ∀ (q : Addr) (k : List Int) (H' : Hp), k ∈ ls → Pw H' q k → Same H H' → ∀ R : VK, (∀ (a : Addr) (H4 : Hp), Same H' H4 → H4 a = some (.tup [.ref q, .int (val k)]) → R (.ref a) H4) → te ((wipe σ [j]).set j (some (.ref q))) H' R)
    (fin : ∀ (D : Addr) (us : List V) (H' : Hp), Same H H' → H D = none → H' D = some (.lst us) → Tms H' us ((ls.map fun k => (k, val k)).filter fun t => !decide (t.2 = 0)) → Q (.ref D) H') : lcL K (gName j) tt te [j] σ Q (.ref l) H := by
  refine ⟨l, rfl, ⟨_, hl⟩, fun D hD => ?_⟩
  have lq : qs.length = ls.length := Paired.length hq
  refine lc_list (xs := qs.map V.ref) (fun i H' => ∃ us : List V, Same H H' ∧ H' D = some (.lst us) ∧ us.length ≤ i ∧ Tms H' us (((ls.take i).map fun k => (k, val k)).filter fun t => !decide (t.2 = 0))) ⟨[], same_new hD _, upd_same, Nat.le_refl _, by rw [List.take_zero]; exact .nil⟩ (fun i H' _ h => by obtain ⟨_, h, _⟩ := h; exact h.seq hl) ?_ ?_
  · rintro i x H' hx ⟨us, g, d, lu, tm⟩
    rw [List.getElem?_map] at hx
    obtain ⟨q, hqi, rfl⟩ := Option.map_eq_some_iff.mp hx
    obtain ⟨k, hk, pw⟩ := LiI.paired_get hq hqi
    have hi : i < ls.length := (List.getElem?_eq_some_iff.mp hk).1
    have hm := List.mem_of_getElem? hk
    have e1 : ls.take (i + 1) = ls.take i ++ [k] := by rw [List.take_succ, hk, Option.toList_some]
    have pw' : Pw H' q k := g _ _ pw
    refine ⟨hσ _, ?_⟩
    refine stT q k H' hm pw' g _ fun H3 g3 => ?_
    rw [e1, List.map_append, List.filter_append, List.map_cons, List.map_nil, List.filter_cons]
    cases hk0 : decide (val k = 0) with
    | true =>
      simp only [Bool.not_true, Bool.false_eq_true, if_false, List.filter_nil, List.append_nil]
      exact ⟨us, g.trans g3, g3 _ _ d, by omega, tm.tmk (Kt.same g3)⟩
    | false =>
      simp only [Bool.not_false, if_true, List.filter_nil]
      refine stE q k H3 hm (g3 _ _ pw') (g.trans g3) _ fun a H4 g4 ta => ?_
      have d4 := g4 _ _ (g3 _ _ d)
      have kt : Kt H4 (upd H4 D (.lst (us ++ [.ref a]))) := Kt.lst d4
      refine ⟨_, d4, Nat.lt_of_le_of_lt (show us.length ≤ 10000000 by omega) (by decide), us ++ [.ref a], same_updS ((g.trans g3).trans g4) hD, upd_same, by simp; omega, ?_⟩
      exact tms_snoc (((tm.tmk (Kt.same g3)).tmk (Kt.same g4)).tmk kt) ⟨a, q, rfl, kt _ _ ta, kt _ _ (g4 _ _ (g3 _ _ pw'))⟩
  · rintro H' ⟨us, g, d, _, tm⟩
    rw [List.length_map, lq, List.take_length] at tm
    exact fin D us H' g hD d tm
end Mb
namespace Mb
open PySem L2
def spGathered (K : PySem.W.Frag) : Sp := fun vs H Q _ => ∃ (i : Int) (l : Addr) (us : List V) (ts : List Trm) (m : Nat) (c : Int), vs = [.int i, .ref l] ∧ SqL K H l us ∧ Tms H us ts ∧ OkT m c ts ∧ ts.length ≤ 4000 ∧
  ∀ (f : Addr) (F : List Trm) (H' : Hp), Same H H' → H f = none → FmAt H' f F → Fm ts F → Q (.ref f) H'
def spNum : Sp := fun vs H Q _ => ∃ (p : Addr) (b : Int), vs = [.ref p] ∧ Pl H p b ∧ b ≤ 1900000 ∧
  ∀ (n : Int) (H' : Hp), But p H H' → Pl H' p (b + 14) → n.natAbs < 10 ^ 60 → Q (.int n) H'
def spTerms (K : PySem.W.Frag) : Sp := fun vs H Q _ => ∃ (p : Addr) (m most : Nat) (b : Int), vs = [.ref p, .int (m : Int), .int (most : Int)] ∧ Pl H p b ∧ b ≤ 1800000 ∧ m ≤ 7 ∧ most ≤ 60 ∧
  ∀ (l : Addr) (us : List V) (ts : List Trm) (H' : Hp), But p H H' → Pl H' p (b + 3000) → H l = none → H' l = some (.lst us) → Tms H' us ts → OkT m 12 ts → ts.length ≤ most → (∀ t ∈ ts, t.2.natAbs < 10 ^ 60) → Q (.ref l) H'
theorem pw_step {n : Int} {k : Nat} {r : Int} (h0 : 0 ≤ n) (h1 : n < 100000 ^ k) (r0 : 0 ≤ r) (r1 : r < 100000) : 0 ≤ n * 100000 + r ∧ n * 100000 + r < 100000 ^ (k + 1) := by
  rw [Int.pow_succ]
  constructor <;> omega
theorem lexLt_eq : ∀ xs ys : List Int, HT.lexLt xs ys = lexL xs ys
  | [], [] => rfl
  | [], _ :: _ => rfl
  | _ :: _, [] => rfl
  | x :: xs, y :: ys => by
    show (if x = y then HT.lexLt xs ys else decide (x < y)) = (if x = y then lexL xs ys else decide (x < y))
    rw [lexLt_eq xs ys]
/-- what the law asks of a form -/
structure Good (m : Nat) (F : List Trm) : Prop where
  up : F.Pairwise fun x y => lexL x.1 y.1 = true
  nz : ∀ x ∈ F, x.2 ≠ 0
  len : ∀ x ∈ F, x.1.length = m
  pos : ∀ x ∈ F, ∀ p ∈ x.1, 0 ≤ p
theorem Fm.good {ts F : List Trm} {m : Nat} {c : Int} (h : Fm ts F) (k : OkT m c ts) : Good m F :=
  ⟨h.up, fun x hx => ((h.mem x).mp hx).1, fun x hx => (h.ok k x hx).1, fun x hx p hp => ((h.ok k x hx).2 p hp).1⟩
def spFormG (K : PySem.W.Frag) : Sp := fun vs H Q _ => ∃ (f : Addr) (m : Nat) (F : List Trm), vs = [.ref f, .int (m : Int)] ∧ FmAt H f F ∧ Good m F ∧ F.length ≤ 4000 ∧ m ≤ 60 ∧ Q (.bl true) H
def spAlikeF (K : PySem.W.Frag) : Sp := fun vs H Q _ => ∃ (f g : Addr) (m : Nat) (F : List Trm), vs = [.ref f, .int (m : Int), .ref g] ∧ FmAt H f F ∧ FmAt H g F ∧ Good m F ∧ F.length ≤ 4000 ∧ m ≤ 60 ∧ Q (.bl true) H
theorem Tm.dp {K : PySem.W.Frag} {H : Hp} {v : V} {t : Trm} (h : Tm H v t) : Dp K H v (.tuple [.tuple (t.1.map PyData.int), .int t.2]) := by
  obtain ⟨a, q, rfl, h1, h2⟩ := h
  exact .tup (tupOf h1) (.cons (.tup (tupOf h2) (dpAll_ints _)) (.cons (.int _) .nil))
theorem _root_.PySem.Paired.tdp {K : PySem.W.Frag} {H : Hp} : ∀ {us : List V} {ts : List Trm}, Tms H us ts → DpAll K H us (ts.map fun t => .tuple [.tuple (t.1.map PyData.int), .int t.2])
  | _, _, .nil => .nil
  | _, _, .cons h r => .cons (Tm.dp h) (PySem.Paired.tdp r)
theorem tms_lay : ∀ ts : List Trm, PyData.canLayAll0 (ts.map fun t => .tuple [.tuple (t.1.map PyData.int), .int t.2]) = true ∧ PyData.depthAll (ts.map fun t => .tuple [.tuple (t.1.map PyData.int), .int t.2]) ≤ 10
  | [] => ⟨rfl, by decide⟩
  | t :: r => by
    obtain ⟨h1, h2⟩ := tms_lay r
    obtain ⟨g1, g2⟩ := lay_ints t.1
    rw [List.map_cons]
    refine ⟨?_, ?_⟩
    · unfold PyData.canLayAll0
      simp only [PyData.canLay0, PyData.canLayAll0, g1, h1, Bool.and_self]
    · unfold PyData.depthAll
      simp only [PyData.depth, PyData.depthAll]
      omega
theorem tms_sh (ts : List Trm) : (SeqAt.shaped (.list (ts.map fun t => .tuple [.tuple (t.1.map PyData.int), .int t.2])) = true ∧ SeqAt.shaped (.tuple (ts.map fun t => .tuple [.tuple (t.1.map PyData.int), .int t.2])) = true) ∧ PyData.canLay0 (.list (ts.map fun t => .tuple [.tuple (t.1.map PyData.int), .int t.2])) = true ∧ PyData.canLay0 (.tuple (ts.map fun t => .tuple [.tuple (t.1.map PyData.int), .int t.2])) = true := by
  obtain ⟨h1, h2⟩ := tms_lay ts
  have e1 : PyData.canLay0 (.list (ts.map fun t => .tuple [.tuple (t.1.map PyData.int), .int t.2])) = true := by unfold PyData.canLay0; exact h1
  have e2 : PyData.canLay0 (.tuple (ts.map fun t => .tuple [.tuple (t.1.map PyData.int), .int t.2])) = true := by unfold PyData.canLay0; exact h1
  have d1 : PyData.depth (.list (ts.map fun t => .tuple [.tuple (t.1.map PyData.int), .int t.2])) ≤ 64 := by unfold PyData.depth; omega
  have d2 : PyData.depth (.tuple (ts.map fun t => .tuple [.tuple (t.1.map PyData.int), .int t.2])) ≤ 64 := by unfold PyData.depth; omega
  refine ⟨⟨?_, ?_⟩, e1, e2⟩
  · unfold SeqAt.shaped
    rw [e1, decide_eq_true d1]
    rfl
  · unfold SeqAt.shaped
    rw [e2, decide_eq_true d2]
    rfl
theorem r_eqForm {K : PySem.W.Frag} {H : Hp} {Q : VK} {f g : Addr} {F : List Trm} (h1 : FmAt H f F) (h2 : FmAt H g F) (k : Q (.bl true) H) : rEqD K (.ref f) (.ref g) H Q := by
  obtain ⟨us, a1, a2⟩ := h1
  obtain ⟨vs, b1, b2⟩ := h2
  obtain ⟨⟨_, s⟩, _, c⟩ := tms_sh F
  refine ⟨_, _, .tup (tupOf a1) a2.tdp, .tup (tupOf b1) b2.tdp, s, s, ?_⟩
  rw [SeqAt.eqv_refl _ c]
  exact k
theorem r_neForm {K : PySem.W.Frag} {H : Hp} {Q : VK} {f g : Addr} {F : List Trm} (h1 : FmAt H f F) (h2 : FmAt H g F) (k : Q (.bl false) H) : rNeD K (.ref f) (.ref g) H Q := by
  obtain ⟨us, a1, a2⟩ := h1
  obtain ⟨vs, b1, b2⟩ := h2
  obtain ⟨⟨_, s⟩, _, c⟩ := tms_sh F
  refine ⟨_, _, .tup (tupOf a1) a2.tdp, .tup (tupOf b1) b2.tdp, s, s, ?_⟩
  rw [SeqAt.eqv_refl _ c]
  exact k
theorem r_neTms {K : PySem.W.Frag} {H : Hp} {Q : VK} {a b : Addr} {us : List V} {ts : List Trm} (h1 : SqL K H a us) (h2 : SqL K H b us) (tm : Tms H us ts) (k : Q (.bl false) H) : rNeD K (.ref a) (.ref b) H Q := by
  obtain ⟨⟨s, _⟩, c, _⟩ := tms_sh ts
  refine ⟨_, _, .lst h1 tm.tdp, .lst h2 tm.tdp, s, s, ?_⟩
  rw [SeqAt.eqv_refl _ c]
  exact k
end Mb
namespace Mb
open PySem PySem.Spec PyProof.Rows L2
/-! ### max(ints, default=d) -/
def maxOf (ns : List Int) (d : Int) : Int := match ns with
  | [] => d
  | y :: ys => ys.foldl max y
def rMaxDf (K : PySem.W.Frag) : List V → List V → Hp → VK → Prop := fun xs zs H Q => ∃ (a : Addr) (ns : List Int) (d : Int), xs = [.ref a] ∧ zs = [.int d] ∧ (SqL K H a (ns.map V.int) ∨ SqT K H a (ns.map V.int)) ∧ Q (.int (maxOf ns d)) H
theorem reads_ints {h : Heap} {vs : List Value} {ns : List Int} (x : IntsAre vs ns) : ∃ as, ReadsAll h vs (ns.map PyData.int) as := by
  induction x with
  | nil => exact ⟨[], .nil⟩
  | cons n t _ ih =>
    obtain ⟨as, r⟩ := ih
    exact ⟨[] ++ as, .cons (.int n t) r⟩
theorem alike_ints (ns : List Int) : PySem.W.AlikeAll (ns.map PyData.int) := by
  refine ⟨fun x hx y hy => ?_, fun x hx => ?_⟩
  · obtain ⟨i, _, rfl⟩ := List.mem_map.mp hx
    obtain ⟨j, _, rfl⟩ := List.mem_map.mp hy
    rfl
  · obtain ⟨i, _, rfl⟩ := List.mem_map.mp hx
    exact fun e => nomatch e
theorem ints_data {y : PyData} {ys : List PyData} {ns : List Int} (e : ns.map PyData.int = y :: ys) : ∃ n ms, ns = n :: ms ∧ y = .int n ∧ ys = ms.map PyData.int := by
  cases ns with
  | nil => cases e
  | cons n ms =>
    obtain ⟨h1, h2⟩ := List.cons.inj e
    exact ⟨n, ms, rfl, h1.symm, h2.symm⟩
theorem cr_maxDf {X : Cx} (hc : X.calm = true) (hu : X.A.units + 64 < cLine) : CallRK X (.builtin "max") ["default"] (rMaxDf X.K) := by
  intro pins s σ H xs zs us ws Q I r1 r2 h
  obtain ⟨a, ns, d, rfl, rfl, hs, q⟩ := h
  obtain ⟨u, rfl, ru⟩ := vals1 r1
  obtain ⟨w', rfl, rw'⟩ := vals1 r2
  obtain rfl : u = Value.ref a := ru
  obtain ⟨t, rfl⟩ := rw'
  have dd : X.A.units + 1 + PyData.depthAll (ns.map PyData.int) < cLine := by
    have := (lay_ints ns).2
    omega
  have hh := I.ok.hd hc
  have nil : ns.map PyData.int = [] → ∀ (h' : Heap) (tk : Nat), (∀ b o, s.heap.get? b = some o → h'.get? b = some o) → EP X pins σ Q (.int d t) { s with heap := h', toks := tk } := fun e h' tk hk => by
    have e0 : ns = [] := by
      cases ns with
      | nil => rfl
      | cons _ _ => cases e
    subst e0
    exact ⟨.int d, H, I.kept hk, ⟨_, rfl⟩, q⟩
  have some_ : ∀ (y : PyData) (ys : List PyData) (v : Value) (h' : Heap) (tk : Nat) (bs : List Addr), ns.map PyData.int = y :: ys → Reads h' v (PySem.W.maxD y ys) bs → (∀ b o, s.heap.get? b = some o → h'.get? b = some o) → EP X pins σ Q v { s with heap := h', toks := tk } := fun y ys v h' tk bs e r hk => by
    obtain ⟨n, ms, rfl, rfl, rfl⟩ := ints_data e
    rw [PySem.W.maxD_ints] at r
    cases r with
    | int i t' => exact ⟨.int _, H, I.kept hk, ⟨_, rfl⟩, q⟩
  rcases hs with hs | hs
  · obtain ⟨its, rv, hl, _⟩ := I.list hs
    obtain ⟨as, ra⟩ := reads_ints (h := s.heap) rv.ints
    exact PySem.W.max_list_default hh hl.isList ra (alike_ints ns) dd (fun e h' tk hk => nil e h' tk hk) fun y ys i v h' tk bs e _ r hk => some_ y ys v h' tk bs e r hk
  · obtain ⟨its, rv, hl, _⟩ := I.tuple hs
    obtain ⟨as, ra⟩ := reads_ints (h := s.heap) rv.ints
    exact PySem.W.max_tuple_default hh (show s.heap.IsTuple a its.toArray from hl) ra (alike_ints ns) dd (fun e h' tk hk => nil e h' tk hk) fun y ys i v h' tk bs e _ r hk => some_ y ys v h' tk bs e r hk
end Mb
namespace Mb
open PySem L2
/-! ### a number put in -/
/-- what the terms weigh by a measure of their powers -/
def wsum (φ : List Int → Int) (ts : List Trm) : Int := (ts.map fun t => t.2 * φ t.1).sum
theorem wsum_cons {φ : List Int → Int} {t : Trm} {ts : List Trm} : wsum φ (t :: ts) = t.2 * φ t.1 + wsum φ ts := rfl
theorem wsum_app {φ : List Int → Int} : ∀ (a b : List Trm), wsum φ (a ++ b) = wsum φ a + wsum φ b
  | [], b => by show wsum φ b = 0 + wsum φ b; omega
  | t :: a, b => by
    rw [List.cons_append, wsum_cons, wsum_cons, wsum_app a b]
    omega
theorem wsum_split {φ : List Int → Int} (k : List Int) : ∀ ts : List Trm, wsum φ ts = sumK ts k * φ k + wsum φ (ts.filter fun t => !decide (t.1 = k))
  | [] => by show (0 : Int) = 0 * φ k + 0; omega
  | t :: r => by
    rw [wsum_cons, wsum_split k r, sumK_cons, List.filter_cons]
    by_cases h : t.1 = k
    · rw [if_pos h, if_neg (by simp [h]), h, Int.add_mul]
      omega
    · rw [if_neg h, if_pos (by simp [h]), wsum_cons, Int.zero_add]
      omega
theorem sumK_filter {ts : List Trm} {k j : List Int} : sumK (ts.filter fun t => !decide (t.1 = k)) j = if j = k then 0 else sumK ts j := by
  by_cases h : j = k
  · rw [if_pos h]
    refine sumK_none fun hm => ?_
    obtain ⟨t, ht, e⟩ := List.mem_map.mp hm
    have := (List.mem_filter.mp ht).2
    have e' : t.1 = j := e
    rw [e', h] at this
    simp at this
  · rw [if_neg h]
    unfold sumK
    rw [List.filter_filter]
    congr 2
    refine List.filter_congr fun t _ => ?_
    by_cases c : t.1 = j
    · simp [c, h]
    · simp [c]
theorem wsum_zero (φ : List Int → Int) : ∀ (n : Nat) (ts : List Trm), ts.length ≤ n → (∀ k, sumK ts k = 0) → wsum φ ts = 0
  | _, [], _, _ => rfl
  | n + 1, t :: r, hn, h => by
    rw [wsum_split t.1, h t.1, Int.zero_mul, Int.zero_add]
    refine wsum_zero φ n _ ?_ fun k => by
      rw [sumK_filter]
      split
      · rfl
      · exact h k
    rw [List.filter_cons, if_neg (by simp)]
    have := List.length_filter_le (fun u : Trm => !decide (u.1 = t.1)) r
    simp only [List.length_cons] at hn
    omega
def negT (ts : List Trm) : List Trm := ts.map fun t => (t.1, -t.2)
theorem sumK_neg {ts : List Trm} {k : List Int} : sumK (negT ts) k = -sumK ts k := by
  induction ts with
  | nil => rfl
  | cons t r ih =>
    show sumK ((t.1, -t.2) :: negT r) k = _
    rw [sumK_cons, sumK_cons, ih]
    show (if t.1 = k then -t.2 else 0) + -sumK r k = _
    split <;> omega
theorem wsum_neg {φ : List Int → Int} {ts : List Trm} : wsum φ (negT ts) = -wsum φ ts := by
  induction ts with
  | nil => rfl
  | cons t r ih =>
    show wsum φ ((t.1, -t.2) :: negT r) = _
    rw [wsum_cons, wsum_cons, ih]
    show -t.2 * φ t.1 + _ = _
    rw [Int.neg_mul]
    omega
/-- it hangs on the sums alone -/
theorem wsum_same {φ : List Int → Int} {a b : List Trm} (h : ∀ k, sumK a k = sumK b k) : wsum φ a = wsum φ b := by
  have := wsum_zero φ _ (a ++ negT b) (Nat.le_refl _) fun k => by
    rw [sumK_app, sumK_neg, h k]
    omega
  rw [wsum_app, wsum_neg] at this
  omega
def putT (a : Nat) (n : Int) (ts : List Trm) : List Trm := ts.map fun t => (t.1.set a 0, t.2 * n ^ (t.1.getD a 0).toNat)
theorem sumK_put {a : Nat} {n : Int} {ts : List Trm} {k : List Int} : sumK (putT a n ts) k = wsum (fun p => if p.set a 0 = k then n ^ (p.getD a 0).toNat else 0) ts := by
  induction ts with
  | nil => rfl
  | cons t r ih =>
    show sumK ((t.1.set a 0, t.2 * n ^ (t.1.getD a 0).toNat) :: putT a n r) k = _
    rw [sumK_cons, wsum_cons, ih]
    show (if t.1.set a 0 = k then t.2 * n ^ (t.1.getD a 0).toNat else 0) + _ = t.2 * (if t.1.set a 0 = k then n ^ (t.1.getD a 0).toNat else 0) + _
    split
    · rfl
    · rw [Int.mul_zero]
theorem put_same {a : Nat} {n : Int} {A B : List Trm} (h : ∀ k, sumK A k = sumK B k) (k : List Int) : sumK (putT a n A) k = sumK (putT a n B) k := by
  rw [sumK_put, sumK_put, wsum_same h]
theorem uniq_sum {F : List Trm} (nd : (F.map (·.1)).Nodup) : ∀ x ∈ F, sumK F x.1 = x.2 := by
  induction F with
  | nil => intro x hx; cases hx
  | cons t r ih =>
    intro x hx
    obtain ⟨h1, h2⟩ := List.nodup_cons.mp nd
    rw [sumK_cons]
    rcases List.mem_cons.mp hx with rfl | hx
    · rw [if_pos rfl, sumK_none h1, Int.add_zero]
    · rw [if_neg (fun e => h1 (List.mem_map.mpr ⟨x, hx, e.symm⟩)), ih h2 x hx, Int.zero_add]
theorem up_nd {F : List Trm} (h : F.Pairwise fun x y => lexL x.1 y.1 = true) : (F.map (·.1)).Nodup := List.pairwise_map.mpr (h.imp fun {x y} q e => by
  rw [e, lexL_irr] at q
  cases q)
theorem Fm.sum {ts F : List Trm} (h : Fm ts F) (k : List Int) : sumK F k = sumK ts k := by
  by_cases c : k ∈ F.map (·.1)
  · obtain ⟨x, hx, e⟩ := List.mem_map.mp c
    have e' : x.1 = k := e
    rw [← e', uniq_sum (up_nd h.up) x hx]
    exact ((h.mem x).mp hx).2
  · rw [sumK_none c]
    by_cases z : sumK ts k = 0
    · exact z.symm
    · exact absurd (List.mem_map.mpr ⟨(k, sumK ts k), (h.mem _).mpr ⟨z, rfl⟩, rfl⟩) c
theorem fm_self {F : List Trm} (up : F.Pairwise fun x y => lexL x.1 y.1 = true) (nz : ∀ x ∈ F, x.2 ≠ 0) : Fm F F :=
  ⟨up, fun x => ⟨fun hx => ⟨nz x hx, (uniq_sum (up_nd up) x hx).symm⟩, fun ⟨h1, h2⟩ => by
    by_cases c : x.1 ∈ F.map (·.1)
    · obtain ⟨y, hy, e⟩ := List.mem_map.mp c
      have e' : y.1 = x.1 := e
      have := uniq_sum (up_nd up) y hy
      rw [e', ← h2] at this
      have : x = y := Prod.ext e'.symm this
      rw [this]
      exact hy
    · rw [sumK_none c] at h2
      exact absurd h2 h1⟩⟩
theorem put_put {a b : Nat} {n m : Int} {ts : List Trm} (ne : a ≠ b) : putT a n (putT b m ts) = putT b m (putT a n ts) := by
  unfold putT
  rw [List.map_map, List.map_map]
  refine List.map_congr_left fun t _ => ?_
  show ((t.1.set b 0).set a 0, t.2 * m ^ (t.1.getD b 0).toNat * n ^ ((t.1.set b 0).getD a 0).toNat) = ((t.1.set a 0).set b 0, t.2 * n ^ (t.1.getD a 0).toNat * m ^ ((t.1.set a 0).getD b 0).toNat)
  have e1 : (t.1.set b 0).getD a 0 = t.1.getD a 0 := by
    rw [List.getD_eq_getElem?_getD, List.getD_eq_getElem?_getD, List.getElem?_set_ne (Ne.symm ne)]
  have e2 : (t.1.set a 0).getD b 0 = t.1.getD b 0 := by
    rw [List.getD_eq_getElem?_getD, List.getD_eq_getElem?_getD, List.getElem?_set_ne ne]
  rw [e1, e2, List.set_comm _ _ ne, Int.mul_assoc, Int.mul_assoc, Int.mul_comm (m ^ _)]
theorem put_ok {a m : Nat} {c n : Int} {ts : List Trm} (hc : 0 ≤ c) (h : OkT m c ts) : OkT m c (putT a n ts) := fun x hx => by
  obtain ⟨t, ht, rfl⟩ := List.mem_map.mp hx
  obtain ⟨h1, h2⟩ := h t ht
  refine ⟨by rw [List.length_set]; exact h1, fun p hp => ?_⟩
  rcases List.mem_or_eq_of_mem_set hp with hp | hp
  · exact h2 p hp
  · rw [hp]
    omega
/-! sizes -/
theorem sum_sm {B : Nat} {ts : List Trm} (h : ∀ t ∈ ts, Sm B t.2) (k : List Int) : (sumK ts k).natAbs ≤ ts.length * 2 ^ B := by
  induction ts with
  | nil => exact Nat.zero_le _
  | cons t r ih =>
    have h1 := ih fun u hu => h u (List.mem_cons_of_mem _ hu)
    have h2 : t.2.natAbs < 2 ^ B := h t List.mem_cons_self
    rw [sumK_cons, List.length_cons, Nat.add_mul]
    generalize r.length * 2 ^ B = X at *
    generalize 2 ^ B = Y at *
    split <;> omega
theorem Fm.sm {B : Nat} {ts F : List Trm} (f : Fm ts F) (h : ∀ t ∈ ts, Sm B t.2) (l : ts.length ≤ 1000) : ∀ x ∈ F, Sm (B + 10) x.2 := fun x hx => by
  have h1 := sum_sm h x.1
  rw [← ((f.mem x).mp hx).2] at h1
  have h2 : ts.length * 2 ^ B ≤ 1000 * 2 ^ B := Nat.mul_le_mul_right _ l
  have h3 : 1000 * 2 ^ B < 2 ^ 10 * 2 ^ B := Nat.mul_lt_mul_of_pos_right (by decide) (Nat.pow_pos (by decide))
  show x.2.natAbs < 2 ^ (B + 10)
  rw [Nat.pow_add, Nat.mul_comm (2 ^ B)]
  omega
theorem Sm.pow {B : Nat} {n : Int} (h : Sm B n) : ∀ j : Nat, Sm (B * j + 1) (n ^ j)
  | 0 => by unfold Sm; simp
  | j + 1 => by
    rw [Int.pow_succ]
    have := (Sm.pow h j).mul h
    exact this.mono (by rw [Nat.mul_add]; omega)
theorem sm60 {n : Int} (h : n.natAbs < 10 ^ 60) : Sm 200 n := Nat.lt_trans h (by decide)
/-! promises -/
def spPows (K : PySem.W.Frag) : Sp := fun vs H Q _ => ∃ (n : Int) (k B : Nat), vs = [.int n, .int (k : Int)] ∧ Sm B n ∧ B ≤ 10000 ∧ 1 ≤ B ∧ k ≤ 50 ∧
  ∀ (l : Addr) (H' : Hp), Same H H' → H l = none → H' l = some (.lst (((List.range (k + 1)).map fun j => n ^ j).map V.int)) → Q (.ref l) H'
def spPow : Sp := fun vs H Q _ => ∃ (n : Int) (k B : Nat), vs = [.int n, .int (k : Int)] ∧ Sm B n ∧ B ≤ 10000 ∧ 1 ≤ B ∧ k ≤ 50 ∧ Q (.int (n ^ k)) H
def spGreatest (K : PySem.W.Frag) : Sp := fun vs H Q _ => ∃ (f : Addr) (F : List Trm) (m : Nat) (c : Int), vs = [.ref f] ∧ FmAt H f F ∧ OkT m c F ∧ 0 ≤ c ∧ F.length ≤ 100000 ∧
  ∀ (g : Int) (H' : Hp), Same H H' → 0 ≤ g → g ≤ c → (∀ t ∈ F, ∀ p ∈ t.1, p ≤ g) → Q (.int g) H'
def spPutIn (K : PySem.W.Frag) : Sp := fun vs H Q _ => ∃ (f : Addr) (F : List Trm) (a m B C : Nat) (c n : Int), vs = [.ref f, .int (a : Int), .int n] ∧ FmAt H f F ∧ OkT m c F ∧ 0 ≤ c ∧ c ≤ 40 ∧ a < m ∧ m ≤ 60 ∧ F.length ≤ 1000 ∧ Sm B n ∧ 1 ≤ B ∧ B ≤ 10000 ∧ (∀ t ∈ F, Sm C t.2) ∧ 1 ≤ C ∧ C ≤ 100000 ∧
  ∀ (g : Addr) (G : List Trm) (H' : Hp), Same H H' → H g = none → FmAt H' g G → Fm (putT a n F) G → Q (.ref g) H'
def spDrawn (K : PySem.W.Frag) : Sp := fun vs H Q _ => ∃ (p : Addr) (m most : Nat) (b : Int), vs = [.ref p, .int (m : Int), .int (most : Int)] ∧ Pl H p b ∧ b ≤ 1800000 ∧ m ≤ 7 ∧ most ≤ 60 ∧
  ∀ (f : Addr) (F : List Trm) (H' : Hp), But p H H' → Pl H' p (b + 3000) → H f = none → FmAt H' f F → Fm F F → OkT m 12 F → F.length ≤ most → (∀ t ∈ F, t.2.natAbs < 10 ^ 60) → Q (.ref f) H'
/-! ### comprehensions over a form's terms -/
def lcT (K : PySem.W.Frag) (g : TG) (tt : TT) (te : TE) (vs : List Nat) (σ : St) (Q : VK) (x : V) (H1 : Hp) : Prop := ∃ a, x = .ref a ∧ (∃ xs, SqT K H1 a xs) ∧ ∀ D, H1 D = none → ∃ W : Nat → Nat → Hp → Prop, (∃ m, W 0 m (upd H1 D (.lst []))) ∧ ∀ i m H, W i m H →
  ((Itt K a).stop i H ∧ Q (.ref D) H) ∨ ((Itt K a).go i H ∧ ∃ Nx : Hp → Prop, (∀ H', Nx H' → ∃ m', m' < m ∧ W (i + 1) m' H') ∧ ∀ x H', (Itt K a).yld i H x H' → g x (wipe σ vs) H' fun σ2 H2 => wipe σ2 vs = wipe σ vs ∧ tt σ2 H2 fun b H3 =>
    if b = true then te σ2 H3 fun y H4 => ∃ acc, H4 D = some (.lst acc) ∧ acc.length < sizeLine ∧ Nx (upd H4 D (.lst (acc ++ [y]))) else Nx H3)
theorem r_lcT {K : PySem.W.Frag} {tl : TE} {g : TG} {tt : TT} {te : TE} {vs : List Nat} {σ : St} {H : Hp} {Q : VK} (q : tl σ H (lcT K g tt te vs σ Q)) : tLc (iTup K tl) g tt te vs σ H Q := q
theorem paired_snoc' {α β : Type} {R : α → β → Prop} {a : α} {b : β} (h : R a b) : ∀ {xs : List α} {ys : List β}, Paired R xs ys → Paired R (xs ++ [a]) (ys ++ [b])
  | _, _, .nil => .cons h .nil
  | _, _, .cons k r => .cons k (paired_snoc' h r)
theorem lc_terms {K : PySem.W.Frag} {i j : Nat} {te : TE} {σ : St} {Q : VK} {f : Addr} {us : List V} {F : List Trm} {H : Hp} (R : Hp → V → Trm → Prop) (mono : ∀ {H H' : Hp} {v : V} {t : Trm}, Kt H H' → R H v t → R H' v t) (hf : H f = some (.tup us)) (tm : Tms H us F) (few : F.length ≤ 10000000)
    (hσ : ∀ u v, wipe (((wipe σ [i, j]).set i (some u)).set j (some v)) [i, j] = wipe σ [i, j])
    (stE : ∀ (t : Trm) (q : Addr) (H' : Hp), t ∈ F → Same H H' → Pw H' q t.1 → ∀ S : VK, (∀ (v : V) (H4 : Hp), Same H' H4 → R H4 v t → S v H4) → te (((wipe σ [i, j]).set i (some (.ref q))).set j (some (.int t.2))) H' S)
    (fin : ∀ (D : Addr) (vs : List V) (H' : Hp), Same H H' → H D = none → H' D = some (.lst vs) → Paired (R H') vs F → Q (.ref D) H') : lcT K (gTup K 2 (gCons (gName i) (gCons (gName j) gNil))) tYes te [i, j] σ Q (.ref f) H := by
  refine ⟨f, rfl, ⟨_, tupOf hf⟩, fun D hD => ?_⟩
  have ln : us.length = F.length := Paired.length tm
  refine lc_it (walk_tup (K := K) (a := f) (xs := us)) (fun n H' => ∃ vs : List V, Same H H' ∧ H' D = some (.lst vs) ∧ vs.length = n ∧ Paired (R H') vs (F.take n)) ⟨[], same_new hD _, upd_same, rfl, by rw [List.take_zero]; exact .nil⟩ (fun n H' _ h => by obtain ⟨_, h, _⟩ := h; exact tupOf (h _ _ hf)) ?_ ?_
  · rintro n x H' H'' hn ⟨vs, g, d, lv, pr⟩ ⟨rfl, hx⟩
    obtain ⟨t, ht, a, q, rfl, ta, pw⟩ := tm.at hx
    have hm := List.mem_of_getElem? ht
    have e1 : F.take (n + 1) = F.take n ++ [t] := by rw [List.take_succ, ht, Option.toList_some]
    refine r_gT (tupOf (g _ _ ta)) rfl ?_
    refine r_g2 ?_
    refine ⟨hσ _ _, ?_⟩
    refine r_yes ?_
    rw [if_pos rfl]
    refine stE t q H'' hm g (g _ _ pw) _ fun v H4 g4 rv => ?_
    have d4 := g4 _ _ d
    have kt : Kt H4 (upd H4 D (.lst (vs ++ [v]))) := Kt.lst d4
    refine ⟨_, d4, Nat.lt_of_le_of_lt (show vs.length ≤ 10000000 by omega) (by decide), vs ++ [v], same_updS (g.trans g4) hD, upd_same, by simp [lv], ?_⟩
    rw [e1]
    exact paired_snoc' (mono kt rv) (Paired.mapP pr fun _ _ h => mono kt (mono (Kt.same g4) h))
  · rintro H' ⟨vs, g, d, lv, pr⟩
    rw [ln, List.take_length] at pr
    exact fin D vs H' g hD d pr
end Mb
namespace Mb
open PySem L2
theorem r_ckw {r : List V → List V → Hp → VK → Prop} {t tk : TA} {σ : St} {H : Hp} {Q : VK} (q : t σ H fun vs H1 => tk σ H1 fun zs H2 => r vs zs H2 Q) : tCKw r t tk σ H Q := q
theorem fold_max : ∀ (ns : List Int) (m : Int), m ≤ ns.foldl max m ∧ (∀ x ∈ ns, x ≤ ns.foldl max m) ∧ (ns.foldl max m = m ∨ ns.foldl max m ∈ ns)
  | [], m => ⟨Int.le_refl _, (fun x hx => by cases hx), .inl rfl⟩
  | n :: r, m => by
    obtain ⟨h1, h2, h3⟩ := fold_max r (max m n)
    rw [List.foldl_cons]
    refine ⟨by omega, fun x hx => ?_, ?_⟩
    · rcases List.mem_cons.mp hx with rfl | hx
      · omega
      · exact h2 x hx
    · rcases h3 with h3 | h3
      · rw [h3]
        rcases Int.le_total m n with c | c
        · exact .inr (by rw [Int.max_eq_right c]; exact List.mem_cons_self)
        · exact .inl (Int.max_eq_left c)
      · exact .inr (List.mem_cons_of_mem _ h3)
theorem maxOf_le {ns : List Int} : ∀ x ∈ ns, x ≤ maxOf ns 0 := fun x hx => by
  cases ns with
  | nil => cases hx
  | cons n r =>
    obtain ⟨h1, h2, _⟩ := fold_max r n
    rcases List.mem_cons.mp hx with rfl | hx
    · exact h1
    · exact h2 x hx
theorem maxOf_in {ns : List Int} {c : Int} (h : ∀ p ∈ ns, 0 ≤ p ∧ p ≤ c) (hc : 0 ≤ c) : 0 ≤ maxOf ns 0 ∧ maxOf ns 0 ≤ c := by
  cases ns with
  | nil => exact ⟨Int.le_refl _, hc⟩
  | cons n r =>
    obtain ⟨_, _, h3⟩ := fold_max r n
    rcases h3 with h3 | h3
    · show 0 ≤ r.foldl max n ∧ r.foldl max n ≤ c
      rw [h3]
      exact h n List.mem_cons_self
    · exact h _ (List.mem_cons_of_mem _ h3)
/-- the powers with 0 at their a-th -/
theorem set_cut {k : List Int} {a : Nat} (h : a < k.length) : cutV (k.map V.int) none (some (a : Int)) ++ ([V.int 0] ++ cutV (k.map V.int) (some ((a : Int) + 1)) none) = (k.set a 0).map V.int := by
  unfold cutV
  have l : (k.map V.int).length = k.length := List.length_map _
  have e0 : HT.sIx (k.map V.int).length 0 none = 0 := rfl
  have e1 : HT.sIx (k.map V.int).length (k.map V.int).length none = (k.map V.int).length := rfl
  have e2 : HT.sIx (k.map V.int).length (k.map V.int).length (some (a : Int)) = a := by
    rw [HT.sIx_nat, l]
    omega
  have e3 : HT.sIx (k.map V.int).length 0 (some ((a : Int) + 1)) = a + 1 := by
    rw [show ((a : Int) + 1) = (((a + 1 : Nat)) : Int) by omega, HT.sIx_nat, l]
    omega
  rw [e0, e1, e2, e3, List.drop_zero, Nat.sub_zero, ← List.map_drop, ← List.map_take, l, ← List.map_take]
  rw [List.take_of_length_le (show (k.drop (a + 1)).length ≤ k.length - (a + 1) by rw [List.length_drop]; omega)]
  rw [List.set_eq_take_append_cons_drop, if_pos h, List.map_append, List.map_cons]
  rfl
theorem cutA {k : List Int} {a : Nat} (h : a < k.length) : ¬ (HT.sIx (k.map V.int).length 0 none = 0 ∧ HT.sIx (k.map V.int).length (k.map V.int).length (some (a : Int)) = (k.map V.int).length) := by
  rintro ⟨_, e⟩
  rw [HT.sIx_nat, List.length_map] at e
  omega
theorem cutB {k : List Int} {a : Nat} (h : a < k.length) : ¬ (HT.sIx (k.map V.int).length 0 (some ((a : Int) + 1)) = 0 ∧ HT.sIx (k.map V.int).length (k.map V.int).length none = (k.map V.int).length) := by
  rintro ⟨e, e2⟩
  rw [show ((a : Int) + 1) = (((a + 1 : Nat)) : Int) by omega, HT.sIx_nat, List.length_map] at e
  omega
theorem r_star {K : PySem.W.Frag} {te : TE} {t : TA} {σ : St} {H : Hp} {Q : List V → Hp → Prop} (q : te σ H fun x H1 => ∃ p xs, x = V.ref p ∧ (SqT K H1 p xs ∨ SqL K H1 p xs) ∧ t σ H1 fun ys H2 => Q (xs ++ ys) H2) : StX.tStar K te t σ H Q := q
theorem tmput {H : Hp} {a : Nat} {n : Int} : ∀ {vs : List V} {F : List Trm}, Paired (fun v t => Tm H v (t.1.set a 0, t.2 * n ^ (t.1.getD a 0).toNat)) vs F → Tms H vs (putT a n F)
  | _, _, .nil => .nil
  | _, _, .cons h r => .cons h (tmput r)
theorem getD_at {k : List Int} {a : Nat} (h : a < k.length) : k.getD a 0 ∈ k ∧ atI (k.map V.int) (a : Int) = some (.int (k.getD a 0)) := by
  have e : k[a]? = some k[a] := List.getElem?_eq_getElem h
  have g : k.getD a 0 = k[a] := by rw [List.getD_eq_getElem?_getD, e]; rfl
  rw [g]
  exact ⟨List.getElem_mem h, atI_nat (by rw [List.getElem?_map, e]; rfl)⟩
theorem pows_at {n : Int} {k j : Nat} (h : j ≤ k) : atI (((List.range (k + 1)).map fun j => n ^ j).map V.int) (j : Int) = some (.int (n ^ j)) :=
  atI_nat (by rw [List.getElem?_map, List.getElem?_map, List.getElem?_range (by omega)]; rfl)
end Mb
namespace Mb
open PySem L2
def clampI (M n : Int) : Int := if (if M < n then M else n) > -M then (if M < n then M else n) else -M
theorem clamp_nz {M n : Int} (hM : 0 < M) (h : n ≠ 0) : clampI M n ≠ 0 := by
  unfold clampI
  split
  · split <;> omega
  · omega
theorem clamp_le {M n : Int} (hM : 0 < M) : (clampI M n).natAbs ≤ M.natAbs := by
  unfold clampI
  split
  · split <;> omega
  · omega
def clampT (M : Int) (F : List Trm) : List Trm := F.map fun t => (t.1, clampI M t.2)
theorem tmclamp {H : Hp} {M : Int} : ∀ {vs : List V} {F : List Trm}, Paired (fun v t => Tm H v (t.1, clampI M t.2)) vs F → Tms H vs (clampT M F)
  | _, _, .nil => .nil
  | _, _, .cons h r => .cons h (tmclamp r)
def spLaid (K : PySem.W.Frag) : Sp := fun vs H Q _ => ∃ (f : Addr) (F : List Trm) (a m B C : Nat) (c n : Int), vs = [.ref f, .int (a : Int), .int n] ∧ FmAt H f F ∧ OkT m c F ∧ 0 ≤ c ∧ c ≤ 40 ∧ a < m ∧ m ≤ 60 ∧ F.length ≤ 1000 ∧ Sm B n ∧ 1 ≤ B ∧ B ≤ 10000 ∧ (∀ t ∈ F, Sm C t.2) ∧ 1 ≤ C ∧ C ≤ 100000 ∧
  ∀ (g : Addr) (G : List Trm) (H' : Hp), Same H H' → H g = none → FmAt H' g G → Fm (putT a n F) G → Q (.ref g) H'
theorem putT_snoc {a : Nat} {n : Int} {ts : List Trm} {t : Trm} : putT a n (ts ++ [t]) = putT a n ts ++ [(t.1.set a 0, t.2 * n ^ (t.1.getD a 0).toNat)] := by
  unfold putT
  rw [List.map_append]
  rfl
end Mb
namespace Mb
open PySem L2
theorem r_catA {K : PySem.W.Frag} {H : Hp} {Q : VK} {a b : Addr} {xs ys : List V} (ha : H a = some (.tup xs)) (hb : H b = some (.tup ys)) (hz : xs.length + ys.length ≤ sizeLine) (q : ∀ (p : Addr) (H' : Hp), Same H H' → H' p = some (.tup (xs ++ ys)) → Q (.ref p) H') : rCatA K (.ref a) (.ref b) H Q := by
  refine ⟨a, b, xs, ys, rfl, rfl, tupOf ha, tupOf hb, hz, fun h => ?_, fun _ h => ?_, fun _ _ p hp => ?_⟩
  · subst h
    exact q b H (Same.refl H) hb
  · subst h
    exact q a H (Same.refl H) (by rw [List.append_nil]; exact ha)
  · exact q p _ (same_new hp _) upd_same
end Mb
namespace Mb
open PySem PySem.Spec PyProof.Rows L2
/-! ### sorted(d) of a dict with whole numbers for keys, any number of them -/
def rSortedDIb (K : PySem.W.Frag) : List V → Hp → VK → Prop := fun vs H Q => ∃ (a : Addr) (kvs : List (Key × V)) (ks : List Int), vs = [.ref a] ∧ H a = some (.dK kvs) ∧ kvs.map (·.1) = ks.map Sum.inl ∧
  ∀ (ys : List Int) (p : Addr), ys.Perm ks → ys.Pairwise (· ≤ ·) → H p = none → Q (.ref p) (upd H p (.lst (ys.map V.int)))
theorem cr_sortedDIb {X : Cx} (hcalm : X.calm = true) : CallR X (.builtin "sorted") (rSortedDIb X.K) := by
  intro pins s σ H xs us Q I r q
  obtain ⟨a, kvs, ks, ex, hd, hks, q⟩ := q
  subst ex
  obtain ⟨u, eu, rx⟩ := vals1 r
  subst eu
  cases rx
  obtain ⟨z, lo, vs, rel, dd⟩ := (show ObjOk X.prog X.w H s.heap a (.dK kvs) from I.hok a _ hd)
  obtain ⟨ep, hat⟩ := dd.dictAt
  have hkeys : vs.map (·.1) = ks.map Sum.inl := rel.keys.symm.trans hks
  have hl : vs.length = ks.length := by
    have e := congrArg List.length hkeys
    rw [List.length_map, List.length_map] at e
    exact e
  have h16 : vs.length ≤ sizeLine := by
    rw [← Paired.length rel]
    exact z
  refine Calls.call_function_entry PyProof.Rows.kind_sorted PyProof.Rows.plain_sorted PyProof.Rows.entry_sorted (PyProof.Rows.args_sorted1 _) ?_
  unfold Builtin.«sorted»
  refine wpAny_bind (m := checkCount "sorted" 1 1 _) (wpAny_pure ?_)
  refine wpAny_bind (PySem.W.kdu_collect (A := X.A.in1) (PySem.W.kdl_dict (knd := mixKind X.prog X.w) (kvs := vs) (ep := ep) lo) (I.ok.hd hcalm) hat h16 fun h' tk acc hk hacc => ?_)
  have hal : acc.toList.length = ks.length := by rw [Array.length_toList, hacc.1, hl]
  have hS : IntsAre acc.toList ks := ints_each hal fun j v e => by
    obtain ⟨k, x, e1, e2⟩ := hacc.2 j v (by rw [← Array.getElem?_toList]; exact e)
    have e3 : (vs.map (·.1))[j]? = some k := by rw [List.getElem?_map, e1]; rfl
    rw [hkeys, List.getElem?_map] at e3
    cases e4 : ks[j]? with
    | none => rw [e4] at e3; cases e3
    | some y =>
      rw [e4] at e3
      have e5 : Sum.inl y = k := Option.some.inj e3
      subst e5
      rcases keyIs_shape (show keyIs (Sum.inl y) v = true from e2) with ⟨i, t, ek, ev⟩ | ⟨z, t, ek, ev⟩
      · cases ek
        exact ⟨y, t, rfl, ev⟩
      · cases ek
  have I1 : Inv X pins σ H { s with heap := h', toks := tk } := I.kept hk
  refine wpAny_bind (wpAny_newList ?_ (by rw [hal, ← hl]; exact h16))
  have hoL : (h'.push (seqObj "list" acc.toList.toArray 0)).get? h'.objs.size = some (seqObj "list" acc.toList.toArray 0) := Heap.get?_push_size _ rfl
  show wpAny _ _ _ _ _ { s with heap := h'.push (seqObj "list" acc.toList.toArray 0), toks := tk }
  refine wpAny_bind (wpAny_holding (wpAny_call_entry PyProof.Rows.slot_list_sort ⟨_, hoL, rfl⟩ PyProof.Rows.entry_list_sort
    (SrtO.list_sort_ord (s := { s with heap := h'.push (seqObj "list" acc.toList.toArray 0), toks := tk }) SrtO.swo_int hoL (by rw [hal, ← hl]; exact h16) (fun h2 => SrtO.ints_sortable hS h2) fun out g1 g2 => ⟨_, rfl, ?_⟩) (PyProof.Rows.args_list_sort _)))
  obtain ⟨k1, k2, k3⟩ := SrtO.ints_out hS g1 g2
  obtain ⟨e', he'⟩ := PyProof.Rows.sortedHeap_at (vs := acc.toList) (out := out.toArray) hoL
  have hlen : ((out.map SrtO.iv).map V.int).length ≤ sizeLine := by
    rw [List.length_map, k2.length_eq, ← hl]
    exact h16
  refine wpAny_pure ⟨_, rfl, .ref h'.objs.size, upd H h'.objs.size (.lst ((out.map SrtO.iv).map V.int)), I1.laid (t' := tk) (fun b u e => ?_) (Nat.le_refl _)
    (show ObjOk X.prog X.w _ _ _ (.lst ((out.map SrtO.iv).map V.int)) from ⟨hlen, out, e', vals_of_ints k1, he'⟩), rfl, q _ _ k2 k3 (I1.hok.fresh (Nat.le_refl _))⟩
  have hb : b < h'.objs.size := Heap.lt_size e
  rw [PyProof.Rows.sortedHeap_old (Nat.ne_of_lt hb) (by rw [size_push']; exact Nat.lt_succ_of_lt hb)]
  exact Heap.get?_push_of_some _ e
end Mb
namespace Mb
open PySem L2
/-! ### powers as the figures of one number -/
def joinL (b : Int) (acc : Int) : List Int → Int
  | [] => acc
  | p :: r => joinL b (acc * b + p) r
def unp (b : Int) : Nat → Int → List Int
  | 0, _ => []
  | n + 1, k => unp b n (k / b) ++ [k % b]
theorem joinL_snoc {b : Int} {p : Int} : ∀ (ps : List Int) (acc : Int), joinL b acc (ps ++ [p]) = joinL b acc ps * b + p
  | [], _ => rfl
  | q :: r, acc => joinL_snoc r (acc * b + q)
def Dg (b : Int) (ps : List Int) : Prop := ∀ p ∈ ps, 0 ≤ p ∧ p < b
theorem join_acc {b : Int} : ∀ (ps : List Int) (acc : Int), joinL b acc ps = acc * b ^ ps.length + joinL b 0 ps
  | [], acc => by show acc = acc * b ^ 0 + 0; rw [Int.pow_zero]; omega
  | q :: r, acc => by
    show joinL b (acc * b + q) r = acc * b ^ (r.length + 1) + joinL b (0 * b + q) r
    rw [join_acc r (acc * b + q), join_acc r (0 * b + q), Int.pow_succ, Int.add_mul, Int.add_mul, Int.mul_assoc, Int.mul_comm b]
    simp only [Int.zero_mul, Int.zero_add]
    omega
theorem join_cons {b q : Int} {r : List Int} : joinL b 0 (q :: r) = q * b ^ r.length + joinL b 0 r := by
  show joinL b (0 * b + q) r = _
  rw [Int.zero_mul, Int.zero_add, join_acc]
theorem join_bd {b : Int} (hb : 1 ≤ b) : ∀ ps : List Int, Dg b ps → 0 ≤ joinL b 0 ps ∧ joinL b 0 ps < b ^ ps.length
  | [], _ => by show (0 : Int) ≤ 0 ∧ (0 : Int) < b ^ 0; rw [Int.pow_zero]; omega
  | q :: r, h => by
    obtain ⟨h1, h2⟩ := join_bd hb r fun p hp => h p (List.mem_cons_of_mem _ hp)
    obtain ⟨q0, q1⟩ := h q List.mem_cons_self
    rw [join_cons, List.length_cons, Int.pow_succ]
    have := TS.num1 h1 h2 q0 q1
    exact this
theorem join_lt {b : Int} (hb : 1 ≤ b) : ∀ (xs ys : List Int), xs.length = ys.length → Dg b xs → Dg b ys → (lexL xs ys = true ↔ joinL b 0 xs < joinL b 0 ys)
  | [], [], _, _, _ => by
    show (false = true) ↔ (0 : Int) < 0
    constructor
    · intro h; cases h
    · intro h; omega
  | x :: xs, y :: ys, hl, hx, hy => by
    have hl' : xs.length = ys.length := by simpa using hl
    have dx : Dg b xs := fun p hp => hx p (List.mem_cons_of_mem _ hp)
    have dy : Dg b ys := fun p hp => hy p (List.mem_cons_of_mem _ hp)
    obtain ⟨a1, a2⟩ := join_bd hb xs dx
    obtain ⟨b1, b2⟩ := join_bd hb ys dy
    rw [lexL_cons, join_lt hb xs ys hl' dx dy, join_cons, join_cons, hl']
    rw [hl'] at a2
    rcases Int.lt_trichotomy x y with c | c | c
    · have := TS.num2 a1 a2 b1 c
      exact ⟨fun _ => this, fun _ => .inl c⟩
    · subst c
      constructor
      · rintro (h | h)
        · omega
        · omega
      · intro h
        exact .inr ⟨rfl, by omega⟩
    · have := TS.num2 b1 b2 a1 c
      constructor
      · rintro (h | h)
        · omega
        · omega
      · intro h
        omega
theorem join_inj {b : Int} (hb : 1 ≤ b) {xs ys : List Int} (hl : xs.length = ys.length) (hx : Dg b xs) (hy : Dg b ys) (e : joinL b 0 xs = joinL b 0 ys) : xs = ys := by
  refine lexL_eq _ _ ?_ ?_
  · cases q : lexL xs ys with
    | false => rfl
    | true => have := (join_lt hb xs ys hl hx hy).mp q; omega
  · cases q : lexL ys xs with
    | false => rfl
    | true => have := (join_lt hb ys xs hl.symm hy hx).mp q; omega
theorem unp_join {b : Int} (hb : 1 ≤ b) : ∀ (n : Nat) (ps : List Int), ps.length = n → Dg b ps → unp b n (joinL b 0 ps) = ps
  | 0, ps, hl, _ => by rw [List.eq_nil_of_length_eq_zero hl]; rfl
  | n + 1, ps, hl, h => by
    have ne : ps ≠ [] := fun e => by rw [e] at hl; cases hl
    have e := List.dropLast_concat_getLast ne
    generalize ps.dropLast = a at e
    generalize ps.getLast ne = q at e
    subst e
    have hq := h q (by simp)
    have ha : a.length = n := by simpa using hl
    rw [joinL_snoc]
    show unp b n ((joinL b 0 a * b + q) / b) ++ [(joinL b 0 a * b + q) % b] = a ++ [q]
    have e1 : (joinL b 0 a * b + q) / b = joinL b 0 a := by
      rw [Int.add_comm, Int.add_mul_ediv_right _ _ (by omega), Int.ediv_eq_zero_of_lt hq.1 hq.2, Int.zero_add]
    have e2 : (joinL b 0 a * b + q) % b = q := by
      rw [Int.add_comm, Int.add_mul_emod_self_right, Int.emod_eq_of_lt hq.1 hq.2]
    rw [e1, e2, unp_join hb n a ha fun p hp => h p (List.mem_append_left _ hp)]
theorem unp_len {b : Int} : ∀ (n : Nat) (k : Int), (unp b n k).length = n
  | 0, _ => rfl
  | n + 1, k => by
    show (unp b n (k / b) ++ [k % b]).length = n + 1
    rw [List.length_append, unp_len n]
    rfl
def addL (xs ys : List Int) : List Int := List.zipWith (· + ·) xs ys
theorem join_add {b : Int} : ∀ (xs ys : List Int), xs.length = ys.length → joinL b 0 (addL xs ys) = joinL b 0 xs + joinL b 0 ys
  | [], [], _ => rfl
  | x :: xs, y :: ys, hl => by
    have hl' : xs.length = ys.length := by simpa using hl
    show joinL b 0 ((x + y) :: addL xs ys) = _
    rw [join_cons, join_cons, join_cons, join_add xs ys hl', ← hl']
    have : (addL xs ys).length = xs.length := by
      unfold addL
      rw [List.length_zipWith, hl']
      omega
    rw [this, Int.add_mul]
    omega
/-- the product's terms -/
def mulT (F G : List Trm) : List Trm := F.flatMap fun t => G.map fun u => (addL t.1 u.1, t.2 * u.2)
theorem addL_len {xs ys : List Int} {m : Nat} (hx : xs.length = m) (hy : ys.length = m) : (addL xs ys).length = m := by
  unfold addL
  rw [List.length_zipWith, hx, hy]
  omega
theorem addL_in {c d : Int} : ∀ {xs ys : List Int}, (∀ p ∈ xs, 0 ≤ p ∧ p ≤ c) → (∀ p ∈ ys, 0 ≤ p ∧ p ≤ d) → ∀ p ∈ addL xs ys, 0 ≤ p ∧ p ≤ c + d
  | [], _, _, _, p, hp => by simp [addL] at hp
  | _ :: _, [], _, _, p, hp => by simp [addL] at hp
  | x :: xs, y :: ys, h1, h2, p, hp => by
    have a := h1 x List.mem_cons_self
    have b := h2 y List.mem_cons_self
    rcases List.mem_cons.mp (show p ∈ (x + y) :: addL xs ys from hp) with rfl | hp
    · omega
    · exact addL_in (fun q hq => h1 q (List.mem_cons_of_mem _ hq)) (fun q hq => h2 q (List.mem_cons_of_mem _ hq)) p hp
theorem mul_ok {m : Nat} {c d : Int} {F G : List Trm} (h1 : OkT m c F) (h2 : OkT m d G) : OkT m (c + d) (mulT F G) := fun x hx => by
  obtain ⟨t, ht, hx⟩ := List.mem_flatMap.mp hx
  obtain ⟨u, hu, rfl⟩ := List.mem_map.mp hx
  obtain ⟨a1, a2⟩ := h1 t ht
  obtain ⟨b1, b2⟩ := h2 u hu
  exact ⟨addL_len a1 b1, addL_in a2 b2⟩
theorem mul_len {F G : List Trm} : (mulT F G).length = F.length * G.length := by
  unfold mulT
  induction F with
  | nil => simp
  | cons t r ih =>
    rw [List.flatMap_cons, List.length_append, ih, List.length_map, List.length_cons, Nat.succ_mul]
    omega
/-- the same with packed powers -/
def packT (b : Int) (ts : List Trm) : List Trm := ts.map fun t => ([joinL b 0 t.1], t.2)
theorem sum_pack {b : Int} {m : Nat} {ts : List Trm} (hb : 1 ≤ b) (h : ∀ t ∈ ts, t.1.length = m ∧ Dg b t.1) {k : List Int} (hk : k.length = m) (dk : Dg b k) : sumK (packT b ts) [joinL b 0 k] = sumK ts k := by
  induction ts with
  | nil => rfl
  | cons t r ih =>
    show sumK (([joinL b 0 t.1], t.2) :: packT b r) _ = _
    rw [sumK_cons, sumK_cons, ih fun u hu => h u (List.mem_cons_of_mem _ hu)]
    obtain ⟨h1, h2⟩ := h t List.mem_cons_self
    congr 1
    by_cases c : t.1 = k
    · rw [if_pos c, if_pos (by rw [c])]
    · rw [if_neg c, if_neg fun e => c (join_inj hb (h1.trans hk.symm) h2 dk (List.cons.inj e).1)]
def keysI (M : List Trm) : List (Key × V) := M.map fun m => (.inl (m.1.headD 0), .int m.2)
/-- the form of packed sums -/
theorem fm_pack {b : Int} {m : Nat} {ts : List Trm} (hb : 1 ≤ b) (h : ∀ t ∈ ts, t.1.length = m ∧ Dg b t.1) {ks : List Int} (hp : (ks.map fun k => [k]).Perm ((accOf (packT b ts)).map (·.1))) (hs : ks.Pairwise (· ≤ ·)) :
    Fm ts ((ks.map fun k => (unp b m k, sumK (packT b ts) [k])).filter fun t => !decide (t.2 = 0)) := by
  have ok := acc_ok (packT b ts)
  have nd0 : (ks.map fun k => [k]).Nodup := hp.nodup_iff.mpr ok.nd
  have nd : ks.Nodup := by
    refine List.pairwise_map.mp nd0 |>.imp fun {x y} h e => h (by rw [e])
  have key : ∀ k ∈ ks, ∃ t ∈ ts, k = joinL b 0 t.1 := fun k hk => by
    have : [k] ∈ (accOf (packT b ts)).map (·.1) := hp.mem_iff.mp (List.mem_map.mpr ⟨k, hk, rfl⟩)
    obtain ⟨x, hx, e⟩ := List.mem_map.mp ((ok.ks _).mp this)
    obtain ⟨t, ht, rfl⟩ := List.mem_map.mp hx
    exact ⟨t, ht, ((List.cons.inj e).1).symm⟩
  have st : ks.Pairwise (· < ·) := (List.Pairwise.and hs nd).imp fun {x y} h => by
    have h1 := h.1
    have h2 : x ≠ y := h.2
    omega
  refine ⟨List.Pairwise.filter _ (List.pairwise_map.mpr ?_), fun x => ?_⟩
  · refine List.Pairwise.imp_of_mem (fun {x y} hx hy hlt => ?_) st
    obtain ⟨t, ht, rfl⟩ := key x hx
    obtain ⟨u, hu, rfl⟩ := key y hy
    obtain ⟨a1, a2⟩ := h t ht
    obtain ⟨b1, b2⟩ := h u hu
    show lexL (unp b m _) (unp b m _) = true
    rw [unp_join hb m _ a1 a2, unp_join hb m _ b1 b2]
    exact (join_lt hb _ _ (a1.trans b1.symm) a2 b2).mpr hlt
  · rw [List.mem_filter, List.mem_map]
    constructor
    · rintro ⟨⟨k, hk, rfl⟩, hz⟩
      obtain ⟨t, ht, rfl⟩ := key k hk
      obtain ⟨a1, a2⟩ := h t ht
      refine ⟨by simpa using hz, ?_⟩
      show sumK (packT b ts) [joinL b 0 t.1] = sumK ts (unp b m (joinL b 0 t.1))
      rw [unp_join hb m _ a1 a2, sum_pack hb h a1 a2]
    · rintro ⟨h1, h2⟩
      by_cases c : x.1 ∈ ts.map (·.1)
      · obtain ⟨t, ht, e⟩ := List.mem_map.mp c
        have e' : t.1 = x.1 := e
        obtain ⟨a1, a2⟩ := h t ht
        refine ⟨⟨joinL b 0 t.1, ?_, ?_⟩, by simpa using h1⟩
        · have : [joinL b 0 t.1] ∈ (ks.map fun k => [k]) := hp.mem_iff.mpr ((ok.ks _).mpr (List.mem_map.mpr ⟨([joinL b 0 t.1], t.2), List.mem_map.mpr ⟨t, ht, rfl⟩, rfl⟩))
          obtain ⟨k, hk, e⟩ := List.mem_map.mp this
          rw [← (List.cons.inj e).1]
          exact hk
        · rw [unp_join hb m _ a1 a2, sum_pack hb h a1 a2, e', ← h2]
      · rw [sumK_none c] at h2
        exact absurd h2 h1
end Mb
namespace Mb
open PySem L2
theorem small_join {b v : Int} {n : Nat} (b1 : 1 ≤ b) (b2 : b ≤ 400) (hn : n ≤ 7) (h : 0 ≤ v ∧ v < b ^ n) : Sm 64 v := by
  have h1 : b ^ n ≤ 400 ^ 7 := by
    obtain ⟨c, rfl⟩ : ∃ c : Nat, b = (c : Int) := ⟨b.toNat, by omega⟩
    have e1 : (c : Int) ^ n = ((c ^ n : Nat) : Int) := (Int.natCast_pow c n).symm
    rw [e1]
    have h2 : c ^ n ≤ 400 ^ n := Nat.pow_le_pow_left (by omega) n
    have h3 : 400 ^ n ≤ 400 ^ 7 := Nat.pow_le_pow_right (by decide) hn
    have h4 : ((400 : Int) ^ 7) = ((400 ^ 7 : Nat) : Int) := by decide
    rw [h4]
    exact Int.ofNat_le.mpr (Nat.le_trans h2 h3)
  have h5 : (400 : Int) ^ 7 < 2 ^ 64 := by decide
  unfold Sm
  omega
theorem unp_succ {b : Int} (hb : 1 ≤ b) : ∀ {n : Nat} {k : Int}, unp b (n + 1) k = [k / b ^ n % b] ++ unp b n k
  | 0, k => by
    show ([] : List Int) ++ [k % b] = [k / b ^ 0 % b] ++ []
    rw [Int.pow_zero, Int.ediv_one]
    rfl
  | n + 1, k => by
    show unp b (n + 1) (k / b) ++ [k % b] = [k / b ^ (n + 1) % b] ++ (unp b n (k / b) ++ [k % b])
    rw [unp_succ hb (n := n), Int.ediv_ediv_of_nonneg (by omega), Int.pow_succ, Int.mul_comm b, List.append_assoc]
def spJoined (K : PySem.W.Frag) : Sp := fun vs H Q _ => ∃ (q0 : Addr) (b : Int) (k : List Int), vs = [.ref q0, .int b] ∧ Pw H q0 k ∧ 1 ≤ b ∧ b ≤ 400 ∧ k.length ≤ 7 ∧ Dg b k ∧ Q (.int (joinL b 0 k)) H
def spUnpacked (K : PySem.W.Frag) : Sp := fun vs H Q _ => ∃ (k b : Int) (m : Nat), vs = [.int k, .int b, .int (m : Int)] ∧ 1 ≤ b ∧ b ≤ 400 ∧ m ≤ 7 ∧ ∀ (p : Addr) (H' : Hp), Same H H' → H p = none → Pw H' p (unp b m k) → Q (.ref p) H'
def Pk (b : Int) (H : Hp) (v : V) (t : Trm) : Prop := ∃ a, v = .ref a ∧ H a = some (.tup [.int (joinL b 0 t.1), .int t.2])
theorem Pk.kt {b : Int} {H H' : Hp} {v : V} {t : Trm} (k : Kt H H') (h : Pk b H v t) : Pk b H' v t := by
  obtain ⟨a, e, h⟩ := h
  exact ⟨a, e, k _ _ h⟩
def spPacked (K : PySem.W.Frag) : Sp := fun vs H Q _ => ∃ (f : Addr) (b : Int) (F : List Trm) (m : Nat), vs = [.ref f, .int b] ∧ FmAt H f F ∧ 1 ≤ b ∧ b ≤ 400 ∧ m ≤ 7 ∧ (∀ t ∈ F, t.1.length = m ∧ Dg b t.1) ∧ F.length ≤ 100000 ∧
  ∀ (l : Addr) (us : List V) (H' : Hp), Same H H' → H l = none → H' l = some (.lst us) → Paired (Pk b H') us F → Q (.ref l) H'
theorem r_rev2 {K : PySem.W.Frag} {te : TE} {σ : St} {H : Hp} {Q : VK} (q : te σ H fun x H1 => ∃ a xs, x = .ref a ∧ SqL K H1 a xs ∧ ∀ p, H1 p = none → Q (.ref p) (upd H1 p (.lst xs.reverse))) : tRevL K te σ H Q := q
/-! the int keys of the dict -/
def One (M : List Trm) : Prop := ∀ m ∈ M, ∃ x, m.1 = [x]
theorem one_acc {ts : List Trm} (h : One ts) : One (accOf ts) := fun m hm => by
  have : m.1 ∈ (accOf ts).map (·.1) := List.mem_map.mpr ⟨m, hm, rfl⟩
  obtain ⟨t, ht, e⟩ := List.mem_map.mp (((acc_ok ts).ks _).mp this)
  obtain ⟨x, hx⟩ := h t ht
  exact ⟨x, by rw [← e]; exact hx⟩
theorem keysI_any {M : List Trm} (h : One M) {k : Int} : ((keysI M).any fun kv => decide (kv.1 = (.inl k : Key))) = decide ([k] ∈ M.map (·.1)) := by
  unfold keysI
  rw [List.any_map]
  induction M with
  | nil => rfl
  | cons m r ih =>
    rw [List.any_cons, ih fun u hu => h u (List.mem_cons_of_mem _ hu)]
    obtain ⟨x, hx⟩ := h m List.mem_cons_self
    by_cases c : x = k
    · subst c
      simp [hx]
    · have h1 : ¬ ((.inl x : Key) = .inl k) := fun e => c (Sum.inl.inj e)
      have h2 : ¬ k = x := fun e => c e.symm
      simp [hx, h1, h2]
theorem keysI_find {M : List Trm} (h : One M) {k : Int} : valV (keysI M) (.inl k : Key) = (M.find? fun m => decide (m.1 = [k])).map fun m => .int m.2 := by
  unfold valV keysI
  induction M with
  | nil => rfl
  | cons m r ih =>
    rw [List.map_cons, List.find?_cons, List.find?_cons]
    obtain ⟨x, hx⟩ := h m List.mem_cons_self
    by_cases c : x = k
    · subst c
      simp [hx]
    · have h1 : ¬ ((.inl x : Key) = .inl k) := fun e => c (Sum.inl.inj e)
      simp only [hx, List.headD_cons, h1, decide_false, List.cons.injEq, c, false_and]
      exact ih fun u hu => h u (List.mem_cons_of_mem _ hu)
theorem keysI_put {M : List Trm} (h : One M) (nd : (M.map (·.1)).Nodup) {k n : Int} : putK (keysI M) (.inl k : Key) (.int ((match M.find? (fun m => decide (m.1 = [k])) with | some m => m.2 | none => 0) + n)) = keysI (accM M ([k], n)) := by
  unfold putK accM
  rw [keysI_any h]
  by_cases c : [k] ∈ M.map (·.1)
  · rw [if_pos (by simpa using c), if_pos c]
    obtain ⟨m0, hm0, e0⟩ := List.mem_map.mp c
    have hf := find_some nd hm0
    rw [e0] at hf
    rw [hf]
    unfold keysI
    rw [List.map_map, List.map_map]
    refine List.map_congr_left fun m hm => ?_
    obtain ⟨x, hx⟩ := h m hm
    show (if (.inl (m.1.headD 0) : Key) = .inl k then ((.inl (m.1.headD 0) : Key), V.int (m0.2 + n)) else (.inl (m.1.headD 0), .int m.2)) = ((.inl ((if m.1 = [k] then (m.1, m.2 + n) else m).1.headD 0) : Key), V.int (if m.1 = [k] then (m.1, m.2 + n) else m).2)
    by_cases e : x = k
    · have e1 : m.1 = [k] := by rw [hx, e]
      have : m = m0 := by
        have h1 := find_some nd hm
        rw [e1, hf] at h1
        exact (Option.some.inj h1).symm
      rw [if_pos e1, e1]
      simp [this]
    · have e1 : ¬ m.1 = [k] := by rw [hx]; simp [e]
      rw [if_neg e1, if_neg (by rw [hx]; simp [e])]
  · rw [if_neg (by simpa using c), if_neg c, find_none c]
    unfold keysI
    rw [List.map_append, List.map_cons, List.map_nil, Int.zero_add]
    rfl
theorem keysI_keys {M : List Trm} (h : One M) : ∃ ks : List Int, (keysI M).map (·.1) = ks.map Sum.inl ∧ M.map (·.1) = ks.map fun k => [k] := by
  refine ⟨M.map fun m => m.1.headD 0, ?_, ?_⟩
  · unfold keysI
    rw [List.map_map, List.map_map]
    rfl
  · rw [List.map_map]
    refine List.map_congr_left fun m hm => ?_
    obtain ⟨x, hx⟩ := h m hm
    show m.1 = [m.1.headD 0]
    rw [hx]
    rfl
theorem keysI_val {ts : List Trm} (h : One ts) {k : Int} (hk : [k] ∈ (accOf ts).map (·.1)) : valV (keysI (accOf ts)) (.inl k : Key) = some (.int (sumK ts [k])) := by
  rw [keysI_find (one_acc h)]
  obtain ⟨m, hm, e⟩ := List.mem_map.mp hk
  have e' : m.1 = [k] := e
  have := find_some (acc_ok ts).nd hm
  rw [e'] at this
  rw [this, Option.map_some, (acc_ok ts).sm m hm, e']
def scaleT (n : Int) (ts : List Trm) : List Trm := ts.map fun t => (t.1, n * t.2)
theorem sumK_scale {n : Int} {ts : List Trm} {k : List Int} : sumK (scaleT n ts) k = n * sumK ts k := by
  induction ts with
  | nil => show (0 : Int) = n * 0; omega
  | cons t r ih =>
    show sumK ((t.1, n * t.2) :: scaleT n r) k = _
    rw [sumK_cons, sumK_cons, ih, Int.mul_add]
    show (if t.1 = k then n * t.2 else 0) + _ = n * (if t.1 = k then t.2 else 0) + _
    split
    · rfl
    · rw [Int.mul_zero]
theorem scale_ok {m : Nat} {c n : Int} {ts : List Trm} (h : OkT m c ts) : OkT m c (scaleT n ts) := fun x hx => by
  obtain ⟨t, ht, rfl⟩ := List.mem_map.mp hx
  exact h t ht
theorem neg_ok {m : Nat} {c : Int} {ts : List Trm} (h : OkT m c ts) : OkT m c (negT ts) := fun x hx => by
  obtain ⟨t, ht, rfl⟩ := List.mem_map.mp hx
  exact h t ht
theorem app_ok {m : Nat} {c : Int} {a b : List Trm} (h : OkT m c a) (k : OkT m c b) : OkT m c (a ++ b) := fun x hx => (List.mem_append.mp hx).elim (h x) (k x)
theorem tms_app {H : Hp} : ∀ {us vs : List V} {F G : List Trm}, Tms H us F → Tms H vs G → Tms H (us ++ vs) (F ++ G)
  | _, _, _, _, .nil, h => h
  | _, _, _, _, .cons a r, h => .cons a (tms_app r h)
theorem tmscale {H : Hp} {n : Int} : ∀ {vs : List V} {F : List Trm}, Paired (fun v t => Tm H v (t.1, n * t.2)) vs F → Tms H vs (scaleT n F)
  | _, _, .nil => .nil
  | _, _, .cons h r => .cons h (tmscale r)
theorem tmneg {H : Hp} : ∀ {vs : List V} {F : List Trm}, Paired (fun v t => Tm H v (t.1, -t.2)) vs F → Tms H vs (negT F)
  | _, _, .nil => .nil
  | _, _, .cons h r => .cons h (tmneg r)
def spAdded (K : PySem.W.Frag) : Sp := fun vs H Q _ => ∃ (f g : Addr) (F G : List Trm) (m : Nat) (c : Int), vs = [.ref f, .ref g] ∧ FmAt H f F ∧ FmAt H g G ∧ OkT m c F ∧ OkT m c G ∧ F.length ≤ 100000 ∧ G.length ≤ 100000 ∧
  ∀ (r : Addr) (R : List Trm) (H' : Hp), Same H H' → H r = none → FmAt H' r R → Fm (F ++ G) R → Q (.ref r) H'
def spScaled (K : PySem.W.Frag) : Sp := fun vs H Q _ => ∃ (f : Addr) (n : Int) (F : List Trm) (m : Nat) (c : Int), vs = [.ref f, .int n] ∧ FmAt H f F ∧ OkT m c F ∧ F.length ≤ 100000 ∧ Sm 64 n ∧ (∀ t ∈ F, Sm 100000 t.2) ∧
  ∀ (r : Addr) (R : List Trm) (H' : Hp), Same H H' → H r = none → FmAt H' r R → Fm (scaleT n F) R → Q (.ref r) H'
def spTaken (K : PySem.W.Frag) : Sp := fun vs H Q _ => ∃ (f g : Addr) (F G : List Trm) (m : Nat) (c : Int), vs = [.ref f, .ref g] ∧ FmAt H f F ∧ FmAt H g G ∧ OkT m c F ∧ OkT m c G ∧ F.length ≤ 100000 ∧ G.length ≤ 100000 ∧ (∀ t ∈ G, Sm 100000 t.2) ∧
  ∀ (r : Addr) (R : List Trm) (H' : Hp), Same H H' → H r = none → FmAt H' r R → Fm (F ++ negT G) R → Q (.ref r) H'
/-- the product of two forms -/
def spMul (K : PySem.W.Frag) : Sp := fun vs H Q _ => ∃ (f g : Addr) (F G : List Trm) (m : Nat) (c : Int), vs = [.ref f, .ref g] ∧ FmAt H f F ∧ FmAt H g G ∧ OkT m c F ∧ OkT m c G ∧ 0 ≤ c ∧ c ≤ 150 ∧ m ≤ 7 ∧ F.length * G.length ≤ 9100000 ∧ F.length ≤ 100000 ∧ G.length ≤ 100000 ∧ (∀ t ∈ F, Sm 100000 t.2) ∧ (∀ t ∈ G, Sm 100000 t.2) ∧
  ∀ (r : Addr) (R : List Trm) (H' : Hp), Same H H' → H r = none → FmAt H' r R → Fm (mulT F G) R → Q (.ref r) H'
theorem Fm.congr {a b F : List Trm} (h : Fm a F) (e : ∀ k, sumK a k = sumK b k) : Fm b F := ⟨h.up, fun x => by rw [h.mem, e]⟩
theorem one_pack {b : Int} {ts : List Trm} : One (packT b ts) := fun x hx => by
  obtain ⟨t, _, rfl⟩ := List.mem_map.mp hx
  exact ⟨_, rfl⟩
theorem pack_app {b : Int} {x y : List Trm} : packT b (x ++ y) = packT b x ++ packT b y := by unfold packT; rw [List.map_append]
theorem keysI_getD {M : List Trm} (h : One M) {k z : Int} : (valV (keysI M) (.inl k : Key)).getD (.int z) = .int (match M.find? (fun m => decide (m.1 = [k])) with | some m => m.2 | none => z) := by
  rw [keysI_find h]
  cases M.find? (fun m => decide (m.1 = [k])) <;> rfl
def pr1 (t : Trm) (G : List Trm) : List Trm := G.map fun u => (addL t.1 u.1, t.2 * u.2)
theorem mul_take {F G : List Trm} {i : Nat} {t : Trm} (h : F[i]? = some t) : mulT (F.take (i + 1)) G = mulT (F.take i) G ++ pr1 t G := by
  unfold mulT
  rw [List.take_succ, h, Option.toList_some, List.flatMap_append, List.flatMap_cons, List.flatMap_nil, List.append_nil]
  rfl
theorem pr1_take {t : Trm} {G : List Trm} {j : Nat} {u : Trm} (h : G[j]? = some u) : pr1 t (G.take (j + 1)) = pr1 t (G.take j) ++ [(addL t.1 u.1, t.2 * u.2)] := by
  unfold pr1
  rw [List.take_succ, h, Option.toList_some, List.map_append]
  rfl
theorem fm_nil {F : List Trm} (h : Fm [] F) : F = [] := List.eq_nil_of_length_eq_zero (by have := h.len; simpa using this)
theorem nil_fm : Fm [] [] := ⟨.nil, fun x => ⟨fun h => (by cases h), fun ⟨h1, h2⟩ => absurd h2 h1⟩⟩
theorem lc_ints {K : PySem.W.Frag} {j : Nat} {tt : TT} {te : TE} {σ : St} {Q : VK} {l : Addr} {ns : List Int} {H : Hp} (R : Hp → V → Int → Prop) (mono : ∀ {H H' : Hp} {v : V} {t : Int}, Kt H H' → R H v t → R H' v t) (keep : Int → Bool) (hl : SqL K H l (ns.map V.int)) (few : ns.length ≤ 10000000) (hσ : ∀ v, wipe ((wipe σ [j]).set j (some v)) [j] = wipe σ [j])
    (stT : ∀ (n : Int) (H' : Hp), n ∈ ns → Same H H' → ∀ S : Bool → Hp → Prop, (∀ H4, Same H' H4 → S (keep n) H4) → tt ((wipe σ [j]).set j (some (.int n))) H' S)
    (stE : ∀ (n : Int) (H' : Hp), n ∈ ns → Same H H' → ∀ S : VK, (∀ (v : V) (H4 : Hp), Same H' H4 → R H4 v n → S v H4) → te ((wipe σ [j]).set j (some (.int n))) H' S)
    (fin : ∀ (D : Addr) (vs : List V) (H' : Hp), Same H H' → H D = none → H' D = some (.lst vs) → Paired (R H') vs (ns.filter keep) → Q (.ref D) H') : lcL K (gName j) tt te [j] σ Q (.ref l) H := by
  refine ⟨l, rfl, ⟨_, hl⟩, fun D hD => ?_⟩
  refine lc_list (xs := ns.map V.int) (fun i H' => ∃ vs : List V, Same H H' ∧ H' D = some (.lst vs) ∧ vs.length ≤ i ∧ Paired (R H') vs ((ns.take i).filter keep)) ⟨[], same_new hD _, upd_same, Nat.le_refl _, by rw [List.take_zero]; exact .nil⟩ (fun i H' _ h => by obtain ⟨_, h, _⟩ := h; exact h.seq hl) ?_ ?_
  · rintro i x H' hx ⟨vs, g, d, lv, pr⟩
    rw [List.getElem?_map] at hx
    obtain ⟨n, hn, rfl⟩ := Option.map_eq_some_iff.mp hx
    have hi : i < ns.length := (List.getElem?_eq_some_iff.mp hn).1
    have hm := List.mem_of_getElem? hn
    have e1 : ns.take (i + 1) = ns.take i ++ [n] := by rw [List.take_succ, hn, Option.toList_some]
    refine ⟨hσ _, ?_⟩
    refine stT n H' hm g _ fun H3 g3 => ?_
    rw [e1, List.filter_append, List.filter_cons]
    cases hk : keep n with
    | false =>
      simp only [Bool.false_eq_true, if_false, List.filter_nil, List.append_nil]
      exact ⟨vs, g.trans g3, g3 _ _ d, by omega, Paired.mapP pr fun _ _ h => mono (Kt.same g3) h⟩
    | true =>
      simp only [if_true, List.filter_nil]
      refine stE n H3 hm (g.trans g3) _ fun v H4 g4 rv => ?_
      have d4 := g4 _ _ (g3 _ _ d)
      have kt : Kt H4 (upd H4 D (.lst (vs ++ [v]))) := Kt.lst d4
      exact ⟨_, d4, Nat.lt_of_le_of_lt (show vs.length ≤ 10000000 by omega) (by decide), vs ++ [v], same_updS ((g.trans g3).trans g4) hD, upd_same, by simp; omega, paired_snoc' (mono kt rv) (Paired.mapP pr fun _ _ h => mono kt (mono (Kt.same (g3.trans g4)) h))⟩
  · rintro H' ⟨vs, g, d, _, pr⟩
    rw [List.length_map, List.take_length] at pr
    exact fin D vs H' g hD d pr
theorem tms_of {α : Type} {H : Hp} {f : α → Trm} : ∀ {vs : List V} {l : List α}, Paired (fun v k => Tm H v (f k)) vs l → Tms H vs (l.map f)
  | _, _, .nil => .nil
  | _, _, .cons h r => .cons h (tms_of r)
theorem r_lcR {ta : TA} {g : TG} {tt : TT} {te : TE} {vs : List Nat} {σ : St} {H : Hp} {Q : VK} (q : ta σ H fun xs H1 => ∃ j : Int, xs = [.int j] ∧ -(2 ^ 62) ≤ j ∧ j < 2 ^ 62 ∧ ∀ D, H1 D = none → ∃ W : Nat → Nat → Hp → Prop, (∃ m, W 0 m (upd H1 D (.lst []))) ∧ ∀ i m H, W i m H →
  ((Itr 0 j.toNat).stop i H ∧ Q (.ref D) H) ∨ ((Itr 0 j.toNat).go i H ∧ ∃ Nx : Hp → Prop, (∀ H', Nx H' → ∃ m', m' < m ∧ W (i + 1) m' H') ∧ ∀ x H', (Itr 0 j.toNat).yld i H x H' → g x (wipe σ vs) H' fun σ2 H2 => wipe σ2 vs = wipe σ vs ∧ tt σ2 H2 fun b H3 =>
    if b = true then te σ2 H3 fun y H4 => ∃ acc, H4 D = some (.lst acc) ∧ acc.length < sizeLine ∧ Nx (upd H4 D (.lst (acc ++ [y]))) else Nx H3)) : tLc (iRng1 ta) g tt te vs σ H Q := q
theorem r_forL {K : PySem.W.Frag} {tl : TE} {g : TG} {tb : TS} {D : Ends} {σ : St} {H : Hp} (q : tl σ H fun x H1 => ∃ a, x = .ref a ∧ (∃ xs, SqL K H1 a xs) ∧ ∃ W : Nat → Nat → St → Hp → Prop, (∃ m, W 0 m σ H1) ∧ ∀ i m σ H, W i m σ H →
    ((Itl K a).stop i H ∧ D.nx σ H) ∨ ((Itl K a).go i H ∧ ∃ N : St → Hp → Prop, (∀ σ' H', N σ' H' → ∃ m', m' < m ∧ W (i + 1) m' σ' H') ∧ ∀ x H', (Itl K a).yld i H x H' → g x σ H' fun σ2 H2 => tb { D with nx := N, ct := N, bk := D.nx } σ2 H2)) : tFor (iList K tl) g tb D σ H := q
theorem lc_termsL {K : PySem.W.Frag} {i j : Nat} {te : TE} {σ : St} {Q : VK} {f : Addr} {us : List V} {F : List Trm} {H : Hp} (R : Hp → V → Trm → Prop) (mono : ∀ {H H' : Hp} {v : V} {t : Trm}, Kt H H' → R H v t → R H' v t) (hf : SqL K H f us) (tm : Tms H us F) (few : F.length ≤ 10000000)
    (hσ : ∀ u v, wipe (((wipe σ [i, j]).set i (some u)).set j (some v)) [i, j] = wipe σ [i, j])
    (stE : ∀ (t : Trm) (q : Addr) (H' : Hp), t ∈ F → Same H H' → Pw H' q t.1 → ∀ S : VK, (∀ (v : V) (H4 : Hp), Same H' H4 → R H4 v t → S v H4) → te (((wipe σ [i, j]).set i (some (.ref q))).set j (some (.int t.2))) H' S)
    (fin : ∀ (D : Addr) (vs : List V) (H' : Hp), Same H H' → H D = none → H' D = some (.lst vs) → Paired (R H') vs F → Q (.ref D) H') : lcL K (gTup K 2 (gCons (gName i) (gCons (gName j) gNil))) tYes te [i, j] σ Q (.ref f) H := by
  refine ⟨f, rfl, ⟨_, hf⟩, fun D hD => ?_⟩
  have ln : us.length = F.length := Paired.length tm
  refine lc_list (xs := us) (fun n H' => ∃ vs : List V, Same H H' ∧ H' D = some (.lst vs) ∧ vs.length = n ∧ Paired (R H') vs (F.take n)) ⟨[], same_new hD _, upd_same, rfl, by rw [List.take_zero]; exact .nil⟩ (fun n H' _ h => by obtain ⟨_, h, _⟩ := h; exact h.seq hf) ?_ ?_
  · rintro n x H' hx ⟨vs, g, d, lv, pr⟩
    obtain ⟨t, ht, a, q, rfl, ta, pw⟩ := tm.at hx
    have hm := List.mem_of_getElem? ht
    have hn : n < F.length := (List.getElem?_eq_some_iff.mp ht).1
    have e1 : F.take (n + 1) = F.take n ++ [t] := by rw [List.take_succ, ht, Option.toList_some]
    refine r_gT (tupOf (g _ _ ta)) rfl ?_
    refine r_g2 ?_
    refine ⟨hσ _ _, ?_⟩
    refine r_yes ?_
    rw [if_pos rfl]
    refine stE t q H' hm g (g _ _ pw) _ fun v H4 g4 rv => ?_
    have d4 := g4 _ _ d
    have kt : Kt H4 (upd H4 D (.lst (vs ++ [v]))) := Kt.lst d4
    refine ⟨_, d4, Nat.lt_of_le_of_lt (show vs.length ≤ 10000000 by omega) (by decide), vs ++ [v], same_updS (g.trans g4) hD, upd_same, by simp [lv], ?_⟩
    rw [e1]
    exact paired_snoc' (mono kt rv) (Paired.mapP pr fun _ _ h => mono kt (mono (Kt.same g4) h))
  · rintro H' ⟨vs, g, d, lv, pr⟩
    rw [ln, List.take_length] at pr
    exact fin D vs H' g hD d pr
theorem paired_take {α β : Type} {R : α → β → Prop} : ∀ {xs : List α} {ys : List β} (n : Nat), Paired R xs ys → Paired R (xs.take n) (ys.take n)
  | _, _, 0, _ => by rw [List.take_zero, List.take_zero]; exact .nil
  | _, _, _ + 1, .nil => .nil
  | _, _, n + 1, .cons h r => .cons h (paired_take n r)
theorem paired_drop {α β : Type} {R : α → β → Prop} : ∀ {xs : List α} {ys : List β} (n : Nat), Paired R xs ys → Paired R (xs.drop n) (ys.drop n)
  | _, _, 0, h => h
  | _, _, _ + 1, .nil => .nil
  | _, _, n + 1, .cons _ r => paired_drop n r
/-- a part of the terms -/
theorem tms_cut {H : Hp} {us : List V} {F : List Trm} (h : Tms H us F) (lo hi : Option Int) : ∃ G, Tms H (cutV us lo hi) G ∧ (∀ x ∈ G, x ∈ F) ∧ G.length ≤ F.length := by
  refine ⟨(F.drop _).take _, paired_take _ (paired_drop _ h), fun x hx => List.mem_of_mem_drop (List.mem_of_mem_take hx), ?_⟩
  rw [List.length_take, List.length_drop]
  omega
theorem addL_comm : ∀ xs ys : List Int, addL xs ys = addL ys xs
  | [], [] => rfl
  | [], _ :: _ => rfl
  | _ :: _, [] => rfl
  | x :: xs, y :: ys => by
    show (x + y) :: addL xs ys = (y + x) :: addL ys xs
    rw [addL_comm xs ys, Int.add_comm]
theorem mul_cons {t : Trm} {F G : List Trm} : mulT (t :: F) G = pr1 t G ++ mulT F G := rfl
theorem sum_mulR {t : Trm} {F : List Trm} {k : List Int} : ∀ G : List Trm, sumK (mulT G (t :: F)) k = sumK (pr1 t G) k + sumK (mulT G F) k
  | [] => rfl
  | u :: G => by
    rw [mul_cons, mul_cons, sumK_app, sumK_app, sum_mulR G]
    show sumK ((addL u.1 t.1, u.2 * t.2) :: pr1 u F) k + _ = sumK ((addL t.1 u.1, t.2 * u.2) :: pr1 t G) k + _
    rw [sumK_cons, sumK_cons, addL_comm u.1, Int.mul_comm u.2]
    omega
theorem mul_comm {k : List Int} : ∀ F G : List Trm, sumK (mulT F G) k = sumK (mulT G F) k
  | [], G => by
    have : mulT G [] = [] := List.eq_nil_of_length_eq_zero (by rw [mul_len]; rfl)
    rw [this]
    rfl
  | t :: F, G => by
    rw [mul_cons, sumK_app, sum_mulR, mul_comm F G]
theorem fm_zero {ts R : List Trm} (h : Fm ts R) (z : ∀ k, sumK ts k = 0) : R = [] := by
  cases R with
  | nil => rfl
  | cons x r =>
    obtain ⟨h1, h2⟩ := (h.mem x).mp List.mem_cons_self
    rw [z] at h2
    exact absurd h2 h1
def spOther70 (K : PySem.W.Frag) : Sp := fun vs H Q _ => ∃ (p f : Addr) (m : Nat) (F : List Trm) (b : Int), vs = [.ref p, .int (m : Int), .ref f] ∧ Pl H p b ∧ b ≤ 1700000 ∧ m ≤ 7 ∧ FmAt H f F ∧ Fm F F ∧ OkT m 12 F ∧ F.length ≤ 60 ∧ (∀ t ∈ F, Sm 200 t.2) ∧
  ∀ (g : Addr) (G : List Trm) (H' : Hp), But p H H' → FmAt H' g G → Fm G G → OkT m 12 G → G.length ≤ 61 → (∀ t ∈ G, Sm 210 t.2) → Q (.ref g) H'
theorem fm_fm {ts F : List Trm} (h : Fm ts F) : Fm F F := fm_self h.up fun x hx => ((h.mem x).mp hx).1
end Mb
namespace Mb
open PySem PySem.Spec PyProof.Rows L2
/-! ### zip of two lists and a tuple -/
def Itz3 (K : PySem.W.Frag) (a b c : Addr) : It :=
  ⟨fun i H => ∃ (xs ys zs : List V) (x y z : V), SqL K H a xs ∧ SqL K H b ys ∧ SqT K H c zs ∧ xs[i]? = some x ∧ ys[i]? = some y ∧ zs[i]? = some z,
    fun i H v H' => ∃ T x y z, v = .ref T ∧ H T = none ∧ H' = upd H T (.tup [x, y, z]) ∧ (∀ xs, SqL K H a xs → xs[i]? = some x) ∧ (∀ ys, SqL K H b ys → ys[i]? = some y) ∧ ∀ zs, SqT K H c zs → zs[i]? = some z,
    fun i H => ∃ xs ys zs : List V, SqL K H a xs ∧ SqL K H b ys ∧ SqT K H c zs ∧ xs.length = i ∧ ys.length = i ∧ zs.length = i⟩
theorem turn_zip3 {P : Program} {w : World} {K : PySem.W.Frag} {elts : List Expr} {kk : Nat} {tpos : Pos} {a b c z TI TO i1 i2 i3 : Addr} (D : ZipSep3 z TI TO i1 i2 i3 [i1, a] [i2, b] [i3, c]) (na : a ≠ i1) (nb : b ≠ i2) (nc : c ≠ i3) :
    Turn P w K (.Tuple elts kk tpos) (Itz3 K a b c) [z, TI, TO, i1, i2, i3] z (fun i h => IsZip h z TI TO .none ∧ IsTupOf3 h TI (.ref i1) (.ref i2) (.ref i3) ∧ (∃ x y u, IsTupOf3 h TO x y u) ∧ h.IsListIter i1 a i ∧ h.IsListIter i2 b i ∧ h.IsTupleIter i3 c i) where
  mem := by simp
  obj := fun i h st k hk => by
    obtain ⟨hz, hTI, ⟨x, y, u, hTO⟩, ⟨o1, e1, _, d1⟩, ⟨o2, e2, _, d2⟩, ⟨o3, e3, _, d3⟩⟩ := st
    have e' : k = z ∨ k = TI ∨ k = TO ∨ k = i1 ∨ k = i2 ∨ k = i3 := by simpa using hk
    rcases e' with q | q | q | q | q | q
    · rw [q]; exact ⟨_, hz, fun v q => nomatch q⟩
    · rw [q]; exact ⟨_, hTI, fun v q => nomatch q⟩
    · rw [q]; exact ⟨_, hTO, fun v q => nomatch q⟩
    · rw [q]; exact ⟨o1, e1, fun v q => by rw [d1] at q; cases q⟩
    · rw [q]; exact ⟨o2, e2, fun v q => by rw [d2] at q; cases q⟩
    · rw [q]; exact ⟨o3, e3, fun v q => by rw [d3] at q; cases q⟩
  keep := fun i h h' st k => by
    obtain ⟨hz, hTI, ⟨x, y, u, hTO⟩, h1, h2, h3⟩ := st
    exact ⟨k z (by simp) _ hz, k TI (by simp) _ hTI, ⟨x, y, u, k TO (by simp) _ hTO⟩, h1.at fun o q => k i1 (by simp) o q, h2.at fun o q => k i2 (by simp) o q, h3.at fun o q => k i3 (by simp) o q⟩
  item := by
    intro X hP hw hK hc i pins s σ H E I hf st hg
    subst hP hw hK
    obtain ⟨hz, hTI, ⟨x0, y0, u0, hTO⟩, h1, h2, h3⟩ := st
    obtain ⟨xs, ys, zs, x, y, t, hqx, hqy, hqz, hx, hy, ht⟩ := hg
    obtain ⟨its, rv, p, _⟩ := I.list hqx
    obtain ⟨its2, rv2, p2, _⟩ := I.list hqy
    obtain ⟨its3, rv3, p3, _⟩ := I.tuple hqz
    obtain ⟨u, hu, ru⟩ := rv.get hx
    obtain ⟨u2, hu2, ru2⟩ := rv2.get hy
    obtain ⟨u3, hu3, ru3⟩ := rv3.get ht
    have hzl : z < s.heap.objs.size := Heap.lt_size hz
    have hh : X.A.in1.handled = none := I.ok.hd hc
    have q1 := p.isList
    have q2 := p2.isList
    have l1 : i < its.toArray.size := by obtain ⟨q, _⟩ := List.getElem?_eq_some_iff.mp hu; simpa using q
    have l2 : i < its2.toArray.size := by obtain ⟨q, _⟩ := List.getElem?_eq_some_iff.mp hu2; simpa using q
    have l3 : i < its3.toArray.size := by obtain ⟨q, _⟩ := List.getElem?_eq_some_iff.mp hu3; simpa using q
    refine wpAny_pyNext_zipD3_item D (Draws.list hh i1 a na its.toArray) (Draws.list hh i2 b nb its2.toArray) (Draws.tuple hh i3 c nc its3.toArray) hz hTI hTO ⟨h1, q1⟩ ⟨h2, q2⟩ ⟨h3, p3⟩ l1 l2 l3 fun y1 y2 y3 h' tk e1 e2 e3 z' TO' s1' s2' s3' hT hsz hk => ?_
    obtain rfl : y1 = u := by
      have e : its.toArray[i]? = some y1 := e1
      simp only [List.getElem?_toArray] at e
      rw [hu] at e
      exact (Option.some.inj e).symm
    obtain rfl : y2 = u2 := by
      have e : its2.toArray[i]? = some y2 := e2
      simp only [List.getElem?_toArray] at e
      rw [hu2] at e
      exact (Option.some.inj e).symm
    obtain rfl : y3 = u3 := by
      have e : its3.toArray[i]? = some y3 := e3
      simp only [List.getElem?_toArray] at e
      rw [hu3] at e
      exact (Option.some.inj e).symm
    refine ⟨_, rfl, wpAny_letOwnedTupleGo_zip (s := { s with heap := h', toks := tk }) z' fun h'' z'' sb => ?_⟩
    have hT2 : h''.get? s.heap.objs.size = some { cls := .type "tuple", data := .seq #[y1, y2, y3] } := (sb.2 _ (Nat.ne_of_gt hzl)).trans hT
    have new : ObjOk X.prog X.w (upd H s.heap.objs.size (.tup [x, y, t])) h'' s.heap.objs.size (.tup [x, y, t]) :=
      ⟨by show 3 ≤ sizeLine; decide, [y1, y2, y3], .cons ru (.cons ru2 (.cons ru3 .nil)), ⟨_, hT2, rfl, _, rfl⟩⟩
    have I1 : Inv X pins σ (upd H s.heap.objs.size (.tup [x, y, t])) { s with heap := h'', toks := tk } :=
      I.turnedNew (t' := tk) (ch := [z, TI, TO, i1, i2, i3]) (fun k o hb q => (sb.2 k (fun q' => hb (by simp [q']))).trans (hk k o (fun q' => hb (by simp [q'])) (fun q' => hb (by simp [q'])) (fun q' => hb (by simp [q'])) (fun q' => hb (by simp [q'])) (fun q' => hb (by simp [q'])) q)) hf (Nat.le_refl _) new
    refine ⟨.ref s.heap.objs.size, _, I1, rfl, ⟨_, x, y, t, rfl, I.hok.fresh (Nat.le_refl _), rfl, fun l hl => by rw [I.list_inj hl hqx]; exact hx, fun l hl => by rw [I.list_inj hl hqy]; exact hy, fun l hl => by rw [I.tuple_inj hl hqz]; exact ht⟩, ⟨z'', ?_, ⟨y1, y2, y3, ?_⟩, ?_, ?_, ?_⟩, fun k hkm => ?_⟩
    · exact (sb.2 _ D.TIz).trans (hk _ _ D.TIz D.TITO D.TIi1 D.TIi2 D.TIi3 hTI)
    · exact (sb.2 _ D.TOz).trans TO'
    · exact s1'.1.at fun o q => (sb.2 _ D.zi1.symm).trans q
    · exact s2'.1.at fun o q => (sb.2 _ D.zi2.symm).trans q
    · exact s3'.1.at fun o q => (sb.2 _ D.zi3.symm).trans q
    · have hlt : k < s.heap.objs.size := by
        have e' : k = z ∨ k = TI ∨ k = TO ∨ k = i1 ∨ k = i2 ∨ k = i3 := by simpa using hkm
        rcases e' with q | q | q | q | q | q
        · rw [q]; exact hzl
        · rw [q]; exact Heap.lt_size hTI
        · rw [q]; exact Heap.lt_size hTO
        · rw [q]; obtain ⟨_, e1, _⟩ := h1; exact Heap.lt_size e1
        · rw [q]; obtain ⟨_, e1, _⟩ := h2; exact Heap.lt_size e1
        · rw [q]; obtain ⟨_, e1, _⟩ := h3; exact Heap.lt_size e1
      rw [upd_ne (Nat.ne_of_lt hlt)]
      exact (hf k hkm).1
  done := by
    intro X hP hw hK hc i pins s σ H E I hf st hg
    subst hP hw hK
    obtain ⟨hz, hTI, ⟨x0, y0, u0, hTO⟩, h1, h2, h3⟩ := st
    obtain ⟨xs, ys, zs, hqx, hqy, hqz, g1, g2, g3⟩ := hg
    obtain ⟨its, rv, p, _⟩ := I.list hqx
    obtain ⟨its2, rv2, p2, _⟩ := I.list hqy
    obtain ⟨its3, rv3, p3, _⟩ := I.tuple hqz
    have l1 := rv.length
    have l2 := rv2.length
    have l3 := rv3.length
    have hh : X.A.in1.handled = none := I.ok.hd hc
    have m1 : i = its.toArray.size := by simp; omega
    have m2 : i = its2.toArray.size := by simp; omega
    have m3 : i = its3.toArray.size := by simp; omega
    exact wpAny_pyNext_zipD3_end D (Draws.list hh i1 a na its.toArray) (Draws.list hh i2 b nb its2.toArray) (Draws.tuple hh i3 c nc its3.toArray) hz hTI hTO ⟨h1, p.isList⟩ ⟨h2, p2.isList⟩ ⟨h3, p3⟩ (by omega) (by omega) (by omega) (.inl m1) fun h' tk hk => ⟨rfl, I.turnedL (t' := tk) (ch := [z, TI, TO, i1, i2, i3]) (fun k o hb q =>
      hk k o (fun q' => hb (by simp [q'])) (fun q' => hb (by simp [q'])) (fun q' => hb (by simp [q'])) (fun q' => hb (by simp [q'])) (fun q' => hb (by simp [q'])) q) hf⟩
  self := fun A i s Q E st h => wpAny_pyIter_zip st.1 h
def iZip3 (K : PySem.W.Frag) (ta : TA) : TI := fun σ H R => ta σ H fun vs H1 => ∃ a b c xs ys zs, vs = [.ref a, .ref b, .ref c] ∧ SqL K H1 a xs ∧ SqL K H1 b ys ∧ SqT K H1 c zs ∧ R (Itz3 K a b c) H1
theorem pi_zip3 {X : Cx} {e e2 e3 : Expr} {ta : TA} {p pos tpos : Pos} {elts : List Expr} {kk : Nat} (hg : Gl X "zip") (hm : X.mg "zip" = none) (ha : PA X [e, e2, e3] ta)
    (hs : starEach [e, e2, e3] X.env = (false, eval e X.env) :: starEach [e2, e3] X.env := by rfl) (hpl : (backTo pos (starEach [e2, e3] X.env)).any (·.1) = false := by rfl) :
    PI X (.Tuple elts kk tpos) (.Call (.Name "zip" p) [e, e2, e3] [] pos) (iZip3 X.K ta) := by
  refine ⟨fun pins s σ H R I h => ?_⟩
  refine Call_ (ld_blt I hg hm PyProof.Rows.boot_zip (PyProof.Rows.callWith_type1 (thn (ha.run pos pins s σ H _ I h) fun us s1 ⟨vs, H1, I1, r1, q1⟩ => ?_) hs hpl))
  obtain ⟨a, b, c, xs, ys, zs, ex, hqx, hqy, hqz, q⟩ := q1
  subst ex
  cases r1 with
  | cons r rr =>
    cases rr with
    | cons r' rr =>
      cases rr with
      | cons r'' rr =>
        cases rr
        cases r
        cases r'
        cases r''
        have fresh6 : ∀ k, k ∈ [s1.heap.objs.size + 5, s1.heap.objs.size + 3, s1.heap.objs.size + 4, s1.heap.objs.size, s1.heap.objs.size + 1, s1.heap.objs.size + 2] → FpOk X pins H1 k := fun k hkm => by
          have e' : k = s1.heap.objs.size + 5 ∨ k = s1.heap.objs.size + 3 ∨ k = s1.heap.objs.size + 4 ∨ k = s1.heap.objs.size ∨ k = s1.heap.objs.size + 1 ∨ k = s1.heap.objs.size + 2 := by simpa using hkm
          have hle : s1.heap.objs.size ≤ k := by
            rcases e' with z | z | z | z | z | z
            · rw [z]; exact Nat.le_add_right _ _
            · rw [z]; exact Nat.le_add_right _ _
            · rw [z]; exact Nat.le_add_right _ _
            · rw [z]; exact Nat.le_refl _
            · rw [z]; exact Nat.le_add_right _ _
            · rw [z]; exact Nat.le_add_right _ _
          exact I1.fpOk hle (I1.hok.fresh hle)
        obtain ⟨its, rv, p1, _⟩ := I1.list hqx
        obtain ⟨its2, rv2, p2, _⟩ := I1.list hqy
        obtain ⟨its3, rv3, p3, _⟩ := I1.tuple hqz
        obtain ⟨o3, ho3, _⟩ := id p3
        have la : a < s1.heap.objs.size := p1.lt
        have lb : b < s1.heap.objs.size := p2.lt
        have lc : c < s1.heap.objs.size := Heap.lt_size ho3
        refine zip_begins3 (begins_list a its.toArray) (begins_list b its2.toArray) (begins_tuple c its3.toArray) p1.isList p2.isList p3 fun h' hz hTI hTO h1 h2 h3 hsz hk => wpAny_pyIter_zip hz ?_
        have I2 : Inv X pins σ H1 { s1 with heap := h' } := I1.kept (t' := s1.toks) hk
        exact ⟨s1.heap.objs.size + 5, [s1.heap.objs.size + 5, s1.heap.objs.size + 3, s1.heap.objs.size + 4, s1.heap.objs.size, s1.heap.objs.size + 1, s1.heap.objs.size + 2], _, _, H1, rfl, I2,
          turn_zip3 (zip_sep3 (N := s1.heap.objs.size) (fp1 := [a]) (fp2 := [b]) (fp3 := [c]) (fun k hkm => by simp at hkm; rw [hkm]; exact la) (fun k hkm => by simp at hkm; rw [hkm]; exact lb) (fun k hkm => by simp at hkm; rw [hkm]; exact lc)) (Nat.ne_of_lt la) (Nat.ne_of_lt (Nat.lt_succ_of_lt lb)) (Nat.ne_of_lt (Nat.lt_add_right 2 lc)),
          ⟨hz, hTI, ⟨_, _, _, hTO⟩, ⟨_, h1, rfl, rfl⟩, ⟨_, h2, rfl, rfl⟩, ⟨_, h3, rfl, rfl⟩⟩, fresh6, q⟩
/-- a loop over zip of two lists and a tuple of one length -/
theorem for_zip3 {K : PySem.W.Frag} {a b c : Addr} {xs ys zs : List V} {g : TG} {tb : TS} {D : Ends} {σ : L2.St} {H : Hp} (hl : xs.length = ys.length) (hl3 : xs.length = zs.length) (Pv : Nat → L2.St → Hp → Prop) (h0 : Pv 0 σ H) (hq : ∀ i σ H, Pv i σ H → SqL K H a xs ∧ SqL K H b ys ∧ SqT K H c zs)
    (hs : ∀ (i : Nat) (x y z : V) (T : Addr) (σ : L2.St) (H : Hp), xs[i]? = some x → ys[i]? = some y → zs[i]? = some z → Pv i σ H → H T = none → g (.ref T) σ (upd H T (.tup [x, y, z])) fun σ2 H2 => tb { D with nx := Pv (i + 1), ct := Pv (i + 1), bk := D.nx } σ2 H2) (hd : ∀ σ H, Pv xs.length σ H → D.nx σ H) :
    ∃ W : Nat → Nat → L2.St → Hp → Prop, (∃ m, W 0 m σ H) ∧ ∀ i m σ H, W i m σ H →
      ((Itz3 K a b c).stop i H ∧ D.nx σ H) ∨ ((Itz3 K a b c).go i H ∧ ∃ N : L2.St → Hp → Prop, (∀ σ' H', N σ' H' → ∃ m', m' < m ∧ W (i + 1) m' σ' H') ∧ ∀ v H', (Itz3 K a b c).yld i H v H' → g v σ H' fun σ2 H2 => tb { D with nx := N, ct := N, bk := D.nx } σ2 H2) := by
  refine ⟨fun i m σ H => m = xs.length - i ∧ i ≤ xs.length ∧ Pv i σ H, ⟨xs.length, rfl, Nat.zero_le _, h0⟩, ?_⟩
  rintro i m σ H ⟨rfl, hi, p⟩
  obtain ⟨qx, qy, qz⟩ := hq i σ H p
  by_cases hlt : i < xs.length
  · have hx : xs[i]? = some xs[i] := List.getElem?_eq_getElem hlt
    have hlt2 : i < ys.length := by omega
    have hlt3 : i < zs.length := by omega
    have hy : ys[i]? = some ys[i] := List.getElem?_eq_getElem hlt2
    have hz : zs[i]? = some zs[i] := List.getElem?_eq_getElem hlt3
    refine .inr ⟨⟨xs, ys, zs, _, _, _, qx, qy, qz, hx, hy, hz⟩, Pv (i + 1), fun σ' H' p' => ⟨xs.length - (i + 1), by omega, rfl, hlt, p'⟩, fun v H' y => ?_⟩
    obtain ⟨T, x', y', z', rfl, hT, rfl, f1, f2, f3⟩ := y
    exact hs i x' y' z' T σ H (f1 xs qx) (f2 ys qy) (f3 zs qz) p hT
  · have e : i = xs.length := by omega
    subst e
    exact .inl ⟨⟨xs, ys, zs, qx, qy, qz, rfl, by omega, by omega⟩, hd σ H p⟩
/-- name *= e, whole numbers -/
def ipMul : TIp := fun x y H Q => ∃ i j, x = .int i ∧ y = .int j ∧ CMulW i j ∧ Q (.int (i * j)) H
theorem ip_mult {X : Cx} : PIp X .Mult ipMul := by
  intro pins s σ H x y v u Q I r1 r2 h
  obtain ⟨i, j, e1, e2, hc, q⟩ := h
  subst e1; subst e2
  obtain ⟨t, rfl⟩ := r1
  obtain ⟨t', rfl⟩ := r2
  exact imul_int ⟨.int _, H, I.tok _, ⟨_, rfl⟩, q⟩ hc.ok
end Mb
namespace Mb
open PySem L2
/-! ### worths -/
def mon : List Nat → List Rat → List Int → Int
  | m :: ms, r :: rs, k :: ks => r.num ^ k.toNat * (r.den : Int) ^ (m - k.toNat) * mon ms rs ks
  | _, _, _ => 1
def bot : List Nat → List Rat → Int
  | m :: ms, r :: rs => (r.den : Int) ^ m * bot ms rs
  | _, _ => 1
def rmon : List Rat → List Int → Rat
  | r :: rs, k :: ks => r ^ k.toNat * rmon rs ks
  | _, _ => 1
def wR (rs : List Rat) (F : List Trm) : Rat := (F.map fun t => (t.2 : Rat) * rmon rs t.1).sum
theorem wR_nil {rs : List Rat} : wR rs [] = 0 := rfl
theorem wR_cons {rs : List Rat} {t : Trm} {F : List Trm} : wR rs (t :: F) = (t.2 : Rat) * rmon rs t.1 + wR rs F := rfl
theorem wR_app {rs : List Rat} : ∀ (F G : List Trm), wR rs (F ++ G) = wR rs F + wR rs G
  | [], G => by rw [List.nil_append, wR_nil, Rat.zero_add]
  | t :: F, G => by rw [List.cons_append, wR_cons, wR_cons, wR_app F G, Rat.add_assoc]
theorem wR_neg {rs : List Rat} : ∀ F : List Trm, wR rs (negT F) = -wR rs F
  | [] => rfl
  | t :: F => by
    show wR rs ((t.1, -t.2) :: negT F) = _
    rw [wR_cons, wR_cons, wR_neg F]
    show ((-t.2 : Int) : Rat) * rmon rs t.1 + _ = _
    rw [Rat.intCast_neg]
    grind
theorem rat_pow_add (x : Rat) (a : Nat) : ∀ b : Nat, x ^ (a + b) = x ^ a * x ^ b
  | 0 => by rw [Nat.add_zero, Rat.pow_zero, Rat.mul_one]
  | b + 1 => by rw [← Nat.add_assoc, Rat.pow_succ, Rat.pow_succ, rat_pow_add x a b, Rat.mul_assoc]
theorem rat_mul_pow (x y : Rat) : ∀ b : Nat, (x * y) ^ b = x ^ b * y ^ b
  | 0 => by rw [Rat.pow_zero, Rat.pow_zero, Rat.pow_zero, Rat.mul_one]
  | b + 1 => by
    rw [Rat.pow_succ, Rat.pow_succ, Rat.pow_succ, rat_mul_pow x y b]
    grind
theorem rmon_add {rs : List Rat} : ∀ {a b : List Int}, a.length = rs.length → b.length = rs.length → (∀ p ∈ a, 0 ≤ p) → (∀ p ∈ b, 0 ≤ p) → rmon rs (addL a b) = rmon rs a * rmon rs b := by
  induction rs with
  | nil => 
    intro a b ha hb _ _
    show (1 : Rat) = 1 * 1
    rw [Rat.mul_one]
  | cons r rs ih =>
    intro a b ha hb pa pb
    match a, b, ha, hb with
    | x :: a, y :: b, ha, hb =>
      show r ^ (x + y).toNat * rmon rs (addL a b) = r ^ x.toNat * rmon rs a * (r ^ y.toNat * rmon rs b)
      rw [ih (by simpa using ha) (by simpa using hb) (fun p hp => pa p (List.mem_cons_of_mem _ hp)) fun p hp => pb p (List.mem_cons_of_mem _ hp)]
      have h1 := pa x List.mem_cons_self
      have h2 := pb y List.mem_cons_self
      rw [show (x + y).toNat = x.toNat + y.toNat by omega, rat_pow_add]
      grind
theorem wR_pr {rs : List Rat} {t : Trm} (ht : t.1.length = rs.length) (pt : ∀ p ∈ t.1, 0 ≤ p) : ∀ {G : List Trm}, (∀ u ∈ G, u.1.length = rs.length ∧ ∀ p ∈ u.1, 0 ≤ p) → wR rs (pr1 t G) = (t.2 : Rat) * rmon rs t.1 * wR rs G
  | [], _ => by
    show (0 : Rat) = _ * 0
    rw [Rat.mul_zero]
  | u :: G, h => by
    obtain ⟨h1, h2⟩ := h u List.mem_cons_self
    show wR rs ((addL t.1 u.1, t.2 * u.2) :: pr1 t G) = _
    rw [wR_cons, wR_cons, wR_pr ht pt fun u hu => h u (List.mem_cons_of_mem _ hu), rmon_add ht h1 pt h2, Rat.intCast_mul]
    grind
theorem wR_mul {rs : List Rat} {G : List Trm} (hG : ∀ u ∈ G, u.1.length = rs.length ∧ ∀ p ∈ u.1, 0 ≤ p) : ∀ {F : List Trm}, (∀ u ∈ F, u.1.length = rs.length ∧ ∀ p ∈ u.1, 0 ≤ p) → wR rs (mulT F G) = wR rs F * wR rs G
  | [], _ => by
    show (0 : Rat) = 0 * _
    rw [Rat.zero_mul]
  | t :: F, h => by
    obtain ⟨h1, h2⟩ := h t List.mem_cons_self
    rw [mul_cons, wR_app, wR_cons, wR_mul hG fun u hu => h u (List.mem_cons_of_mem _ hu), wR_pr h1 h2 hG]
    grind
theorem rmon_put {n : Rat} : ∀ {rs : List Rat} {a : Nat} {ks : List Int}, ks.length = rs.length → a < rs.length → rmon (rs.set a n) ks = n ^ (ks.getD a 0).toNat * rmon rs (ks.set a 0)
  | r :: rs, 0, k :: ks, _, _ => by
    show n ^ k.toNat * rmon rs ks = n ^ k.toNat * (r ^ (0 : Int).toNat * rmon rs ks)
    rw [show (0 : Int).toNat = 0 from rfl, Rat.pow_zero, Rat.one_mul]
  | r :: rs, a + 1, k :: ks, hl, ha => by
    show r ^ k.toNat * rmon (rs.set a n) ks = n ^ (ks.getD a 0).toNat * (r ^ k.toNat * rmon rs (ks.set a 0))
    rw [rmon_put (by simpa using hl) (by simpa using ha)]
    grind
theorem wR_put {rs : List Rat} {a : Nat} {n : Int} (ha : a < rs.length) : ∀ {F : List Trm}, (∀ u ∈ F, u.1.length = rs.length) → wR rs (putT a n F) = wR (rs.set a (n : Rat)) F
  | [], _ => rfl
  | t :: F, h => by
    show wR rs ((t.1.set a 0, t.2 * n ^ (t.1.getD a 0).toNat) :: putT a n F) = _
    rw [wR_cons, wR_cons, wR_put ha fun u hu => h u (List.mem_cons_of_mem _ hu), rmon_put (h t List.mem_cons_self) ha, Rat.intCast_mul, Rat.intCast_pow]
    grind
/-- powers below ms, one for each -/
def Under : List Nat → List Int → Prop
  | m :: ms, k :: ks => 0 ≤ k ∧ k ≤ (m : Int) ∧ Under ms ks
  | [], [] => True
  | _, _ => False
theorem mon_rat : ∀ {ms : List Nat} {rs : List Rat} {ks : List Int}, ms.length = rs.length → Under ms ks → (mon ms rs ks : Rat) = rmon rs ks * (bot ms rs : Rat)
  | [], [], [], _, _ => by
    show ((1 : Int) : Rat) = 1 * ((1 : Int) : Rat)
    rw [Rat.one_mul]
  | m :: ms, r :: rs, k :: ks, hl, ⟨k0, km, u⟩ => by
    show ((r.num ^ k.toNat * (r.den : Int) ^ (m - k.toNat) * mon ms rs ks : Int) : Rat) = r ^ k.toNat * rmon rs ks * (((r.den : Int) ^ m * bot ms rs : Int) : Rat)
    rw [Rat.intCast_mul, Rat.intCast_mul, Rat.intCast_mul, Rat.intCast_pow, Rat.intCast_pow, Rat.intCast_pow, mon_rat (by simpa using hl) u]
    have e : ((r.num : Int) : Rat) = r * ((r.den : Int) : Rat) := by
      have := Rat.num_divInt_den r
      rw [Rat.divInt_eq_div] at this
      have nz : ((r.den : Int) : Rat) ≠ 0 := by
        have := den_ne r
        intro h
        exact this (by exact_mod_cast h)
      grind
    have e2 : ((r.den : Int) : Rat) ^ m = ((r.den : Int) : Rat) ^ k.toNat * ((r.den : Int) : Rat) ^ (m - k.toNat) := by
      rw [← rat_pow_add]
      congr 1
      omega
    rw [e, e2, rat_mul_pow]
    grind
theorem bot_pos : ∀ (ms : List Nat) (rs : List Rat), 0 < bot ms rs
  | [], _ => by unfold bot; decide
  | m :: ms, [] => by unfold bot; decide
  | m :: ms, r :: rs => by
    show 0 < (r.den : Int) ^ m * bot ms rs
    exact Int.mul_pos (Int.pow_pos (den_pos r)) (bot_pos ms rs)
theorem wsum_rat {ms : List Nat} {rs : List Rat} (hl : ms.length = rs.length) : ∀ {F : List Trm}, (∀ t ∈ F, Under ms t.1) → (wsum (mon ms rs) F : Rat) = wR rs F * (bot ms rs : Rat)
  | [], _ => by
    show ((0 : Int) : Rat) = 0 * _
    rw [Rat.zero_mul]
    rfl
  | t :: F, h => by
    rw [wsum_cons, wR_cons, Rat.intCast_add, Rat.intCast_mul, wsum_rat hl fun u hu => h u (List.mem_cons_of_mem _ hu), mon_rat hl (h t List.mem_cons_self)]
    grind
theorem worth_rat {ms : List Nat} {rs : List Rat} (hl : ms.length = rs.length) {F : List Trm} (h : ∀ t ∈ F, Under ms t.1) : wR rs F = Rat.divInt (wsum (mon ms rs) F) (bot ms rs) := by
  have e := wsum_rat hl h
  have p := bot_pos ms rs
  have nz : ((bot ms rs : Int) : Rat) ≠ 0 := by
    intro h
    have : bot ms rs = 0 := by exact_mod_cast h
    omega
  rw [Rat.divInt_eq_div, e]
  grind
theorem under_rep {m : Nat} {c : Int} {n : Nat} (hc : c ≤ (n : Int)) {k : List Int} (hl : k.length = m) (h : ∀ p ∈ k, 0 ≤ p ∧ p ≤ c) : Under (List.replicate m n) k := by
  induction k generalizing m with
  | nil =>
    obtain rfl : m = 0 := by simpa using hl.symm
    trivial
  | cons x k ih =>
    obtain ⟨m, rfl⟩ : ∃ j, m = j + 1 := ⟨k.length, by simpa using hl.symm⟩
    obtain ⟨h1, h2⟩ := h x List.mem_cons_self
    exact ⟨h1, by omega, ih (by simpa using hl) fun p hp => h p (List.mem_cons_of_mem _ hp)⟩
/-- the worth hangs on the sums alone -/
theorem wR_same {rs : List Rat} {m : Nat} {c d : Int} {A B : List Trm} (hm : m = rs.length) (hA : OkT m c A) (hB : OkT m d B) (e : ∀ k, sumK A k = sumK B k) : wR rs A = wR rs B := by
  have uA : ∀ t ∈ A, Under (List.replicate m (max c d).toNat) t.1 := fun t ht => under_rep (c := c) (by omega) (hA t ht).1 (hA t ht).2
  have uB : ∀ t ∈ B, Under (List.replicate m (max c d).toNat) t.1 := fun t ht => under_rep (c := d) (by omega) (hB t ht).1 (hB t ht).2
  have l : (List.replicate m (max c d).toNat).length = rs.length := by rw [List.length_replicate, hm]
  rw [worth_rat l uA, worth_rat l uB, wsum_same e]
theorem Fm.wR {rs : List Rat} {m : Nat} {c : Int} {A B : List Trm} (h : Fm A B) (hm : m = rs.length) (hA : OkT m c A) : wR rs B = wR rs A :=
  wR_same hm (h.ok hA) hA fun k => h.sum k
/-! sizes -/
/-- the bits of all the numbers together -/
def Bt : List Rat → Nat → Prop
  | [], _ => True
  | r :: rs, b => ∃ c, Sz c r ∧ c ≤ b ∧ Bt rs (b - c)
theorem Bt.mono : ∀ {rs : List Rat} {a b : Nat}, Bt rs a → a ≤ b → Bt rs b
  | [], _, _, _, _ => trivial
  | _ :: _, _, _, ⟨c, h1, h2, h3⟩, l => ⟨c, h1, by omega, h3.mono (by omega)⟩
theorem Bt.take : ∀ {rs : List Rat} {b : Nat} (i : Nat), Bt rs b → Bt (rs.take i) b
  | [], _, _, _ => by rw [List.take_nil]; trivial
  | _ :: _, _, 0, _ => trivial
  | _ :: _, _, i + 1, ⟨c, h1, h2, h3⟩ => ⟨c, h1, h2, h3.take i⟩
theorem Bt.at {r : Rat} : ∀ {rs : List Rat} {b : Nat}, Bt rs b → r ∈ rs → Sz b r
  | _ :: _, _, ⟨c, h1, h2, h3⟩, h => by
    rcases List.mem_cons.mp h with rfl | h
    · exact h1.mono h2
    · exact (h3.at h).mono (by omega)
theorem Bt.all {n : Nat} : ∀ {rs : List Rat}, (∀ r ∈ rs, Sz n r) → Bt rs (rs.length * n)
  | [], _ => trivial
  | r :: rs, h => ⟨n, h r List.mem_cons_self, by rw [List.length_cons, Nat.add_mul]; omega, (Bt.all fun x hx => h x (List.mem_cons_of_mem _ hx)).mono (by rw [List.length_cons, Nat.add_mul]; omega)⟩
theorem pow_le_of {x : Int} {c k : Nat} (h : Sm c x) : (x ^ k).natAbs ≤ 2 ^ (c * k) := by
  rw [Int.natAbs_pow, Nat.pow_mul]
  exact Nat.pow_le_pow_left (Nat.le_of_lt h) k
theorem mon_le {M : Nat} : ∀ {ms : List Nat} {rs : List Rat} {ks : List Int} {b : Nat}, Bt rs b → (∀ m ∈ ms, m ≤ M) → Under ms ks → (mon ms rs ks).natAbs ≤ 2 ^ (M * b)
  | [], _, _, _, _, _, _ => by unfold mon; exact Nat.one_le_two_pow
  | _ :: _, [], _, _, _, _, _ => by unfold mon; exact Nat.one_le_two_pow
  | _ :: _, _ :: _, [], _, _, _, u => by cases u
  | m :: ms, r :: rs, k :: ks, b, ⟨c, h1, h2, h3⟩, hm, ⟨k0, km, u⟩ => by
    have i := mon_le (M := M) h3 (fun x hx => hm x (List.mem_cons_of_mem _ hx)) u
    have m1 := hm m List.mem_cons_self
    show (r.num ^ k.toNat * (r.den : Int) ^ (m - k.toNat) * mon ms rs ks).natAbs ≤ _
    rw [Int.natAbs_mul, Int.natAbs_mul]
    refine Nat.le_trans (Nat.mul_le_mul (Nat.mul_le_mul (pow_le_of h1.t) (pow_le_of h1.b)) i) ?_
    rw [← Nat.pow_add, ← Nat.pow_add]
    refine Nat.pow_le_pow_right (by decide) ?_
    rw [← Nat.mul_add]
    have e1 : c * (k.toNat + (m - k.toNat)) ≤ c * M := Nat.mul_le_mul_left _ (by omega)
    have e2 : M * b = c * M + M * (b - c) := by rw [Nat.mul_comm c, ← Nat.mul_add]; congr 1; omega
    omega
theorem bot_le {M : Nat} : ∀ {ms : List Nat} {rs : List Rat} {b : Nat}, Bt rs b → (∀ m ∈ ms, m ≤ M) → (bot ms rs).natAbs ≤ 2 ^ (M * b)
  | [], _, _, _, _ => by unfold bot; exact Nat.one_le_two_pow
  | _ :: _, [], _, _, _ => by unfold bot; exact Nat.one_le_two_pow
  | m :: ms, r :: rs, b, ⟨c, h1, h2, h3⟩, hm => by
    have i := bot_le (M := M) h3 (fun x hx => hm x (List.mem_cons_of_mem _ hx))
    have m1 := hm m List.mem_cons_self
    show ((r.den : Int) ^ m * bot ms rs).natAbs ≤ _
    rw [Int.natAbs_mul]
    refine Nat.le_trans (Nat.mul_le_mul (pow_le_of h1.b) i) ?_
    rw [← Nat.pow_add]
    refine Nat.pow_le_pow_right (by decide) ?_
    have e1 : c * m ≤ c * M := Nat.mul_le_mul_left _ (by omega)
    have e2 : M * b = c * M + M * (b - c) := by rw [Nat.mul_comm c, ← Nat.mul_add]; congr 1; omega
    omega
theorem sm_of_le {x : Int} {n : Nat} (h : x.natAbs ≤ 2 ^ n) : Sm (n + 1) x := Nat.lt_of_le_of_lt h (by rw [Nat.pow_succ]; have := Nat.two_pow_pos n; omega)
theorem wsum_le {M S : Nat} {ms : List Nat} {rs : List Rat} {b : Nat} (hb : Bt rs b) (hm : ∀ m ∈ ms, m ≤ M) : ∀ {F : List Trm}, (∀ t ∈ F, Under ms t.1 ∧ Sm S t.2) → (wsum (mon ms rs) F).natAbs ≤ F.length * 2 ^ (S + M * b)
  | [], _ => Nat.zero_le _
  | t :: F, h => by
    obtain ⟨u, st⟩ := h t List.mem_cons_self
    have i := wsum_le hb hm fun x hx => h x (List.mem_cons_of_mem _ hx)
    rw [wsum_cons, List.length_cons, Nat.add_mul]
    have e : (t.2 * mon ms rs t.1).natAbs ≤ 2 ^ (S + M * b) := by
      rw [Int.natAbs_mul, Nat.pow_add]
      exact Nat.mul_le_mul (Nat.le_of_lt st) (mon_le hb hm u)
    have := Int.natAbs_add_le (t.2 * mon ms rs t.1) (wsum (mon ms rs) F)
    omega
theorem wsum_sm {M S : Nat} {ms : List Nat} {rs : List Rat} {b : Nat} {F : List Trm} (hb : Bt rs b) (hm : ∀ m ∈ ms, m ≤ M) (h : ∀ t ∈ F, Under ms t.1 ∧ Sm S t.2) (l : F.length ≤ 4000) : Sm (S + M * b + 12) (wsum (mon ms rs) F) := by
  have i := wsum_le hb hm h
  show (wsum (mon ms rs) F).natAbs < 2 ^ (S + M * b + 12)
  rw [Nat.pow_add _ (S + M * b) 12]
  have h1 : F.length * 2 ^ (S + M * b) ≤ 4000 * 2 ^ (S + M * b) := Nat.mul_le_mul_right _ l
  have h2 := Nat.two_pow_pos (S + M * b)
  omega
/-- one more of a product -/
theorem mon_take {ms : List Nat} {rs : List Rat} {ks : List Int} {i : Nat} {m : Nat} {r : Rat} {k : Int} (hm : ms[i]? = some m) (hr : rs[i]? = some r) (hk : ks[i]? = some k) : mon (ms.take (i + 1)) (rs.take (i + 1)) (ks.take (i + 1)) = mon (ms.take i) (rs.take i) (ks.take i) * (r.num ^ k.toNat * (r.den : Int) ^ (m - k.toNat)) := by
  induction i generalizing ms rs ks with
  | zero =>
    match ms, rs, ks, hm, hr, hk with
    | m' :: ms, r' :: rs, k' :: ks, hm, hr, hk =>
      simp only [List.getElem?_cons_zero, Option.some.injEq] at hm hr hk
      subst hm hr hk
      show r'.num ^ k'.toNat * (r'.den : Int) ^ (m' - k'.toNat) * mon (ms.take 0) (rs.take 0) (ks.take 0) = 1 * _
      rw [show mon (ms.take 0) (rs.take 0) (ks.take 0) = 1 by rw [List.take_zero]; rfl, Int.mul_one, Int.one_mul]
  | succ i ih =>
    match ms, rs, ks, hm, hr, hk with
    | m' :: ms, r' :: rs, k' :: ks, hm, hr, hk =>
      have e := ih (ms := ms) (rs := rs) (ks := ks) (by simpa using hm) (by simpa using hr) (by simpa using hk)
      show r'.num ^ k'.toNat * (r'.den : Int) ^ (m' - k'.toNat) * mon (ms.take (i + 1)) (rs.take (i + 1)) (ks.take (i + 1)) = r'.num ^ k'.toNat * (r'.den : Int) ^ (m' - k'.toNat) * mon (ms.take i) (rs.take i) (ks.take i) * _
      rw [e]
      exact (Int.mul_assoc _ _ _).symm
theorem bot_take {ms : List Nat} {rs : List Rat} {i : Nat} {m : Nat} {r : Rat} (hm : ms[i]? = some m) (hr : rs[i]? = some r) : bot (ms.take (i + 1)) (rs.take (i + 1)) = bot (ms.take i) (rs.take i) * (r.den : Int) ^ m := by
  induction i generalizing ms rs with
  | zero =>
    match ms, rs, hm, hr with
    | m' :: ms, r' :: rs, hm, hr =>
      simp only [List.getElem?_cons_zero, Option.some.injEq] at hm hr
      subst hm hr
      show (r'.den : Int) ^ m' * bot (ms.take 0) (rs.take 0) = 1 * _
      rw [show bot (ms.take 0) (rs.take 0) = 1 by rw [List.take_zero]; rfl, Int.mul_one, Int.one_mul]
  | succ i ih =>
    match ms, rs, hm, hr with
    | m' :: ms, r' :: rs, hm, hr =>
      have e := ih (ms := ms) (rs := rs) (by simpa using hm) (by simpa using hr)
      show (r'.den : Int) ^ m' * bot (ms.take (i + 1)) (rs.take (i + 1)) = (r'.den : Int) ^ m' * bot (ms.take i) (rs.take i) * _
      rw [e]
      exact (Int.mul_assoc _ _ _).symm
theorem Under.take : ∀ {ms : List Nat} {ks : List Int} (i : Nat), Under ms ks → Under (ms.take i) (ks.take i)
  | [], [], _, _ => by rw [List.take_nil, List.take_nil]; trivial
  | _ :: _, _ :: _, 0, _ => trivial
  | _ :: _, _ :: _, i + 1, ⟨a, b, c⟩ => ⟨a, b, c.take i⟩
theorem Under.len : ∀ {ms : List Nat} {ks : List Int}, Under ms ks → ms.length = ks.length
  | [], [], _ => rfl
  | _ :: _, _ :: _, ⟨_, _, c⟩ => by rw [List.length_cons, List.length_cons, c.len]
theorem Under.at : ∀ {ms : List Nat} {ks : List Int} {i m : Nat} {k : Int}, Under ms ks → ms[i]? = some m → ks[i]? = some k → 0 ≤ k ∧ k ≤ (m : Int)
  | _ :: _, _ :: _, 0, m, k, ⟨a, b, c⟩, h1, h2 => by
    simp only [List.getElem?_cons_zero, Option.some.injEq] at h1 h2
    subst h1 h2
    exact ⟨a, b⟩
  | _ :: _, _ :: _, i + 1, m, k, ⟨a, b, c⟩, h1, h2 => c.at (i := i) (by simpa using h1) (by simpa using h2)
end Mb
namespace Mb
open PySem L2
/-- fractions stand at the values -/
def Frs (K : PySem.W.Frag) (H : Hp) (ws : List V) (rs : List Rat) : Prop := Paired (fun v r => Fq K H v r) ws rs
theorem Frs.up {K : PySem.W.Frag} {H H' : Hp} {ws : List V} {rs : List Rat} (h : Frs K H ws rs) (s : Same H H') : Frs K H' ws rs := Paired.mapP h fun _ _ q => q.up s
theorem lc_by {α : Type} {K : PySem.W.Frag} {j : Nat} {te : TE} {σ : St} {Q : VK} {l : Addr} {ws : List V} {xs : List α} {H : Hp} (P : V → α → Prop) (R : Hp → V → α → Prop) (mono : ∀ {D : Addr} {H H' : Hp} {v : V} {x : α}, But D H H' → v ≠ .ref D → R H v x → R H' v x) (hl : SqL K H l ws) (pr : Paired P ws xs) (few : xs.length ≤ 10000) (hσ : ∀ v, wipe ((wipe σ [j]).set j (some v)) [j] = wipe σ [j])
    (stE : ∀ (v : V) (x : α) (H' : Hp), x ∈ xs → P v x → Same H H' → ∀ S : VK, (∀ (u : V) (H4 : Hp), Same H' H4 → R H4 u x → (∀ D, H' D ≠ none → u ≠ .ref D) → S u H4) → te ((wipe σ [j]).set j (some v)) H' S)
    (fin : ∀ (D : Addr) (vs : List V) (H' : Hp), Same H H' → H D = none → H' D = some (.lst vs) → Paired (R H') vs xs → Q (.ref D) H') : lcL K (gName j) tYes te [j] σ Q (.ref l) H := by
  refine ⟨l, rfl, ⟨_, hl⟩, fun D hD => ?_⟩
  have ln : ws.length = xs.length := Paired.length pr
  refine lc_list (xs := ws) (fun n H' => ∃ vs : List V, Same H H' ∧ H' D = some (.lst vs) ∧ vs.length = n ∧ Paired (fun v x => R H' v x ∧ v ≠ .ref D) vs (xs.take n)) ⟨[], same_new hD _, upd_same, rfl, by rw [List.take_zero]; exact .nil⟩ (fun n H' _ h => by obtain ⟨_, h, _⟩ := h; exact h.seq hl) ?_ ?_
  · rintro n v H' hx ⟨vs, g, d, lv, pr'⟩
    obtain ⟨x, ht, px⟩ := LiI.paired_get pr hx
    have hm := List.mem_of_getElem? ht
    have hn : n < xs.length := (List.getElem?_eq_some_iff.mp ht).1
    have e1 : xs.take (n + 1) = xs.take n ++ [x] := by rw [List.take_succ, ht, Option.toList_some]
    refine ⟨hσ _, ?_⟩
    refine r_yes ?_
    rw [if_pos rfl]
    refine stE v x H' hm px g _ fun u H4 g4 ru nu => ?_
    have d4 := g4 _ _ d
    have nD : u ≠ .ref D := nu D (by rw [d]; exact fun z => nomatch z)
    have bt : But D H4 (upd H4 D (.lst (vs ++ [u]))) := But.upd _ _ _
    refine ⟨_, d4, Nat.lt_of_le_of_lt (show vs.length ≤ 10000 by omega) (by decide), vs ++ [u], same_updS (g.trans g4) hD, upd_same, by simp [lv], ?_⟩
    rw [e1]
    exact paired_snoc' ⟨mono bt nD ru, nD⟩ (Paired.mapP pr' fun _ _ h => ⟨mono bt h.2 (mono (But.same g4) h.2 h.1), h.2⟩)
  · rintro H' ⟨vs, g, d, lv, pr'⟩
    rw [ln, List.take_length] at pr'
    exact fin D vs H' g hD d (Paired.mapP pr' fun _ _ h => h.1)
theorem r_forZ3 {K : PySem.W.Frag} {ta : TA} {g : TG} {tb : TS} {D : Ends} {σ : St} {H : Hp} (q : ta σ H fun vs H1 => ∃ a b c xs ys zs, vs = [.ref a, .ref b, .ref c] ∧ SqL K H1 a xs ∧ SqL K H1 b ys ∧ SqT K H1 c zs ∧ ∃ W : Nat → Nat → St → Hp → Prop, (∃ m, W 0 m σ H1) ∧ ∀ i m σ H, W i m σ H →
    ((Itz3 K a b c).stop i H ∧ D.nx σ H) ∨ ((Itz3 K a b c).go i H ∧ ∃ N : St → Hp → Prop, (∀ σ' H', N σ' H' → ∃ m', m' < m ∧ W (i + 1) m' σ' H') ∧ ∀ x H', (Itz3 K a b c).yld i H x H' → g x σ H' fun σ2 H2 => tb { D with nx := N, ct := N, bk := D.nx } σ2 H2)) : tFor (iZip3 K ta) g tb D σ H := q
def spWorth (K : PySem.W.Frag) : Sp := fun vs H Q _ => ∃ (f l : Addr) (F : List Trm) (ws : List V) (rs : List Rat) (m S b : Nat) (c : Int), vs = [.ref f, .ref l] ∧ FmAt H f F ∧ OkT m c F ∧ 0 ≤ c ∧ c ≤ 50 ∧ F.length ≤ 4000 ∧ (∀ t ∈ F, Sm S t.2) ∧ SqL K H l ws ∧ Frs K H ws rs ∧ rs.length = m ∧ m ≤ 60 ∧ Bt rs b ∧ S + c.toNat * b ≤ 7000 ∧ b ≤ 5000 ∧
  ∀ (r : Addr) (H' : Hp), Same H H' → H r = none → Fq K H' (.ref r) (wR rs F) → Q (.ref r) H'
/-- the list of a number's powers -/
def Pws (k : Nat) (x : Int) (H : Hp) (v : V) : Prop := ∃ a, v = .ref a ∧ H a = some (.lst (((List.range (k + 1)).map fun j => x ^ j).map V.int))
theorem Pws.up {k : Nat} {x : Int} {H H' : Hp} {v : V} (h : Pws k x H v) (s : Same H H') : Pws k x H' v := by
  obtain ⟨a, rfl, e⟩ := h
  exact ⟨a, rfl, s _ _ e⟩
theorem Pws.but {D : Addr} {k : Nat} {x : Int} {H H' : Hp} {v : V} (s : But D H H') (n : v ≠ .ref D) (h : Pws k x H v) : Pws k x H' v := by
  obtain ⟨a, rfl, e⟩ := h
  exact ⟨a, rfl, s _ _ (fun z => n (by rw [z])) e⟩
theorem part_sm {S M b : Nat} {ms : List Nat} {rs : List Rat} {ks : List Int} {n : Int} (i : Nat) (hb : Bt rs b) (hm : ∀ m ∈ ms, m ≤ M) (u : Under ms ks) (sn : Sm S n) : Sm (S + M * b + 1) (n * mon (ms.take i) (rs.take i) (ks.take i)) := by
  refine sm_of_le ?_
  rw [Int.natAbs_mul, Nat.pow_add]
  exact Nat.mul_le_mul (Nat.le_of_lt sn) (mon_le (hb.take i) (fun x hx => hm x (List.mem_of_mem_take hx)) (u.take i))
end Mb
namespace Mb
open PySem L2
def spLWorth (K : PySem.W.Frag) : Sp := fun vs H Q _ => ∃ (f l : Addr) (F : List Trm) (ws : List V) (rs : List Rat) (m S b : Nat) (c : Int), vs = [.ref f, .ref l] ∧ FmAt H f F ∧ OkT m c F ∧ 0 ≤ c ∧ c ≤ 50 ∧ F.length ≤ 4000 ∧ (∀ t ∈ F, Sm S t.2) ∧ SqL K H l ws ∧ Frs K H ws rs ∧ rs.length = m ∧ m ≤ 60 ∧ Bt rs b ∧ S + c.toNat * b ≤ 7000 ∧ b ≤ 5000 ∧ 1 ≤ b ∧
  ∀ (r : V) (H' : Hp), Same H H' → Rq K H' r (wR rs F) (S + c.toNat * b + 12) → Q r H'
end Mb
namespace Mb
open PySem L2
theorem under_of : ∀ {ms : List Nat} {ks : List Int}, ms.length = ks.length → (∀ (j x : Nat), ms[j]? = some x → ks.getD j 0 ≤ (x : Int)) → (∀ p ∈ ks, 0 ≤ p) → Under ms ks
  | [], [], _, _, _ => trivial
  | m :: ms, k :: ks, hl, h, hp => ⟨hp k List.mem_cons_self, h 0 m rfl, under_of (by simpa using hl) (fun j x hx => h (j + 1) x (by simpa using hx)) fun p hq => hp p (List.mem_cons_of_mem _ hq)⟩
end Mb
namespace Mb
open PySem L2
theorem r_catL {H : Hp} {Q : VK} {l b : Addr} {xs zs : List V} (h1 : H l = some (.lst xs)) (h2 : H b = some (.lst zs)) (s : xs.length + zs.length ≤ sizeLine) (k : ∀ (p : Addr) (H' : Hp), Same H H' → H' p = some (.lst (xs ++ zs)) → Q (.ref p) H') : rCat (.ref l) (.ref b) H Q := ⟨l, b, xs, zs, rfl, rfl, h1, h2, s, fun p hp => k p _ (same_new hp _) upd_same⟩
end Mb
namespace Mb
open PySem L2
def spIsWorth (K : PySem.W.Frag) : Sp := fun vs H Q _ => ∃ (v w : V) (q q' : Rat) (n m : Nat), vs = [v, w] ∧ Fq K H v q ∧ Sz n q ∧ Rq K H w q' m ∧ q = q' ∧ n ≤ 20000 ∧ m ≤ 20000 ∧ Q (.bl true) H
theorem Bt.snoc {r : Rat} {c : Nat} (hr : Sz c r) : ∀ {rs : List Rat} {b : Nat}, Bt rs b → Bt (rs ++ [r]) (b + c)
  | [], b, _ => ⟨c, hr, by omega, trivial⟩
  | _ :: _, b, ⟨d, h1, h2, h3⟩ => ⟨d, h1, by omega, by have := h3.snoc hr; rw [show b + c - d = b - d + c by omega]; exact this⟩
theorem Frs.snoc {K : PySem.W.Frag} {H : Hp} {ws : List V} {rs : List Rat} {v : V} {r : Rat} (h : Frs K H ws rs) (hv : Fq K H v r) : Frs K H (ws ++ [v]) (rs ++ [r]) := paired_snoc' hv h
theorem Frs.but {K : PySem.W.Frag} {H H' : Hp} {p : Addr} {xs : List V} {ws : List V} {rs : List Rat} (h : Frs K H ws rs) (hp : H p = some (.lst xs)) (s : But p H H') : Frs K H' ws rs := Paired.mapP h fun _ _ q => q.but hp s
/-- the worth's size -/
theorem wR_sz {S M b : Nat} {m : Nat} {rs : List Rat} {F : List Trm} {c : Int} (hm : rs.length = m) (hb : Bt rs b) (ok : OkT m c F) (hc : 0 ≤ c) (sF : ∀ t ∈ F, Sm S t.2) (l : F.length ≤ 4000) (hM : M = c.toNat) : Sz (S + M * b + 12) (wR rs F) := by
  have lm : (List.replicate m M).length = rs.length := by rw [List.length_replicate, hm]
  have un : ∀ t ∈ F, Under (List.replicate m M) t.1 := fun t ht => under_rep (c := c) (by omega) (ok t ht).1 (ok t ht).2
  have mM : ∀ x ∈ List.replicate m M, x ≤ M := fun x hx => by rw [(List.mem_replicate.mp hx).2]; exact Nat.le_refl _
  rw [worth_rat lm un]
  have bp := bot_pos (List.replicate m M) rs
  exact Sz.divInt (by omega) (wsum_sm hb mM (fun t ht => ⟨un t ht, sF t ht⟩) l) ((sm_of_le (bot_le hb mM)).mono (by omega))
def spNumbers (K : PySem.W.Frag) : Sp := fun vs H Q _ => ∃ (p : Addr) (m : Nat) (b : Int), vs = [.ref p, .int (m : Int)] ∧ Pl H p b ∧ b ≤ 1800000 ∧ m ≤ 7 ∧
  ∀ (l : Addr) (ws : List V) (rs : List Rat) (H' : Hp), But p H H' → Pl H' p (b + 1000) → H l = none → H' l = some (.lst ws) → Frs K H' ws rs → rs.length = m → Bt rs 90 → Q (.ref l) H'
end Mb
namespace Mb
open PySem L2
theorem Fq.plB {K : PySem.W.Frag} {H H' : Hp} {v : V} {q : Rat} {p : Addr} {b : Int} (h : Fq K H v q) (hp : Pl H p b) (s : But p H H') : Fq K H' v q := by
  obtain ⟨x, y, z, e, _⟩ := hp
  exact h.but e s
theorem Frs.plB {K : PySem.W.Frag} {H H' : Hp} {ws : List V} {rs : List Rat} {p : Addr} {b : Int} (h : Frs K H ws rs) (hp : Pl H p b) (s : But p H H') : Frs K H' ws rs := by
  obtain ⟨x, y, z, e, _⟩ := hp
  exact h.but e s
theorem Fb.fq {K : PySem.W.Frag} {H : Hp} {o : Addr} {t u : Int} (h : Fb t u) (e : H o = some (.tup [.int t, .int u])) : ∃ r : Rat, Fq K H (.ref o) r ∧ Sz 31 r := by
  obtain ⟨h1, h2, h3, h4⟩ := h
  obtain ⟨q, rfl, rfl, s⟩ := Fr.rat (m := 31) ⟨h1, h2, by unfold Sm; omega, by unfold Sm; omega⟩
  exact ⟨q, ⟨o, rfl, tupOf e⟩, s⟩
end Mb
namespace Mb
open PySem L2
def spGreatW : Sp := fun vs H Q _ => ∃ (p : Addr) (m : Nat) (b : Int), vs = [.ref p, .int (m : Int)] ∧ Pl H p b ∧ b ≤ 1700000 ∧ m ≤ 7 ∧ ∀ (H' : Hp), But p H H' → Q (.bl true) H'
theorem low_fq {K : PySem.W.Frag} {H : Hp} {o : Addr} {t b : Int} {n : Nat} (e : H o = some (.tup [.int (lowT t b), .int (lowB t b)])) (hb : b ≠ 0) (h1 : Sm n t) (h2 : Sm n b) : Fq K H (.ref o) (Rat.divInt t b) ∧ Sz n (Rat.divInt t b) := ⟨Fq.of _ hb rfl e, Sz.divInt hb h1 h2⟩
end Mb
namespace Mb
open PySem L2
theorem rats_lay : ∀ rs : List Rat, PyData.canLayAll0 (rs.map dq) = true ∧ PyData.depthAll (rs.map dq) ≤ 10
  | [] => ⟨rfl, by decide⟩
  | r :: rs => by
    obtain ⟨h1, h2⟩ := rats_lay rs
    rw [List.map_cons]
    refine ⟨?_, ?_⟩
    · unfold PyData.canLayAll0
      rw [h1]
      rfl
    · unfold PyData.depthAll
      have : PyData.depth (dq r) ≤ 5 := by
        unfold dq
        simp only [PyData.depth, PyData.depthAll]
        omega
      omega
theorem Frs.dp {K : PySem.W.Frag} {H : Hp} : ∀ {ws : List V} {rs : List Rat}, Frs K H ws rs → DpAll K H ws (rs.map dq)
  | _, _, .nil => .nil
  | _, _, .cons h r => .cons h.dp (Frs.dp r)
theorem r_neFrs {K : PySem.W.Frag} {H : Hp} {Q : VK} {a b : Addr} {ws : List V} {rs : List Rat} (h1 : SqL K H a ws) (h2 : SqL K H b ws) (fr : Frs K H ws rs) (k : Q (.bl false) H) : rNeD K (.ref a) (.ref b) H Q := by
  obtain ⟨l1, l2⟩ := rats_lay rs
  have c : PyData.canLay0 (.list (rs.map dq)) = true := by unfold PyData.canLay0; exact l1
  have d : PyData.depth (.list (rs.map dq)) ≤ 64 := by unfold PyData.depth; omega
  have s : SeqAt.shaped (.list (rs.map dq)) = true := by
    unfold SeqAt.shaped
    rw [c, decide_eq_true d]
    rfl
  refine ⟨_, _, .lst h1 fr.dp, .lst h2 fr.dp, s, s, ?_⟩
  rw [SeqAt.eqv_refl _ c]
  exact k
theorem r_neQ {K : PySem.W.Frag} {H : Hp} {Q : VK} {v w : V} {p q : Rat} (h1 : Fq K H v p) (h2 : Fq K H w q) (e : p = q) (k : Q (.bl false) H) : rNeD K v w H Q := by
  subst e
  refine ⟨_, _, h1.dp, h2.dp, rfl, rfl, ?_⟩
  rw [SeqAt.eqv_refl _ rfl]
  exact k
theorem sum_pr {t : Trm} {k : List Int} : ∀ G : List Trm, sumK (pr1 t G) k = t.2 * sumK (pr1 (t.1, 1) G) k
  | [] => by
    show (0 : Int) = t.2 * 0
    rw [Int.mul_zero]
  | u :: G => by
    show sumK ((addL t.1 u.1, t.2 * u.2) :: pr1 t G) k = t.2 * sumK ((addL t.1 u.1, 1 * u.2) :: pr1 (t.1, 1) G) k
    rw [sumK_cons, sumK_cons, sum_pr G, Int.mul_add]
    show (if addL t.1 u.1 = k then t.2 * u.2 else 0) + _ = t.2 * (if addL t.1 u.1 = k then 1 * u.2 else 0) + _
    split
    · rw [Int.one_mul]
    · rw [Int.mul_zero]
theorem sum_mul {k : List Int} {G : List Trm} : ∀ F : List Trm, sumK (mulT F G) k = wsum (fun p => sumK (pr1 (p, 1) G) k) F
  | [] => rfl
  | t :: F => by
    rw [mul_cons, sumK_app, wsum_cons, sum_mul F, sum_pr]
theorem mul_same {A B G : List Trm} (h : ∀ k, sumK A k = sumK B k) (k : List Int) : sumK (mulT A G) k = sumK (mulT B G) k := by
  rw [sum_mul, sum_mul, wsum_same h]
theorem mul_app {A B G : List Trm} : mulT (A ++ B) G = mulT A G ++ mulT B G := List.flatMap_append
theorem mul_sm {F G : List Trm} {a b : Nat} (hF : ∀ t ∈ F, Sm a t.2) (hG : ∀ t ∈ G, Sm b t.2) : ∀ t ∈ mulT F G, Sm (a + b) t.2 := fun x hx => by
  obtain ⟨t, ht, hx⟩ := List.mem_flatMap.mp hx
  obtain ⟨u, hu, rfl⟩ := List.mem_map.mp hx
  exact (hF t ht).mul (hG u hu)
theorem neg_sm {F : List Trm} {a : Nat} (hF : ∀ t ∈ F, Sm a t.2) : ∀ t ∈ negT F, Sm a t.2 := fun x hx => by
  obtain ⟨t, ht, rfl⟩ := List.mem_map.mp hx
  exact (hF t ht).neg
theorem app_sm {F G : List Trm} {a : Nat} (hF : ∀ t ∈ F, Sm a t.2) (hG : ∀ t ∈ G, Sm a t.2) : ∀ t ∈ F ++ G, Sm a t.2 := fun x hx => (List.mem_append.mp hx).elim (hF x) (hG x)
theorem put_sm {F : List Trm} {a m B C : Nat} {n : Int} (ok : OkT m 12 F) (ha : a < m) (hn : Sm B n) (hF : ∀ t ∈ F, Sm C t.2) : ∀ t ∈ putT a n F, Sm (C + (B * 12 + 1)) t.2 := fun x hx => by
  obtain ⟨t, ht, rfl⟩ := List.mem_map.mp hx
  refine (hF t ht).mul ((hn.pow _).mono ?_)
  have la : a < t.1.length := by rw [(ok t ht).1]; exact ha
  have := (ok t ht).2 _ (getD_at la).1
  have : B * (t.1.getD a 0).toNat ≤ B * 12 := Nat.mul_le_mul_left _ (by omega)
  omega
theorem Bt.set {r : Rat} {c : Nat} (hr : Sz c r) : ∀ {rs : List Rat} {b : Nat} (a : Nat), Bt rs b → Bt (rs.set a r) (b + c)
  | [], _, _, _ => trivial
  | _ :: _, b, 0, ⟨d, h1, h2, h3⟩ => ⟨c, hr, by omega, h3.mono (by omega)⟩
  | _ :: _, b, a + 1, ⟨d, h1, h2, h3⟩ => ⟨d, h1, by omega, by have := h3.set hr a; rw [show b + c - d = b - d + c by omega]; exact this⟩
theorem frs_set {K : PySem.W.Frag} {H : Hp} {v : V} {r : Rat} (hv : Fq K H v r) : ∀ {ws : List V} {rs : List Rat} (a : Nat), Frs K H ws rs → Frs K H (ws.set a v) (rs.set a r)
  | _, _, _, .nil => .nil
  | _, _, 0, .cons _ t => .cons hv t
  | _, _, a + 1, .cons h t => .cons h (frs_set hv a t)
theorem okT_oks {m : Nat} {c : Int} {F : List Trm} {rs : List Rat} (ok : OkT m c F) (hm : rs.length = m) : ∀ u ∈ F, u.1.length = rs.length ∧ ∀ p ∈ u.1, 0 ≤ p := fun u hu => ⟨by rw [(ok u hu).1, hm], fun p hp => ((ok u hu).2 p hp).1⟩
theorem set_parts {α : Type} {ws : List α} {a : Nat} {v : α} (h : a < ws.length) : ws.take a ++ [v] ++ ws.drop (a + 1) = ws.set a v := by
  rw [List.set_eq_take_append_cons_drop, if_pos h, List.append_assoc]
  rfl
end Mb
namespace Mb
open PySem L2
theorem Rq.but {K : PySem.W.Frag} {H H' : Hp} {v : V} {q : Rat} {n : Nat} {p : Addr} {xs : List V} (h : Rq K H v q n) (hp : H p = some (.lst xs)) (s : But p H H') : Rq K H' v q n := by
  obtain ⟨a, t, b, rfl, h1, h2⟩ := h
  exact ⟨a, t, b, rfl, s.tup hp h1, h2⟩
end Mb
namespace Mb
open PySem L2
theorem cut_take {xs : List V} {a : Nat} (h : a ≤ xs.length) : cutV xs none (some (a : Int)) = xs.take a := by
  unfold cutV
  have e0 : HT.sIx xs.length 0 none = 0 := rfl
  have e2 : HT.sIx xs.length xs.length (some (a : Int)) = min a xs.length := HT.sIx_nat _ _ _
  rw [e0, e2, List.drop_zero, Nat.sub_zero, Nat.min_eq_left h]
theorem cut_drop {xs : List V} {a : Nat} (h : a < xs.length) : cutV xs (some ((a : Int) + 1)) none = xs.drop (a + 1) := by
  unfold cutV
  have e1 : HT.sIx xs.length xs.length none = xs.length := rfl
  have e3 : HT.sIx xs.length 0 (some ((a : Int) + 1)) = a + 1 := by
    rw [show ((a : Int) + 1) = (((a + 1 : Nat)) : Int) by omega, HT.sIx_nat]
    omega
  rw [e1, e3, List.take_of_length_le (by rw [List.length_drop]; exact Nat.le_refl _)]
end Mb
namespace Mb
open PySem PySem.Spec PyProof.Rows L2
/-! ### match over texts -/
structure PM (X : Cx) (cs : List MatchCase) (t : V → TS) : Prop where
  run : ∀ (pins : List (Addr × Obj)) (s : Shared) (σ : L2.St) (H : Hp) (D : Ends) (v : V) (u : Value) (first : Bool), Inv X pins σ H s → RelV v u → t v D σ H → wpAny (model X.prog X.w) X.A (matchCases cs X.env u first) (SP X pins D) X.xe s
def tCaseN : V → TS := fun _ D σ H => D.nx σ H
def tCase (te : TE) (tb : TS) (tr : V → TS) : V → TS := fun v D σ H => te σ H fun x H1 => ∃ z y : Str, v = .str z ∧ x = .str y ∧ if decide (z = y) = true then tb D σ H1 else tr v D σ H1
def tMatch (ts : TE) (tc : V → TS) : TS := fun D σ H => ts σ H fun v H1 => tc v D σ H1
section
variable {X : Cx}
theorem pm_nil : PM X [] tCaseN := ⟨fun pins s σ H D v u first I _ h => wpAny_matchCases_nil ⟨σ, H, I, h⟩⟩
theorem pm_str {value : Expr} {pos : Pos} {body : List Stmt} {rest : List MatchCase} {te : TE} {tb : TS} {tr : V → TS} (he : PE X value te) (hb : PSs X body tb) (hr : PM X rest tr) : PM X (⟨.MatchValue value pos, none, body⟩ :: rest) (tCase te tb tr) := by
  refine ⟨fun pins s σ H D v u first I r h => wpAny_matchCases_cons (wpAny_matchPattern_Value (thn (he.run pins s σ H _ I h) fun x s1 ⟨y, H1, I1, ry, z, w, ev, ew, q⟩ => ?_))⟩
  subst ev ew
  obtain ⟨t, rfl⟩ := r
  obtain ⟨t2, rfl⟩ := ry
  refine thn (op_eq pins s1 σ H1 (.str z) (.str w) (.str z t) (.str w t2) (fun b H' => b = .bl (decide (z = w)) ∧ H' = H1) I1 ⟨t, rfl⟩ ⟨t2, rfl⟩ ⟨rfl, by rw [show decide (V.str z = V.str w) = decide (z = w) from by simp]; exact ⟨rfl, rfl⟩⟩) fun c s2 ⟨b, H2, I2, rb, eb, eH⟩ => ?_
  subst eb eH
  cases rb
  refine wpAny_truthy_bool ?_
  cases hd : decide (z = w) with
  | true =>
    rw [hd] at q
    simp only [if_true] at q ⊢
    show wpAny _ _ (assignInOrder [] []) _ _ s2
    refine wpAny_pure ?_
    exact hb.run pins s2 σ H2 D I2 q
  | false =>
    rw [hd] at q
    simp only [Bool.false_eq_true, if_false] at q ⊢
    exact hr.run pins s2 σ H2 D (.str z) _ false I2 ⟨t, rfl⟩ q
theorem ps_match {subject : Expr} {cases_ : List MatchCase} {pos : Pos} {ts : TE} {tc : V → TS} (hs : PE X subject ts) (hc : PM X cases_ tc) : PS X (.Match subject cases_ pos) (tMatch ts tc) := by
  refine ⟨fun pins s σ H D I h => wpAny_Match (thn (hs.run pins s σ H _ I h) fun u s1 ⟨v, H1, I1, r, q⟩ => ?_)⟩
  exact hc.run pins s1 σ H1 D v u true I1 r q
theorem r_match {ts : TE} {tc : V → TS} {D : Ends} {σ : L2.St} {H : Hp} (q : ts σ H fun v H1 => tc v D σ H1) : tMatch ts tc D σ H := q
theorem r_case {te : TE} {tb : TS} {tr : V → TS} {v : V} {D : Ends} {σ : L2.St} {H : Hp} (q : te σ H fun x H1 => ∃ z y : Str, v = .str z ∧ x = .str y ∧ if decide (z = y) = true then tb D σ H1 else tr v D σ H1) : tCase te tb tr v D σ H := q
theorem r_caseY {y : Str} {tb : TS} {tr : V → TS} {D : Ends} {σ : L2.St} {H : Hp} (q : tb D σ H) : tCase (tC (.str y)) tb tr (.str y) D σ H := ⟨y, y, rfl, rfl, by rw [decide_eq_true rfl]; exact q⟩
theorem r_caseN {y z : Str} {tb : TS} {tr : V → TS} {D : Ends} {σ : L2.St} {H : Hp} (n : z ≠ y) (q : tr (.str z) D σ H) : tCase (tC (.str y)) tb tr (.str z) D σ H := ⟨z, y, rfl, rfl, by rw [decide_eq_false n]; exact q⟩
end
end Mb
namespace Mb
open PySem PySem.Spec PyProof.Rows L2
/-- x(*y), x a def of the text -/
def tStar1 (K : PySem.W.Frag) (sp : Sp) (te : TE) : TE := fun σ H Q => te σ H fun y H1 => ∃ a xs, y = V.ref a ∧ (SqT K H1 a xs ∨ SqL K H1 a xs) ∧ sp (xs ++ []) H1 Q E0
theorem pe_star1 {X : Cx} {k : Nat} {x : Str} {ps : List Str} {sp : Sp} {e : Expr} {te : TE} {p sp_ pos : Pos} (G : Kn X.prog X.w X.K X.mg X.base k x ps sp) (hr : Room k X.A) (hg : Gl X x) (he : PE X e te) (hd : (x == ("__debug__" : Str)) = false := by decide)
    (hst : starEach [.Starred e sp_] X.env = [(true, eval e X.env)] := by rfl) : PE X (.Call (.Name x p) [.Starred e sp_] [] pos) (tStar1 X.K sp te) := by
  obtain ⟨f, fd, F, m, kp, b⟩ := G.ex
  exact StX.pe_callS1 (F.raw b .nil) hr kp hg m pass0 he hd hst
theorem r_star1 {K : PySem.W.Frag} {sp : Sp} {te : TE} {σ : L2.St} {H : Hp} {Q : VK} (q : te σ H fun y H1 => ∃ a xs, y = V.ref a ∧ (SqT K H1 a xs ∨ SqL K H1 a xs) ∧ sp (xs ++ []) H1 Q E0) : tStar1 K sp te σ H Q := q
end Mb
namespace Mb
open PySem L2
/-! ### forms told by their worths: degrees, sizes -/
def OkD (m d : Nat) (ts : List Trm) : Prop := ∀ t ∈ ts, t.1.length = m ∧ (∀ p ∈ t.1, 0 ≤ p) ∧ t.1.sum ≤ (d : Int)
def allP : Nat → Nat → List (List Int)
  | 0, _ => [[]]
  | m + 1, 0 => (allP m 0).map fun r => (0 : Int) :: r
  | m + 1, d + 1 => ((allP m (d + 1)).map fun r => (0 : Int) :: r) ++ ((allP (m + 1) d).map fun r => match r with | k :: s => (k + 1) :: s | [] => [])
def cnt : Nat → Nat → Nat
  | 0, _ => 1
  | m + 1, 0 => cnt m 0
  | m + 1, d + 1 => cnt m (d + 1) + cnt (m + 1) d
theorem len_allP : ∀ (m d : Nat), (allP m d).length = cnt m d
  | 0, _ => by unfold allP cnt; rfl
  | m + 1, 0 => by unfold allP cnt; rw [List.length_map, len_allP m 0]
  | m + 1, d + 1 => by unfold allP cnt; rw [List.length_append, List.length_map, List.length_map, len_allP m (d + 1), len_allP (m + 1) d]
theorem cnt_step {m d : Nat} : cnt m d ≤ cnt m (d + 1) := by
  cases m with
  | zero => unfold cnt; exact Nat.le_refl _
  | succ m =>
    rw [show cnt (m + 1) (d + 1) = cnt m (d + 1) + cnt (m + 1) d by rw [cnt]]
    omega
theorem cnt_mono {m d e : Nat} (h : d ≤ e) : cnt m d ≤ cnt m e := by
  obtain ⟨k, rfl⟩ := Nat.le.dest h
  induction k with
  | zero => exact Nat.le_refl _
  | succ k ih => exact Nat.le_trans (ih (by omega)) cnt_step
theorem sum_nn : ∀ {ks : List Int}, (∀ p ∈ ks, 0 ≤ p) → 0 ≤ ks.sum
  | [], _ => by simp
  | k :: r, h => by
    rw [List.sum_cons]
    have := h k List.mem_cons_self
    have := sum_nn (ks := r) fun p hp => h p (List.mem_cons_of_mem _ hp)
    omega
theorem le_sum : ∀ {ks : List Int}, (∀ p ∈ ks, 0 ≤ p) → ∀ p ∈ ks, p ≤ ks.sum
  | k :: r, h, p, hp => by
    rw [List.sum_cons]
    have h1 := h k List.mem_cons_self
    have h2 := sum_nn (ks := r) fun p hp => h p (List.mem_cons_of_mem _ hp)
    rcases List.mem_cons.mp hp with rfl | hp
    · omega
    · have := le_sum (ks := r) (fun p hp => h p (List.mem_cons_of_mem _ hp)) p hp
      omega
theorem mem_allP : ∀ (m d : Nat) (ks : List Int), ks.length = m → (∀ p ∈ ks, 0 ≤ p) → ks.sum ≤ (d : Int) → ks ∈ allP m d
  | 0, d, [], _, _, _ => by unfold allP; simp
  | m + 1, 0, k :: r, hl, h0, hs => by
    have h1 := h0 k List.mem_cons_self
    have h2 := sum_nn (ks := r) fun p hp => h0 p (List.mem_cons_of_mem _ hp)
    rw [List.sum_cons] at hs
    have hk : k = 0 := by omega
    subst hk
    unfold allP
    exact List.mem_map_of_mem (f := fun r => (0 : Int) :: r) (mem_allP m 0 r (by simpa using hl) (fun p hp => h0 p (List.mem_cons_of_mem _ hp)) (by omega))
  | m + 1, d + 1, k :: r, hl, h0, hs => by
    have h1 := h0 k List.mem_cons_self
    rw [List.sum_cons] at hs
    unfold allP
    refine List.mem_append.mpr ?_
    by_cases hk : k = 0
    · subst hk
      exact .inl (List.mem_map_of_mem (f := fun r => (0 : Int) :: r) (mem_allP m (d + 1) r (by simpa using hl) (fun p hp => h0 p (List.mem_cons_of_mem _ hp)) (by omega)))
    · refine .inr (List.mem_map.mpr ⟨(k - 1) :: r, mem_allP (m + 1) d ((k - 1) :: r) (by simpa using hl) (fun p hp => ?_) (by rw [List.sum_cons]; omega), ?_⟩)
      · rcases List.mem_cons.mp hp with rfl | hp
        · omega
        · exact h0 p (List.mem_cons_of_mem _ hp)
      · show (k - 1 + 1) :: r = k :: r
        rw [Int.sub_add_cancel]
theorem nodup_le : ∀ {A B : List (List Int)}, A.Nodup → (∀ x ∈ A, x ∈ B) → A.length ≤ B.length := by
  intro A
  induction A with
  | nil => intro B _ _; exact Nat.zero_le _
  | cons a r ih =>
    intro B nd h
    obtain ⟨h1, h2⟩ := List.nodup_cons.mp nd
    have ha := h a List.mem_cons_self
    have := ih (B := B.erase a) h2 fun x hx => (List.mem_erase_of_ne (fun e => h1 (by rw [← e]; exact hx))).mpr (h x (List.mem_cons_of_mem _ hx))
    rw [List.length_erase_of_mem ha] at this
    have := List.length_pos_of_mem ha
    rw [List.length_cons]
    omega
theorem OkD.few {m d : Nat} {F : List Trm} (h : OkD m d F) (f : Fm F F) : F.length ≤ cnt m d := by
  have nd := up_nd f.up
  rw [← len_allP, show F.length = (F.map (·.1)).length by rw [List.length_map]]
  refine nodup_le nd fun k hk => ?_
  obtain ⟨t, ht, rfl⟩ := List.mem_map.mp hk
  obtain ⟨h1, h2, h3⟩ := h t ht
  exact mem_allP m d _ h1 h2 h3
theorem OkD.okT {m d : Nat} {F : List Trm} (h : OkD m d F) : OkT m (d : Int) F := fun t ht => by
  obtain ⟨h1, h2, h3⟩ := h t ht
  exact ⟨h1, fun p hp => ⟨h2 p hp, Int.le_trans (le_sum h2 p hp) h3⟩⟩
theorem OkD.mono {m d e : Nat} {F : List Trm} (h : OkD m d F) (l : d ≤ e) : OkD m e F := fun t ht => by
  obtain ⟨h1, h2, h3⟩ := h t ht
  exact ⟨h1, h2, by omega⟩
theorem Fm.okD {ts F : List Trm} {m d : Nat} (h : Fm ts F) (k : OkD m d ts) : OkD m d F := fun x hx => by
  obtain ⟨h1, h2⟩ := (h.mem x).mp hx
  by_cases e : x.1 ∈ ts.map (·.1)
  · obtain ⟨t, ht, e⟩ := List.mem_map.mp e
    rw [← e]
    exact k t ht
  · rw [sumK_none e] at h2
    exact absurd h2 h1
theorem OkD.app {m d : Nat} {F G : List Trm} (h : OkD m d F) (k : OkD m d G) : OkD m d (F ++ G) := fun t ht => (List.mem_append.mp ht).elim (h t) (k t)
theorem OkD.neg {m d : Nat} {F : List Trm} (h : OkD m d F) : OkD m d (negT F) := fun x hx => by
  obtain ⟨t, ht, rfl⟩ := List.mem_map.mp hx
  exact h t ht
theorem OkD.scale {m d : Nat} {n : Int} {F : List Trm} (h : OkD m d F) : OkD m d (scaleT n F) := fun x hx => by
  obtain ⟨t, ht, rfl⟩ := List.mem_map.mp hx
  exact h t ht
theorem sum_addL : ∀ {xs ys : List Int}, xs.length = ys.length → (addL xs ys).sum = xs.sum + ys.sum
  | [], [], _ => rfl
  | x :: xs, y :: ys, h => by
    show ((x + y) :: addL xs ys).sum = _
    rw [List.sum_cons, List.sum_cons, List.sum_cons, sum_addL (by simpa using h)]
    omega
theorem nn_addL : ∀ {xs ys : List Int}, (∀ p ∈ xs, 0 ≤ p) → (∀ p ∈ ys, 0 ≤ p) → ∀ p ∈ addL xs ys, 0 ≤ p
  | [], _, _, _, p, hp => by cases hp
  | _ :: _, [], _, _, p, hp => by cases hp
  | x :: xs, y :: ys, h, k, p, hp => by
    rcases List.mem_cons.mp (show p ∈ (x + y) :: addL xs ys from hp) with rfl | hp
    · have := h x List.mem_cons_self
      have := k y List.mem_cons_self
      omega
    · exact nn_addL (fun p hp => h p (List.mem_cons_of_mem _ hp)) (fun p hp => k p (List.mem_cons_of_mem _ hp)) p hp
theorem OkD.mul {m d e : Nat} {F G : List Trm} (h : OkD m d F) (k : OkD m e G) : OkD m (d + e) (mulT F G) := fun x hx => by
  obtain ⟨t, ht, hx⟩ := List.mem_flatMap.mp hx
  obtain ⟨u, hu, rfl⟩ := List.mem_map.mp hx
  obtain ⟨h1, h2, h3⟩ := h t ht
  obtain ⟨k1, k2, k3⟩ := k u hu
  refine ⟨addL_len h1 k1, nn_addL h2 k2, ?_⟩
  show (addL t.1 u.1).sum ≤ _
  rw [sum_addL (by rw [h1, k1])]
  omega
theorem Fm.self {ts F : List Trm} (h : Fm ts F) : Fm F F := fm_self h.up fun x hx => ((h.mem x).mp hx).1
theorem Fm.smk {B k : Nat} {ts F : List Trm} (f : Fm ts F) (h : ∀ t ∈ ts, Sm B t.2) (l : ts.length ≤ 2 ^ k) : ∀ x ∈ F, Sm (B + k) x.2 := fun x hx => by
  obtain ⟨h1, h2⟩ := (f.mem x).mp hx
  by_cases e : x.1 ∈ ts.map (·.1)
  · have b := sum_sm h x.1
    rw [← h2] at b
    -- strictly: one term of the sum is strictly below
    have c : ∀ {ts : List Trm}, (∀ t ∈ ts, Sm B t.2) → ts ≠ [] → (sumK ts x.1).natAbs < ts.length * 2 ^ B := by
      intro ts
      induction ts with
      | nil => intro _ h; exact absurd rfl h
      | cons t r ih =>
        intro h _
        rw [sumK_cons]
        have ht : t.2.natAbs < 2 ^ B := h t List.mem_cons_self
        have h0 : ((if t.1 = x.1 then t.2 else 0) : Int).natAbs < 2 ^ B := by
          split
          · exact ht
          · exact Nat.pow_pos (by decide)
        have ha := Int.natAbs_add_le (if t.1 = x.1 then t.2 else 0) (sumK r x.1)
        have hr := sum_sm (ts := r) (fun t ht => h t (List.mem_cons_of_mem _ ht)) x.1
        rw [List.length_cons, Nat.succ_mul]
        omega
    have ne : ts ≠ [] := fun z => by rw [z] at e; cases e
    have := c h ne
    rw [← h2] at this
    show x.2.natAbs < 2 ^ (B + k)
    rw [Nat.pow_add, Nat.mul_comm]
    exact Nat.lt_of_lt_of_le this (Nat.mul_le_mul_right _ l)
  · rw [sumK_none e] at h2
    exact absurd h2 h1
theorem wR_scale {rs : List Rat} {n : Int} : ∀ F : List Trm, wR rs (scaleT n F) = (n : Rat) * wR rs F
  | [] => by
    show (0 : Rat) = _ * 0
    rw [Rat.mul_zero]
  | t :: F => by
    show wR rs ((t.1, n * t.2) :: scaleT n F) = _
    rw [wR_cons, wR_cons, wR_scale F, Rat.intCast_mul]
    grind
abbrev Wf : Type := List Rat → Rat
/-- a form in m unknowns, of degree at most d, its numbers of at most S bits, worth φ -/
def Fo (H : Hp) (v : V) (m d S : Nat) (φ : Wf) : Prop := ∃ (f : Addr) (F : List Trm), v = .ref f ∧ FmAt H f F ∧ Fm F F ∧ OkD m d F ∧ (∀ t ∈ F, Sm S t.2) ∧ ∀ rs : List Rat, rs.length = m → wR rs F = φ rs
theorem Fo.kt {H H' : Hp} {v : V} {m d S : Nat} {φ : Wf} (h : Fo H v m d S φ) (k : Kt H H') : Fo H' v m d S φ := by
  obtain ⟨f, F, e, h1, h2⟩ := h
  exact ⟨f, F, e, h1.kt k, h2⟩
theorem Fo.same {H H' : Hp} {v : V} {m d S : Nat} {φ : Wf} (h : Fo H v m d S φ) (s : Same H H') : Fo H' v m d S φ := h.kt (Kt.same s)
theorem Fo.mono {H : Hp} {v : V} {m d S e T : Nat} {φ : Wf} (h : Fo H v m d S φ) (l : d ≤ e) (k : S ≤ T) : Fo H v m e T φ := by
  obtain ⟨f, F, e, h1, h2, h3, h4, h5⟩ := h
  exact ⟨f, F, e, h1, h2, h3.mono l, fun t ht => (h4 t ht).mono k, h5⟩
theorem Fo.congr {H : Hp} {v : V} {m d S : Nat} {φ ψ : Wf} (h : Fo H v m d S φ) (e : ∀ rs, rs.length = m → φ rs = ψ rs) : Fo H v m d S ψ := by
  obtain ⟨f, F, e', h1, h2, h3, h4, h5⟩ := h
  exact ⟨f, F, e', h1, h2, h3, h4, fun rs hr => (h5 rs hr).trans (e rs hr)⟩
theorem wR_fm {rs : List Rat} {m d : Nat} {A B : List Trm} (h : Fm A B) (hm : rs.length = m) (hA : OkD m d A) : wR rs B = wR rs A := h.wR hm.symm hA.okT
def spAddQ : Sp := fun vs H Q _ => ∃ (v w : V) (m d e S T : Nat) (φ ψ : Wf), vs = [v, w] ∧ Fo H v m d S φ ∧ Fo H w m e T ψ ∧ cnt m d ≤ 80000 ∧ cnt m e ≤ 80000 ∧ ∀ (r : V) (H' : Hp), Same H H' → Fo H' r m (max d e) (max S T + 18) (fun rs => φ rs + ψ rs) → Q r H'
def spTakeQ : Sp := fun vs H Q _ => ∃ (v w : V) (m d e S T : Nat) (φ ψ : Wf), vs = [v, w] ∧ Fo H v m d S φ ∧ Fo H w m e T ψ ∧ cnt m d ≤ 80000 ∧ cnt m e ≤ 80000 ∧ T ≤ 90000 ∧ ∀ (r : V) (H' : Hp), Same H H' → Fo H' r m (max d e) (max S T + 18) (fun rs => φ rs - ψ rs) → Q r H'
def spScaleQ : Sp := fun vs H Q _ => ∃ (v : V) (n : Int) (m d S s : Nat) (φ : Wf), vs = [v, .int n] ∧ Fo H v m d S φ ∧ Sm s n ∧ s ≤ 64 ∧ cnt m d ≤ 80000 ∧ S ≤ 90000 ∧ ∀ (r : V) (H' : Hp), Same H H' → Fo H' r m d (S + s + 17) (fun rs => (n : Rat) * φ rs) → Q r H'
def spMulQ : Sp := fun vs H Q _ => ∃ (v w : V) (m d e S T : Nat) (φ ψ : Wf), vs = [v, w] ∧ Fo H v m d S φ ∧ Fo H w m e T ψ ∧ cnt m d ≤ 3003 ∧ cnt m e ≤ 3003 ∧ m ≤ 7 ∧ d ≤ 150 ∧ e ≤ 150 ∧ S ≤ 90000 ∧ T ≤ 90000 ∧ ∀ (r : V) (H' : Hp), Same H H' → Fo H' r m (d + e) (S + T + 24) (fun rs => φ rs * ψ rs) → Q r H'
theorem add_q {K : PySem.W.Frag} {vs : List V} {H : Hp} {Q : VK} {E : XK} (h : spAddQ vs H Q E) : spAdded K vs H Q E := by
  obtain ⟨v, w, m, d, e, S, T, φ, ψ, rfl, ⟨f, F, rfl, f1, f2, f3, f4, f5⟩, ⟨g, G, rfl, g1, g2, g3, g4, g5⟩, c1, c2, q⟩ := h
  have k3 := f3.mono (Nat.le_max_left d e)
  have j3 := g3.mono (Nat.le_max_right d e)
  have l1 := f3.few f2
  have l2 := g3.few g2
  refine ⟨f, g, F, G, m, _, rfl, f1, g1, k3.okT, j3.okT, by omega, by omega, fun r R H' s _ fr fm => q _ H' s ⟨r, R, rfl, fr, fm.self, fm.okD (k3.app j3), fm.smk (fun t ht => ?_) ?_, fun rs hr => ?_⟩⟩
  · exact (List.mem_append.mp ht).elim (fun h => (f4 t h).mono (Nat.le_max_left S T)) fun h => (g4 t h).mono (Nat.le_max_right S T)
  · rw [List.length_append]; exact Nat.le_trans (show _ ≤ 200000 by omega) (by decide)
  · rw [wR_fm fm hr (k3.app j3), wR_app, f5 rs hr, g5 rs hr]
theorem take_q {K : PySem.W.Frag} {vs : List V} {H : Hp} {Q : VK} {E : XK} (h : spTakeQ vs H Q E) : spTaken K vs H Q E := by
  obtain ⟨v, w, m, d, e, S, T, φ, ψ, rfl, ⟨f, F, rfl, f1, f2, f3, f4, f5⟩, ⟨g, G, rfl, g1, g2, g3, g4, g5⟩, c1, c2, hT, q⟩ := h
  have k3 := f3.mono (Nat.le_max_left d e)
  have j3 := g3.mono (Nat.le_max_right d e)
  have l1 := f3.few f2
  have l2 := g3.few g2
  refine ⟨f, g, F, G, m, _, rfl, f1, g1, k3.okT, j3.okT, by omega, by omega, fun t ht => (g4 t ht).mono (by omega), fun r R H' s _ fr fm => q _ H' s ⟨r, R, rfl, fr, fm.self, fm.okD (k3.app j3.neg), fm.smk (fun t ht => ?_) ?_, fun rs hr => ?_⟩⟩
  · exact (List.mem_append.mp ht).elim (fun h => (f4 t h).mono (Nat.le_max_left S T)) fun h => (neg_sm g4 t h).mono (Nat.le_max_right S T)
  · rw [List.length_append]
    unfold negT
    rw [List.length_map]
    exact Nat.le_trans (show _ ≤ 200000 by omega) (by decide)
  · rw [wR_fm fm hr (k3.app j3.neg), wR_app, wR_neg, f5 rs hr, g5 rs hr]
    exact (Rat.sub_eq_add_neg _ _).symm
theorem scale_q {K : PySem.W.Frag} {vs : List V} {H : Hp} {Q : VK} {E : XK} (h : spScaleQ vs H Q E) : spScaled K vs H Q E := by
  obtain ⟨v, n, m, d, S, s, φ, rfl, ⟨f, F, rfl, f1, f2, f3, f4, f5⟩, sn, s64, c1, hS, q⟩ := h
  have l1 := f3.few f2
  refine ⟨f, n, F, m, _, rfl, f1, f3.okT, by omega, sn.mono s64, fun t ht => (f4 t ht).mono (by omega), fun r R H' g _ fr fm => q _ H' g ⟨r, R, rfl, fr, fm.self, fm.okD f3.scale, fm.smk (B := S + s) (k := 17) (fun x hx => ?_) ?_, fun rs hr => ?_⟩⟩
  · obtain ⟨t, ht, rfl⟩ := List.mem_map.mp hx
    show Sm _ (n * t.2)
    rw [Nat.add_comm S s]
    exact sn.mul (f4 t ht)
  · unfold scaleT
    rw [List.length_map]
    exact Nat.le_trans (show _ ≤ 80000 by omega) (by decide)
  · rw [wR_fm fm hr f3.scale, wR_scale, f5 rs hr]
theorem mul_q {K : PySem.W.Frag} {vs : List V} {H : Hp} {Q : VK} {E : XK} (h : spMulQ vs H Q E) : spMul K vs H Q E := by
  obtain ⟨v, w, m, d, e, S, T, φ, ψ, rfl, ⟨f, F, rfl, f1, f2, f3, f4, f5⟩, ⟨g, G, rfl, g1, g2, g3, g4, g5⟩, c1, c2, hm, hd, he, hS, hT, q⟩ := h
  have k3 := f3.mono (Nat.le_max_left d e)
  have j3 := g3.mono (Nat.le_max_right d e)
  have l1 := f3.few f2
  have l2 := g3.few g2
  have l12 : F.length * G.length ≤ 3003 * 3003 := Nat.mul_le_mul (by omega) (by omega)
  refine ⟨f, g, F, G, m, _, rfl, f1, g1, k3.okT, j3.okT, by omega, by omega, hm, by omega, by omega, by omega, fun t ht => (f4 t ht).mono (by omega), fun t ht => (g4 t ht).mono (by omega), fun r R H' s _ fr fm => q _ H' s ⟨r, R, rfl, fr, fm.self, fm.okD (f3.mul g3), fm.smk (mul_sm f4 g4) ?_, fun rs hr => ?_⟩⟩
  · rw [mul_len]; exact Nat.le_trans l12 (by decide)
  · rw [wR_fm fm hr (f3.mul g3), wR_mul (fun u hu => ⟨by rw [hr]; exact (g3 u hu).1, (g3 u hu).2.1⟩) (fun u hu => ⟨by rw [hr]; exact (f3 u hu).1, (f3 u hu).2.1⟩), f5 rs hr, g5 rs hr]
end Mb
namespace Mb
open PySem PySem.Spec PyProof.Rows L2
/-! ### tuple * int, none or once -/
theorem tuple_mul0 (l : Addr) (items : Array Value) (n : Nat) (dd : Option Addr) (sl : Array (Option Value)) (x : Int) (u : Tok) (c0 : (decide (x < -(2 ^ 63)) || decide (x ≥ 2 ^ 63)) = false) (c1 : (items.isEmpty || x == 1) = false) (c2 : (decide (x ≤ 0) || items.isEmpty) = true) :
    Meets (Builtin.«tuple.__mul__» ⟨[.ref l, .int x u], []⟩) (fun _ R s => s.heap.get? l = some { cls := .type "tuple", dict := dd, data := .seq items n, slots := sl } ∧
      R (.ok (.ret (Value.ref s.heap.objs.size))) { s with heap := s.heap.push { cls := Value.type "tuple", data := Data.seq #[] }, toks := s.toks }) :=
  .of_wp fun prog w A R s h => by
    obtain ⟨hp, g, d, tk, os⟩ := s
    obtain ⟨hl, h⟩ := h
    have f1 := AutoSeq1.idx_int
    wp_walk using wpAny_loadPart' hl
    repeat (first
      | (refine wpAny_ite_false (decide_eq_false (by rw [c0]; exact Bool.false_ne_true)) ?_; wp_walk using wpAny_loadPart' hl)
      | (refine wpAny_ite_false (decide_eq_false (by rw [c1]; exact Bool.false_ne_true)) ?_; wp_walk using wpAny_loadPart' hl)
      | (refine wpAny_ite_true (decide_eq_true c2) ?_; wp_walk using wpAny_loadPart' hl))
    exact ⟨_, rfl, h⟩
theorem tuple_mul1 (l : Addr) (items : Array Value) (n : Nat) (dd : Option Addr) (sl : Array (Option Value)) (u : Tok) (c1 : (items.isEmpty || (1 : Int) == 1) = true) :
    Meets (Builtin.«tuple.__mul__» ⟨[.ref l, .int 1 u], []⟩) (fun _ R s => s.heap.get? l = some { cls := .type "tuple", dict := dd, data := .seq items n, slots := sl } ∧
      R (.ok (.ret (Value.ref l))) s) :=
  .of_wp fun prog w A R s h => by
    obtain ⟨hp, g, d, tk, os⟩ := s
    obtain ⟨hl, h⟩ := h
    have f1 := AutoSeq1.idx_int
    wp_walk using wpAny_loadPart' hl
    repeat (first
      | (refine wpAny_ite_true (decide_eq_true c1) ?_; wp_walk using wpAny_loadPart' hl))
    exact ⟨_, rfl, h⟩
def rRepA (K : PySem.W.Frag) : R2 := fun x y H Q => ∃ l k xs, x = .ref l ∧ y = .int k ∧ SqT K H l xs ∧ xs ≠ [] ∧ 0 ≤ k ∧ k ≤ 1000 ∧ xs.length ≤ 1000 ∧ (k = 1 → Q (.ref l) H) ∧ (k ≠ 1 → ∀ p, H p = none → Q (.ref p) (upd H p (.tup (List.replicate k.toNat xs).flatten)))
theorem op_repA {X : Cx} : OpR X (binaryOp .Mult) (rRepA X.K) := by
  intro pins s σ H x y v u Q I rx ry h
  obtain ⟨l, k, xs, rfl, rfl, hT, hne, h1, h2, hz, q1, q⟩ := h
  by_cases k2 : 2 ≤ k
  · exact op_repT pins s σ H _ _ v u Q I rx ry ⟨l, k, xs, rfl, rfl, hT, hne, k2, h2, hz, q (by omega)⟩
  cases rx
  obtain ⟨t, rfl⟩ := ry
  obtain ⟨its, r, ⟨⟨cls, dd, data, sl⟩, ho, hc, n, hd⟩, hs⟩ := I.tuple hT
  simp only at hc hd
  subst hc hd
  have hle : its.length = xs.length := r.length.symm
  have hn : its ≠ [] := fun e => hne (by
    rw [e] at hle
    exact List.eq_nil_of_length_eq_zero hle.symm)
  have hi : its.toArray.isEmpty = false := by
    cases its with
    | nil => exact absurd rfl hn
    | cons a b => rfl
  have c0 : (decide (k < -(2 ^ 63)) || decide (k ≥ 2 ^ 63)) = false := by
    rw [decide_eq_false (by omega), decide_eq_false (by omega)] <;> rfl
  have k01 : k = 0 ∨ k = 1 := by omega
  rcases k01 with rfl | rfl
  · refine wpAny_binaryOp_repeat_ref (T := "tuple") (U := "int") (by decide) ⟨_, ho, rfl⟩ (fun s' => typeIs_int s' 0 t) noFill_tuple_mul F.fills_int_mul F.slot_int_rmul repeat_tuple F.slot_int_index.lookup
      (call_meets F.slot_int_rmul (typeIs_int s 0 t) F.entry_int_rmul (F.args_int_rmul_2 _ _) (int_rmul_tuple 0 t l its.toArray n dd sl)
        ⟨ho, rfl, ⟨_, ho, rfl⟩, call_meets F.slot_tuple_mul ⟨_, ho, rfl⟩ F.entry_tuple_mul (F.args_tuple_mul_2 _ _) (tuple_mul0 l its.toArray n dd sl 0 t c0 (by rw [hi]; rfl) (by rw [hi]; rfl)) ⟨ho, ?_⟩⟩)
    refine ⟨.ref s.heap.objs.size, _, I.laid (t' := s.toks) (o := .tup []) (fun b ob q => Heap.get?_push_of_some _ q) (Nat.le_refl _) ?_, rfl, q (by decide) _ (I.hok.fresh (Nat.le_refl _))⟩
    exact ⟨by simp, [], .nil, IsTup.new _ _⟩
  · refine wpAny_binaryOp_repeat_ref (T := "tuple") (U := "int") (by decide) ⟨_, ho, rfl⟩ (fun s' => typeIs_int s' 1 t) noFill_tuple_mul F.fills_int_mul F.slot_int_rmul repeat_tuple F.slot_int_index.lookup
      (call_meets F.slot_int_rmul (typeIs_int s 1 t) F.entry_int_rmul (F.args_int_rmul_2 _ _) (int_rmul_tuple 1 t l its.toArray n dd sl)
        ⟨ho, rfl, ⟨_, ho, rfl⟩, call_meets F.slot_tuple_mul ⟨_, ho, rfl⟩ F.entry_tuple_mul (F.args_tuple_mul_2 _ _) (tuple_mul1 l its.toArray n dd sl t (by rw [hi]; rfl)) ⟨ho, ?_⟩⟩)
    exact ⟨.ref l, H, I, rfl, q1 rfl⟩
/-- xs times k, wherever it stands -/
theorem r_repA {K : PySem.W.Frag} {H : Hp} {Q : VK} {l : Addr} {k : Int} {x : V} (h : SqT K H l [x]) (h0 : 0 ≤ k) (h1 : k ≤ 1000) (q : ∀ (p : Addr) (H' : Hp), Same H H' → SqT K H' p (List.replicate k.toNat x) → Q (.ref p) H') : rRepA K (.ref l) (.int k) H Q := by
  have e : ∀ n : Nat, (List.replicate n [x]).flatten = List.replicate n x := fun n => by
    induction n with
    | zero => rfl
    | succ n ih => rw [List.replicate_succ, List.flatten_cons, ih, List.replicate_succ]; rfl
  refine ⟨l, k, [x], rfl, rfl, h, by simp, h0, h1, by simp, fun e1 => ?_, fun _ p np => ?_⟩
  · subst e1
    exact q l H (Same.refl _) h
  · rw [e]
    exact q p _ (same_new np _) (tupOf upd_same)
/-! ### case a | b -/
def tCase2 (te te2 : TE) (tb : TS) (tr : V → TS) : V → TS := fun v D σ H => te σ H fun x H1 => ∃ z y : Str, v = .str z ∧ x = .str y ∧ if decide (z = y) = true then tb D σ H1 else te2 σ H1 fun x2 H2 => ∃ y2 : Str, x2 = .str y2 ∧ if decide (z = y2) = true then tb D σ H2 else tr v D σ H2
theorem pm_or2 {X : Cx} {value value2 : Expr} {pos pos2 pos3 : Pos} {body : List Stmt} {rest : List MatchCase} {te te2 : TE} {tb : TS} {tr : V → TS} (he : PE X value te) (he2 : PE X value2 te2) (hb : PSs X body tb) (hr : PM X rest tr) : PM X (⟨.MatchOr [.MatchValue value pos, .MatchValue value2 pos2] pos3, none, body⟩ :: rest) (tCase2 te te2 tb tr) := by
  refine ⟨fun pins s σ H D v u first I r h => wpAny_matchCases_cons (wpAny_matchPattern_Or (wpAny_matchFirst_cons (wpAny_matchPattern_Value (thn (he.run pins s σ H _ I h) fun x s1 ⟨y, H1, I1, ry, z, w, ev, ew, q⟩ => ?_))))⟩
  subst ev ew
  obtain ⟨t, rfl⟩ := r
  obtain ⟨t2, rfl⟩ := ry
  refine thn (op_eq pins s1 σ H1 (.str z) (.str w) (.str z t) (.str w t2) (fun b H' => b = .bl (decide (z = w)) ∧ H' = H1) I1 ⟨t, rfl⟩ ⟨t2, rfl⟩ ⟨rfl, by rw [show decide (V.str z = V.str w) = decide (z = w) from by simp]; exact ⟨rfl, rfl⟩⟩) fun c s2 ⟨b, H2, I2, rb, eb, eH⟩ => ?_
  subst eb eH
  cases rb
  refine wpAny_truthy_bool ?_
  cases hd : decide (z = w) with
  | true =>
    rw [hd] at q
    simp only [if_true] at q ⊢
    show wpAny _ _ (assignInOrder [] []) _ _ s2
    refine wpAny_pure ?_
    exact hb.run pins s2 σ H2 D I2 q
  | false =>
    rw [hd] at q
    simp only [Bool.false_eq_true, if_false] at q ⊢
    refine wpAny_matchFirst_cons (wpAny_matchPattern_Value (thn (he2.run pins s2 σ H2 _ I2 q) fun x s3 ⟨y, H3, I3, ry, w2, ew, q2⟩ => ?_))
    subst ew
    obtain ⟨t3, rfl⟩ := ry
    refine thn (op_eq pins s3 σ H3 (.str z) (.str w2) (.str z t) (.str w2 t3) (fun b H' => b = .bl (decide (z = w2)) ∧ H' = H3) I3 ⟨t, rfl⟩ ⟨t3, rfl⟩ ⟨rfl, by rw [show decide (V.str z = V.str w2) = decide (z = w2) from by simp]; exact ⟨rfl, rfl⟩⟩) fun c s4 ⟨b, H4, I4, rb, eb, eH⟩ => ?_
    subst eb eH
    cases rb
    refine wpAny_truthy_bool ?_
    cases hd2 : decide (z = w2) with
    | true =>
      rw [hd2] at q2
      simp only [if_true] at q2 ⊢
      show wpAny _ _ (assignInOrder [] []) _ _ s4
      refine wpAny_pure ?_
      exact hb.run pins s4 σ H4 D I4 q2
    | false =>
      rw [hd2] at q2
      simp only [Bool.false_eq_true, if_false] at q2 ⊢
      refine wpAny_matchFirst_nil ?_
      exact hr.run pins s4 σ H4 D (.str z) _ false I4 ⟨t, rfl⟩ q2
theorem r_case2A {y y2 : Str} {tb : TS} {tr : V → TS} {D : Ends} {σ : L2.St} {H : Hp} (q : tb D σ H) : tCase2 (tC (.str y)) (tC (.str y2)) tb tr (.str y) D σ H := ⟨y, y, rfl, rfl, by rw [decide_eq_true rfl]; exact q⟩
theorem r_case2B {y y2 : Str} {tb : TS} {tr : V → TS} {D : Ends} {σ : L2.St} {H : Hp} (n : y2 ≠ y) (q : tb D σ H) : tCase2 (tC (.str y)) (tC (.str y2)) tb tr (.str y2) D σ H := ⟨y2, y, rfl, rfl, by rw [decide_eq_false n]; exact ⟨y2, rfl, by rw [decide_eq_true rfl]; exact q⟩⟩
theorem r_case2N {y y2 z : Str} {tb : TS} {tr : V → TS} {D : Ends} {σ : L2.St} {H : Hp} (n : z ≠ y) (n2 : z ≠ y2) (q : tr (.str z) D σ H) : tCase2 (tC (.str y)) (tC (.str y2)) tb tr (.str z) D σ H := ⟨z, y, rfl, rfl, by rw [decide_eq_false n]; exact ⟨y2, rfl, by rw [decide_eq_false n2]; exact q⟩⟩
theorem r_repR {K : PySem.W.Frag} {H : Hp} {Q : VK} {l : Addr} {k : Int} {x : V} (h : H l = some (.tup [x])) (h0 : 0 ≤ k) (h1 : k ≤ 1000) (q : ∀ (p : Addr) (H' : Hp), Same H H' → H' p = some (.tup (List.replicate k.toNat x)) → Q (.ref p) H') : rRepA K (.ref l) (.int k) H Q := by
  have e : ∀ n : Nat, (List.replicate n [x]).flatten = List.replicate n x := fun n => by
    induction n with
    | zero => rfl
    | succ n ih => rw [List.replicate_succ, List.flatten_cons, ih, List.replicate_succ]; rfl
  refine ⟨l, k, [x], rfl, rfl, tupOf h, by simp, h0, h1, by simp, fun e1 => ?_, fun _ p np => ?_⟩
  · subst e1
    exact q l H (Same.refl _) h
  · rw [e]
    exact q p _ (same_new np _) upd_same
end Mb
namespace Mb
open PySem L2
/-! ### tuples of forms -/
def Fos (K : PySem.W.Frag) (H : Hp) (v : V) (n m d S : Nat) (φ : Nat → Wf) : Prop := ∃ (a : Addr) (fs : List V), v = .ref a ∧ SqT K H a fs ∧ fs.length = n ∧ ∀ i f, fs[i]? = some f → Fo H f m d S (φ i)
theorem Fos.same {K : PySem.W.Frag} {H H' : Hp} {v : V} {n m d S : Nat} {φ : Nat → Wf} (h : Fos K H v n m d S φ) (s : Same H H') : Fos K H' v n m d S φ := by
  obtain ⟨a, fs, e, h1, h2, h3⟩ := h
  exact ⟨a, fs, e, s.tp h1, h2, fun i f hf => (h3 i f hf).same s⟩
theorem Fos.mono {K : PySem.W.Frag} {H : Hp} {v : V} {n m d S e T : Nat} {φ : Nat → Wf} (h : Fos K H v n m d S φ) (l : d ≤ e) (k : S ≤ T) : Fos K H v n m e T φ := by
  obtain ⟨a, fs, e', h1, h2, h3⟩ := h
  exact ⟨a, fs, e', h1, h2, fun i f hf => (h3 i f hf).mono l k⟩
theorem Fos.congr {K : PySem.W.Frag} {H : Hp} {v : V} {n m d S : Nat} {φ ψ : Nat → Wf} (h : Fos K H v n m d S φ) (e : ∀ i, i < n → ∀ rs, rs.length = m → φ i rs = ψ i rs) : Fos K H v n m d S ψ := by
  obtain ⟨a, fs, e', h1, h2, h3⟩ := h
  exact ⟨a, fs, e', h1, h2, fun i f hf => (h3 i f hf).congr (e i (by rw [← h2]; exact (List.getElem?_eq_some_iff.mp hf).1))⟩
/-- the i-th form of a tuple, read -/
theorem Fos.ix {K : PySem.W.Frag} {H : Hp} {v : V} {n m d S : Nat} {φ : Nat → Wf} (h : Fos K H v n m d S φ) (i : Nat) (hi : i < n) : ∃ f : V, Fo H f m d S (φ i) ∧ ∀ Q : VK, Q f H → rIxT K v (.int (i : Int)) H Q := by
  obtain ⟨a, fs, rfl, h1, h2, h3⟩ := h
  have e : fs[i]? = some fs[i] := List.getElem?_eq_getElem (by omega)
  exact ⟨fs[i], h3 i _ e, fun Q q => r_ixT h1 (atI_nat e) q⟩
def t3 (a b c : Wf) : Nat → Wf
  | 0 => a
  | 1 => b
  | _ => c
theorem fos3 {K : PySem.W.Frag} {H : Hp} {p : Addr} {m d S : Nat} {f g h : V} {a b c : Wf} (t : SqT K H p [f, g, h]) (h1 : Fo H f m d S a) (h2 : Fo H g m d S b) (h3 : Fo H h m d S c) : Fos K H (.ref p) 3 m d S (t3 a b c) := ⟨p, _, rfl, t, rfl, fun i x hx => by
  match i with
  | 0 => cases hx; exact h1
  | 1 => cases hx; exact h2
  | 2 => cases hx; exact h3
  | (n + 3) => cases hx⟩
theorem cl {m d W M N : Nat} (h : cnt m W ≤ M) (l : d ≤ W) (k : M ≤ N := by decide) : cnt m d ≤ N := Nat.le_trans (cnt_mono l) (Nat.le_trans h k)
def spCross (K : PySem.W.Frag) : Sp := fun vs H Q _ => ∃ (v w : V) (i j n m d e S T : Nat) (φ ψ : Nat → Wf), vs = [v, w, .int (i : Int), .int (j : Int)] ∧ Fos K H v n m d S φ ∧ Fos K H w n m e T ψ ∧ i < n ∧ j < n ∧ cnt m (d + e) ≤ 3003 ∧ m ≤ 7 ∧ d + e ≤ 150 ∧ S + T ≤ 20000 ∧
  ∀ (r : V) (H' : Hp), Same H H' → Fo H' r m (d + e) (S + T + 42) (fun rs => φ i rs * ψ j rs - φ j rs * ψ i rs) → Q r H'
def crossF (φ ψ : Nat → Wf) : Nat → Wf := t3 (fun rs => φ 1 rs * ψ 2 rs - φ 2 rs * ψ 1 rs) (fun rs => φ 2 rs * ψ 0 rs - φ 0 rs * ψ 2 rs) (fun rs => φ 1 rs * ψ 0 rs - φ 0 rs * ψ 1 rs)
def spCrossed (K : PySem.W.Frag) : Sp := fun vs H Q _ => ∃ (v w : V) (m d e S T : Nat) (φ ψ : Nat → Wf), vs = [v, w] ∧ Fos K H v 3 m d S φ ∧ Fos K H w 3 m e T ψ ∧ cnt m (d + e) ≤ 3003 ∧ m ≤ 7 ∧ d + e ≤ 150 ∧ S + T ≤ 20000 ∧
  ∀ (r : V) (H' : Hp), Same H H' → Fos K H' r 3 m (d + e) (S + T + 42) (crossF φ ψ) → Q r H'
def spSquared : Sp := fun vs H Q _ => ∃ (v : V) (m d S : Nat) (φ : Wf), vs = [v] ∧ Fo H v m d S φ ∧ cnt m d ≤ 3003 ∧ m ≤ 7 ∧ d ≤ 150 ∧ S ≤ 20000 ∧
  ∀ (r : V) (H' : Hp), Same H H' → Fo H' r m (d + d) (S + S + 24) (fun rs => φ rs * φ rs) → Q r H'
def hingeF (φ : Nat → Wf) : Wf := fun rs => φ 0 rs * φ 0 rs + φ 1 rs * φ 1 rs
def spHinge (K : PySem.W.Frag) : Sp := fun vs H Q _ => ∃ (v : V) (m d S : Nat) (φ : Nat → Wf), vs = [v] ∧ Fos K H v 3 m d S φ ∧ cnt m d ≤ 3003 ∧ cnt m (d + d) ≤ 80000 ∧ m ≤ 7 ∧ d ≤ 150 ∧ S ≤ 20000 ∧
  ∀ (r : V) (H' : Hp), Same H H' → Fo H' r m (d + d) (S + S + 42) (hingeF φ) → Q r H'
def lineAtF (φ : Nat → Wf) (α β : Wf) : Nat → Wf := t3 (fun rs => α rs * φ 2 rs) (fun rs => β rs * φ 2 rs) (fun rs => α rs * φ 0 rs + β rs * φ 1 rs)
def spLineAt (K : PySem.W.Frag) : Sp := fun vs H Q _ => ∃ (v a b : V) (m d e S T : Nat) (φ : Nat → Wf) (α β : Wf), vs = [v, a, b] ∧ Fos K H v 3 m d S φ ∧ Fo H a m e T α ∧ Fo H b m e T β ∧ cnt m (e + d) ≤ 3003 ∧ m ≤ 7 ∧ e + d ≤ 150 ∧ S + T ≤ 20000 ∧
  ∀ (r : V) (H' : Hp), Same H H' → Fos K H' r 3 m (e + d) (T + S + 42) (lineAtF φ α β) → Q r H'
def shortF (φ ψ : Nat → Wf) (k : Rat) : Wf := fun rs => k * (ψ 2 rs * φ 2 rs - (ψ 0 rs * φ 0 rs + ψ 1 rs * φ 1 rs))
def towardF (φ ψ : Nat → Wf) (k : Rat) : Nat → Wf := t3 (fun rs => φ 0 rs * hingeF ψ rs + ψ 0 rs * shortF φ ψ k rs) (fun rs => φ 1 rs * hingeF ψ rs + ψ 1 rs * shortF φ ψ k rs) (fun rs => φ 2 rs * hingeF ψ rs)
def spToward (K : PySem.W.Frag) : Sp := fun vs H Q _ => ∃ (v w : V) (k : Int) (m d e S T : Nat) (φ ψ : Nat → Wf), vs = [v, w, .int k] ∧ Sm 2 k ∧ Fos K H v 3 m d S φ ∧ Fos K H w 3 m e T ψ ∧ cnt m (d + (e + e)) ≤ 3003 ∧ m ≤ 7 ∧ d + (e + e) ≤ 150 ∧ S + T + T ≤ 20000 ∧
  ∀ (r : V) (H' : Hp), Same H H' → Fos K H' r 3 m (d + (e + e)) (S + T + T + 200) (towardF φ ψ (k : Rat)) → Q r H'
def turnF (φ ψ : Nat → Wf) : Nat → Wf := t3 (fun rs => (ψ 0 rs + ψ 1 rs) * φ 2 rs - φ 1 rs * ψ 2 rs) (fun rs => (ψ 1 rs - ψ 0 rs) * φ 2 rs + φ 0 rs * ψ 2 rs) (fun rs => φ 2 rs * ψ 2 rs)
def spTurnF (K : PySem.W.Frag) : Sp := fun vs H Q _ => ∃ (v w : V) (m d e S T : Nat) (φ ψ : Nat → Wf), vs = [v, w] ∧ Fos K H v 3 m d S φ ∧ Fos K H w 3 m e T ψ ∧ cnt m (d + e) ≤ 3003 ∧ m ≤ 7 ∧ d + e ≤ 150 ∧ S + T ≤ 20000 ∧
  ∀ (r : V) (H' : Hp), Same H H' → Fos K H' r 3 m (d + e) (S + T + 100) (turnF φ ψ) → Q r H'
def shareF (φ ψ : Nat → Wf) (t b : Rat) : Nat → Wf := t3 (fun rs => (b - t) * (φ 0 rs * ψ 2 rs) + t * (ψ 0 rs * φ 2 rs)) (fun rs => (b - t) * (φ 1 rs * ψ 2 rs) + t * (ψ 1 rs * φ 2 rs)) (fun rs => b * (φ 2 rs * ψ 2 rs))
def spShareF (K : PySem.W.Frag) : Sp := fun vs H Q _ => ∃ (v w : V) (p : Addr) (t b : Int) (m d e S T : Nat) (φ ψ : Nat → Wf), vs = [v, w, .ref p] ∧ SqT K H p [.int t, .int b] ∧ Sm 20 t ∧ Sm 20 b ∧ Fos K H v 3 m d S φ ∧ Fos K H w 3 m e T ψ ∧ cnt m (d + e) ≤ 3003 ∧ m ≤ 7 ∧ d + e ≤ 150 ∧ S + T ≤ 20000 ∧
  ∀ (r : V) (H' : Hp), Same H H' → Fos K H' r 3 m (d + e) (S + T + 100) (shareF φ ψ (t : Rat) (b : Rat)) → Q r H'
end Mb
namespace Mb
open PySem L2
/-! ### the forms of free points -/
def unitL (a m : Nat) : List Int := List.replicate a 0 ++ (1 :: List.replicate (m - a - 1) 0)
theorem unit_len {a m : Nat} (h : a < m) : (unitL a m).length = m := by
  unfold unitL
  rw [List.length_append, List.length_cons, List.length_replicate, List.length_replicate]
  omega
theorem rep_nn {n : Nat} : ∀ p ∈ List.replicate n (0 : Int), 0 ≤ p := fun p hp => by rw [List.eq_of_mem_replicate hp]; exact Int.le_refl _
theorem unit_nn {a m : Nat} : ∀ p ∈ unitL a m, 0 ≤ p := fun p hp => by
  unfold unitL at hp
  rcases List.mem_append.mp hp with hp | hp
  · exact rep_nn p hp
  · rcases List.mem_cons.mp hp with rfl | hp
    · decide
    · exact rep_nn p hp
theorem sum_rep {n : Nat} : (List.replicate n (0 : Int)).sum = 0 := by
  induction n with
  | zero => rfl
  | succ n ih => rw [List.replicate_succ, List.sum_cons, ih]; rfl
theorem unit_sum {a m : Nat} : (unitL a m).sum = 1 := by
  unfold unitL
  rw [List.sum_append, List.sum_cons, sum_rep, sum_rep]
  rfl
theorem rmon_zero : ∀ {rs : List Rat}, rmon rs (List.replicate rs.length 0) = 1
  | [] => rfl
  | r :: rs => by
    rw [List.length_cons, List.replicate_succ]
    show r ^ (0 : Int).toNat * rmon rs _ = 1
    rw [rmon_zero, show (0 : Int).toNat = 0 from rfl, Rat.pow_zero, Rat.one_mul]
theorem rmon_unit : ∀ {rs : List Rat} {a : Nat}, a < rs.length → rmon rs (unitL a rs.length) = rs.getD a 0
  | r :: rs, 0, _ => by
    unfold unitL
    show r ^ (1 : Int).toNat * rmon rs (List.replicate (rs.length + 1 - 0 - 1) 0) = r
    rw [show rs.length + 1 - 0 - 1 = rs.length by omega, rmon_zero, show (1 : Int).toNat = 1 from rfl]
    grind
  | r :: rs, a + 1, h => by
    have ih := rmon_unit (rs := rs) (a := a) (by simpa using h)
    unfold unitL at ih ⊢
    rw [List.replicate_succ]
    show r ^ (0 : Int).toNat * rmon rs (List.replicate a 0 ++ (1 :: List.replicate (rs.length + 1 - (a + 1) - 1) 0)) = _
    rw [show rs.length + 1 - (a + 1) - 1 = rs.length - a - 1 by omega, ih, show (0 : Int).toNat = 0 from rfl, Rat.pow_zero, Rat.one_mul]
    rfl
theorem fm_one {k : List Int} {n : Int} (h : n ≠ 0) : Fm [((k, n) : Trm)] [(k, n)] := fm_self (List.pairwise_singleton _ _) fun x hx => by rw [List.mem_singleton.mp hx]; exact h
theorem fm_none : Fm [] [] := fm_self List.Pairwise.nil fun _ h => by cases h
/-- a form of one term, laid -/
theorem fo_one {H : Hp} {f a q : Addr} {k : List Int} {n : Int} {m d S : Nat} (hf : H f = some (.tup [.ref a])) (ha : H a = some (.tup [.ref q, .int n])) (hq : H q = some (.tup (k.map V.int))) (h : n ≠ 0) (hk : k.length = m) (nn : ∀ p ∈ k, 0 ≤ p) (hs : k.sum ≤ (d : Int)) (sn : Sm S n) : Fo H (.ref f) m d S (fun rs => (n : Rat) * rmon rs k) :=
  ⟨f, [(k, n)], rfl, ⟨[.ref a], hf, .cons ⟨a, q, rfl, ha, hq⟩ .nil⟩, fm_one h, fun t ht => by rw [List.mem_singleton.mp ht]; exact ⟨hk, nn, hs⟩, fun t ht => by rw [List.mem_singleton.mp ht]; exact sn, fun rs _ => by
    rw [wR_cons, wR_nil, Rat.add_zero]⟩
theorem fo_zero {H : Hp} {f : Addr} {m d S : Nat} (hf : H f = some (.tup [])) : Fo H (.ref f) m d S (fun _ => 0) := ⟨f, [], rfl, ⟨[], hf, .nil⟩, fm_none, fun _ h => (by cases h), fun _ h => (by cases h), fun rs _ => rfl⟩
def spUnknownF : Sp := fun vs H Q _ => ∃ (a m : Nat), vs = [.int (a : Int), .int (m : Int)] ∧ a < m ∧ m ≤ 7 ∧ ∀ (r : V) (H' : Hp), Same H H' → Fo H' r m 1 10 (fun rs => rs.getD a 0) → Q r H'
/-- the place of the k-th free point -/
def freeX (k : Nat) : Wf := fun rs => if k = 0 then 0 else if k = 1 then 1 else rs.getD (2 * k - 4) 0
def freeY (k : Nat) : Wf := fun rs => if k = 0 then 0 else if k = 1 then 0 else rs.getD (2 * k - 3) 0
def freeF (k : Nat) : Nat → Wf := t3 (freeX k) (freeY k) (fun _ => 1)
def spFreeAt (K : PySem.W.Frag) : Sp := fun vs H Q _ => ∃ (k m : Nat), vs = [.int (k : Int), .int (m : Int)] ∧ (2 ≤ k → 2 * k - 3 < m) ∧ m ≤ 7 ∧ ∀ (r : V) (H' : Hp), Same H H' → Fos K H' r 3 m 1 10 (freeF k) → Q r H'
end Mb
namespace Mb
open PySem PySem.Spec PyProof.Rows L2
/-! ### a thing's forms out of its grounds' -/
def figW : List Str := ["middle", "next", "share", "turn", "foot", "mirror", "meet", "line", "along", "upright"]
def figF (x : Str) (t b : Rat) (φ ψ : Nat → Wf) : Nat → Wf :=
  if x = "middle" then shareF φ ψ 1 2 else if x = "next" then shareF φ ψ 2 1 else if x = "share" then shareF φ ψ t b else if x = "turn" then turnF φ ψ
  else if x = "foot" then towardF φ ψ 1 else if x = "mirror" then towardF φ ψ 2 else if x = "along" then lineAtF φ (ψ 0) (ψ 1)
  else if x = "upright" then lineAtF φ (ψ 1) (fun rs => (-1 : Rat) * ψ 0 rs) else crossF φ ψ
def figD (x : Str) (d e : Nat) : Nat := if x = "foot" ∨ x = "mirror" then d + (e + e) else d + e
def figS (x : Str) (S T : Nat) : Nat := if x = "foot" ∨ x = "mirror" then S + T + T + 200 else S + T + 200
def spFigF (K : PySem.W.Frag) : Sp := fun vs H Q _ => ∃ (m : Addr) (x : Str) (tl : List V) (t b : Int) (v w : V) (n d e S T : Nat) (φ ψ : Nat → Wf), vs = [.ref m, v, w] ∧ SqT K H m (.str x :: tl) ∧ x ∈ figW ∧
  (x = "share" → ∃ (y z : V) (p : Addr), tl = [y, z, .ref p] ∧ SqT K H p [.int t, .int b] ∧ Sm 20 t ∧ Sm 20 b) ∧ Fos K H v 3 n d S φ ∧ Fos K H w 3 n e T ψ ∧ cnt n (figD x d e) ≤ 3003 ∧ n ≤ 7 ∧ figD x d e ≤ 150 ∧ S + T + T ≤ 19000 ∧
  ∀ (r : V) (H' : Hp), Same H H' → Fos K H' r 3 n (figD x d e) (figS x S T) (figF x t b φ ψ) → Q r H'
theorem r_or2Y {y y2 : Str} {tb : TS} {tr : V → TS} {D : Ends} {σ : L2.St} {H : Hp} (q : tb D σ H) : tCase2 (tC (.str y)) (tC (.str y2)) tb tr (.str y) D σ H := ⟨y, y, rfl, rfl, by rw [decide_eq_true rfl]; exact q⟩
theorem r_or2Z {y y2 : Str} {tb : TS} {tr : V → TS} {D : Ends} {σ : L2.St} {H : Hp} (n : y2 ≠ y) (q : tb D σ H) : tCase2 (tC (.str y)) (tC (.str y2)) tb tr (.str y2) D σ H := ⟨y2, y, rfl, rfl, by rw [decide_eq_false n]; exact ⟨y2, rfl, by rw [decide_eq_true rfl]; exact q⟩⟩
theorem r_or2N {y y2 z : Str} {tb : TS} {tr : V → TS} {D : Ends} {σ : L2.St} {H : Hp} (n : z ≠ y) (n2 : z ≠ y2) (q : tr (.str z) D σ H) : tCase2 (tC (.str y)) (tC (.str y2)) tb tr (.str z) D σ H := ⟨z, y, rfl, rfl, by rw [decide_eq_false n]; exact ⟨y2, rfl, by rw [decide_eq_false n2]; exact q⟩⟩
theorem t3_eta {a b c : Wf} {i : Nat} (h : i < 3) : t3 a b c i = if i = 0 then a else if i = 1 then b else c := by
  match i, h with
  | 0, _ => rfl
  | 1, _ => rfl
  | 2, _ => rfl
end Mb
namespace Mb
open PySem L2
/-! ### makings with their numbers, tellings -/
theorem Fq.kp {K : PySem.W.Frag} {H H' : Hp} {v : V} {q : Rat} (h : Fq K H v q) (k : Kp K H H') : Fq K H' v q := by
  obtain ⟨a, rfl, t⟩ := h
  exact ⟨a, rfl, k _ _ t⟩
theorem Pq.kp {K : PySem.W.Frag} {H H' : Hp} {v : V} {x y : Rat} (h : Pq K H v x y) (k : Kp K H H') : Pq K H' v x y := by
  obtain ⟨a, f, g, rfl, t, h1, h2⟩ := h
  exact ⟨a, f, g, rfl, k _ _ t, h1.kp k, h2.kp k⟩
inductive Tail where
  | fr (x y : Rat)
  | sh (t : Rat)
  | ct (n : Int)
  | no
def Ntl (K : PySem.W.Frag) (H : Hp) (x : Str) (r : List V) : Tail → Prop
  | .fr p q => x = "free" ∧ ∃ u v, r = [u, v] ∧ Fq K H u p ∧ Fq K H v q
  | .sh t => x = "share" ∧ ∃ u, r = [u] ∧ Fq K H u t
  | .ct n => x = "cut" ∧ r = [.int n]
  | .no => x ≠ "free" ∧ x ≠ "share" ∧ x ≠ "cut" ∧ r = []
theorem Ntl.tl {K : PySem.W.Frag} {H : Hp} {x : Str} {r : List V} {d : Tail} (h : Ntl K H x r d) : Tl K H x r := by
  cases d with
  | fr p q =>
    obtain ⟨e, u, v, rfl, ⟨a, rfl, h1⟩, b, rfl, h2⟩ := h
    exact .inl ⟨e, a, b, _, _, _, _, rfl, h1, h2⟩
  | sh t =>
    obtain ⟨e, u, rfl, a, rfl, h1⟩ := h
    exact .inr (.inl ⟨e, a, _, _, rfl, h1⟩)
  | ct n => exact .inr (.inr (.inl ⟨h.1, n, h.2⟩))
  | no => exact .inr (.inr (.inr h))
theorem Ntl.kp {K : PySem.W.Frag} {H H' : Hp} {x : Str} {r : List V} {d : Tail} (h : Ntl K H x r d) (k : Kp K H H') : Ntl K H' x r d := by
  cases d with
  | fr p q =>
    obtain ⟨e, u, v, e2, h1, h2⟩ := h
    exact ⟨e, u, v, e2, h1.kp k, h2.kp k⟩
  | sh t =>
    obtain ⟨e, u, e2, h1⟩ := h
    exact ⟨e, u, e2, h1.kp k⟩
  | ct n => exact h
  | no => exact h
def Mq (K : PySem.W.Frag) (H : Hp) (m : Addr) (x : Str) (ns : List Str) (d : Tail) : Prop := ∃ r : List V, SqT K H m (.str x :: (ns.map V.str ++ r)) ∧ Ntl K H x r d
theorem Mq.mk {K : PySem.W.Frag} {H : Hp} {m : Addr} {x : Str} {ns : List Str} {d : Tail} (h : Mq K H m x ns d) : Mk K H m x ns := by
  obtain ⟨r, h1, h2⟩ := h
  exact ⟨r, h1, h2.tl⟩
theorem Mq.kp {K : PySem.W.Frag} {H H' : Hp} {m : Addr} {x : Str} {ns : List Str} {d : Tail} (h : Mq K H m x ns d) (k : Kp K H H') : Mq K H' m x ns d := by
  obtain ⟨r, h1, h2⟩ := h
  exact ⟨r, k _ _ h1, h2.kp k⟩
abbrev Thq : Type := Str × Str × List Str × Tail
def thOf (t : Thq) : Thing := (t.1, t.2.1, t.2.2.1)
def Tg (K : PySem.W.Frag) (H : Hp) (v : V) (t : Thq) : Prop := ∃ a m : Addr, v = .ref a ∧ SqT K H a [.str t.1, .ref m] ∧ Mq K H m t.2.1 t.2.2.1 t.2.2.2
theorem Tg.th {K : PySem.W.Frag} {H : Hp} {v : V} {t : Thq} (h : Tg K H v t) : Th K H v (thOf t) := by
  obtain ⟨a, m, e, h1, h2⟩ := h
  exact ⟨a, m, e, h1, h2.mk⟩
theorem Tg.kp {K : PySem.W.Frag} {H H' : Hp} {v : V} {t : Thq} (h : Tg K H v t) (k : Kp K H H') : Tg K H' v t := by
  obtain ⟨a, m, e, h1, h2⟩ := h
  exact ⟨a, m, e, k _ _ h1, h2.kp k⟩
def Rwq (K : PySem.W.Frag) (H : Hp) (vs : List V) (ts : List Thq) : Prop := Paired (Tg K H) vs ts
theorem Rwq.kp {K : PySem.W.Frag} {H H' : Hp} (k : Kp K H H') {vs : List V} {ts : List Thq} (h : Rwq K H vs ts) : Rwq K H' vs ts := Paired.mapP h fun _ _ t => t.kp k
theorem Rwq.at {K : PySem.W.Frag} {H : Hp} {vs : List V} {ts : List Thq} {i : Nat} {v : V} (h : Rwq K H vs ts) (hi : vs[i]? = some v) : ∃ t, ts[i]? = some t ∧ Tg K H v t := LiI.paired_get h hi
theorem Rwq.len {K : PySem.W.Frag} {H : Hp} {vs : List V} {ts : List Thq} (h : Rwq K H vs ts) : vs.length = ts.length := Paired.length h
/-! ### good rows -/
def NrB (q : Rat) (b : Int) : Prop := (q.num.natAbs : Int) < b ∧ (q.den : Int) < b
def Nr : Tail → Prop
  | .fr p q => NrB p 1000000000 ∧ NrB q 1000000000
  | .sh t => NrB t 1000
  | .ct n => n = 1 ∨ n = 2
  | .no => True
def fitB (s due : Str) : Bool := if due = "curve" then decide (s ∈ (["line", "circle"] : List Str)) else decide (s = due)
def FitsE (x : Str) (ns : List Str) (L : Env) : Prop := ∃ (s : Str) (g : List Str), (x, s, g) ∈ wordsTab ∧ Paired (fun z due => (z ∈ nmsE L ∧ Sok z) ∧ fitB (srtE L z) due = true) ns g
theorem paired_left {α β : Type} {F : α → β → Prop} {P : α → Prop} (f : ∀ a b, F a b → P a) : ∀ {l : List α} {m : List β}, Paired F l m → ∀ a ∈ l, P a
  | _, _, .nil, _, h => by cases h
  | _, _, .cons r t, a, h => by
    rcases List.mem_cons.mp h with e | h
    · subst e; exact f _ _ r
    · exact paired_left f t a h
theorem FitsE.okm {x : Str} {ns : List Str} {L : Env} (h : FitsE x ns L) : Okm x ns L := by
  obtain ⟨s, g, h1, h2⟩ := h
  exact ⟨⟨s, g, h1, Paired.length h2⟩, paired_left (fun _ _ h => h.1) h2⟩
end Mb
namespace Mb
open PySem L2
/-! ### rows whose makings have their numbers: what is kept of them -/
theorem rwq_snocQ {K : PySem.W.Frag} {H : Hp} {vs : List V} {ts : List Thq} {v : V} {t : Thq} (h : Rwq K H vs ts) (g : Tg K H v t) : Rwq K H (vs ++ [v]) (ts ++ [t]) := by
  induction h with
  | nil => exact .cons g .nil
  | cons a r ih => exact .cons a ih
theorem lc_madeQ {K : PySem.W.Frag} {i j : Nat} {tt : TT} {te : TE} {σ : St} {Q : VK} {l : Addr} {us : List V} {ts : List Thq} {H : Hp} (keep : Thq → Bool) (hl : SqL K H l us) (rw_ : Rwq K H us ts) (few : us.length ≤ 1000)
    (hσ : ∀ u v, wipe (((wipe σ [i, j]).set i (some u)).set j (some v)) [i, j] = wipe σ [i, j])
    (stT : ∀ (n : Nat) (t : Thq) (m : Addr) (H' : Hp), ts[n]? = some t → Same H H' → Mq K H' m t.2.1 t.2.2.1 t.2.2.2 → ∀ R : Bool → Hp → Prop, (∀ H4, Same H' H4 → R (keep t) H4) → tt (((wipe σ [i, j]).set i (some (.str t.1))).set j (some (.ref m))) H' R)
    (stE : ∀ (n : Nat) (t : Thq) (m : Addr) (H' : Hp), ts[n]? = some t → Same H H' → Mq K H' m t.2.1 t.2.2.1 t.2.2.2 → ∀ R : VK, (∀ a H4, Same H' H4 → SqT K H4 a [.str t.1, .ref m] → R (.ref a) H4) → te (((wipe σ [i, j]).set i (some (.str t.1))).set j (some (.ref m))) H' R)
    (fin : ∀ (D : Addr) (vs : List V) (H' : Hp), Same H H' → H D = none → H' D = some (.lst vs) → Rwq K H' vs (ts.filter keep) → Q (.ref D) H') : lcL K (gTup K 2 (gCons (gName i) (gCons (gName j) gNil))) tt te [i, j] σ Q (.ref l) H := by
  refine ⟨l, rfl, ⟨_, hl⟩, fun D hD => ?_⟩
  have ln := rw_.len
  refine lc_list (xs := us) (fun n H' => ∃ vs : List V, Same H H' ∧ H' D = some (.lst vs) ∧ Rwq K H' vs ((ts.take n).filter keep)) ⟨[], same_new hD _, upd_same, by rw [List.take_zero]; exact .nil⟩ (fun n H' _ h => by obtain ⟨_, h, _⟩ := h; exact h.seq hl) ?_ ?_
  · rintro n v H' hv ⟨vs, g, d, rv⟩
    obtain ⟨t, ht, a, m, rfl, ta, mk⟩ := rw_.at hv
    have hi : n < ts.length := (List.getElem?_eq_some_iff.mp ht).1
    have e1 : ts.take (n + 1) = ts.take n ++ [t] := by rw [List.take_succ, ht, Option.toList_some]
    have lv := rv.len
    refine r_gT (g.tp ta) rfl ?_
    refine r_g2 ?_
    refine ⟨hσ _ _, ?_⟩
    replace mk := mk.kp (Kp.same g)
    refine stT n t m H' ht g mk _ fun H3 g3 => ?_
    cases hk : keep t with
    | false =>
      rw [if_neg (by simp)]
      refine ⟨vs, g.trans g3, g3 _ _ d, ?_⟩
      rw [e1, List.filter_append, List.filter_cons, hk]
      simpa using rv.kp (Kp.same g3)
    | true =>
      rw [if_pos rfl]
      replace mk := mk.kp (Kp.same g3)
      refine stE n t m H3 ht (g.trans g3) mk _ fun b H4 g4 tb => ?_
      have d4 := g4 _ _ (g3 _ _ d)
      have kp : Kp K H4 (upd H4 D (.lst (vs ++ [.ref b]))) := kp_list d4
      refine ⟨_, d4, ?_, vs ++ [.ref b], same_updS ((g.trans g3).trans g4) hD, upd_same, ?_⟩
      · have := List.length_filter_le keep (ts.take n)
        rw [List.length_take] at this
        exact Nat.lt_of_le_of_lt (show vs.length ≤ 1000 by omega) (by decide)
      · rw [e1, List.filter_append, List.filter_cons, hk]
        simp only [if_true, List.filter_nil]
        exact rwq_snocQ (((rv.kp (Kp.same g3)).kp (Kp.same g4)).kp kp) ⟨b, m, rfl, kp _ _ tb, (mk.kp (Kp.same g4)).kp kp⟩
  · rintro H' ⟨vs, g, d, rv⟩
    rw [ln, List.take_length] at rv
    exact fin D vs H' g hD d rv
theorem Rwq.rws {K : PySem.W.Frag} {H : Hp} : ∀ {vs : List V} {ts : List Thq}, Rwq K H vs ts → Rws K H vs (ts.map thOf)
  | _, _, .nil => .nil
  | _, _, .cons h t => .cons h.th (Rwq.rws t)
/-- the name and what it hangs on -/
def rootQ (z : Str) (ts : List Thq) : List Thq := ts.filter fun t => rootB z (ts.map thOf) (thOf t)
def spRootedQ (K : PySem.W.Frag) (C : Addr) : Sp := fun vs H Q E => ∃ (l : Addr) (z : Str) (us : List V) (ts : List Thq), vs = [.ref l, .str z] ∧ SqL K H l us ∧ Rwq K H us ts ∧ Vr [] (ts.map thOf) ∧ ts.length ≤ 60 ∧ z.length ≤ 1000 ∧
  (z ∈ nmsT (ts.map thOf) → ∀ (D : Addr) (vs : List V) (H' : Hp), Same H H' → H D = none → H' D = some (.lst vs) → Rwq K H' vs (rootQ z ts) → Q (.ref D) H') ∧ (z ∉ nmsT (ts.map thOf) → ∀ (d : Addr) (fs : List (Str × V)) (H' : Hp), Same H H' → H' d = some (.xd fs) → fs.lookup ("name" : Str) = some (V.str z) → E (.ref C) (some d) H')
end Mb
namespace Mb
open PySem L2
/-! ### the number of unknowns -/
def frN (ts : List Thq) : Nat := ((ts.map thOf).filter freeB).length
def manyN (ts : List Thq) : Nat := 2 * (frN ts - 2)
def spUnknowns (K : PySem.W.Frag) : Sp := fun vs H Q _ => ∃ (l : Addr) (us : List V) (ts : List Thq), vs = [.ref l] ∧ SqL K H l us ∧ Rwq K H us ts ∧ ts.length ≤ 60 ∧ ∀ (H' : Hp), Same H H' → Q (.int (manyN ts : Nat)) H'
end Mb
namespace Mb
open PySem L2
/-! ### the forms so far -/
theorem paired_snocT {α β : Type} {F : α → β → Prop} : ∀ {l : List α} {m : List β} {a : α} {b : β}, Paired F l m → F a b → Paired F (l ++ [a]) (m ++ [b])
  | _, _, _, _, .nil, h => .cons h .nil
  | _, _, _, _, .cons r t, h => .cons r (paired_snocT t h)
theorem val_mapG {α : Type} {L : List α} {z : Str} {nm : α → Str} {f : α → V} : valV (L.map fun e => ((.inr (nm e) : Key), f e)) (.inr z) = (L.find? fun e => decide (nm e = z)).map f := by
  unfold valV
  induction L with
  | nil => rfl
  | cons a r ih =>
    rw [List.map_cons, List.find?_cons, List.find?_cons]
    by_cases c : nm a = z
    · simp [c]
    · have : ¬ ((.inr (nm a) : Key) = .inr z) := fun h => c (Sum.inr.inj h)
      simp only [c, this, decide_false]
      exact ih
theorem put_newG {α : Type} {L : List α} {z : Str} {nm : α → Str} {f : α → V} {v : V} {e : α} (h : ∀ a ∈ L, nm a ≠ z) (he : nm e = z) (hv : f e = v) : putK (L.map fun e => ((.inr (nm e) : Key), f e)) (.inr z) v = (L ++ [e]).map fun e => ((.inr (nm e) : Key), f e) := by
  unfold putK
  rw [if_neg]
  · rw [List.map_append, List.map_cons, List.map_nil, he, hv]
  · intro c
    obtain ⟨kv, hk, hd⟩ := List.any_eq_true.mp c
    obtain ⟨a, ha, rfl⟩ := List.mem_map.mp hk
    exact h a ha (Sum.inr.inj (of_decide_eq_true hd))
def formD (tv : List (Str × V)) : List (Key × V) := tv.map fun e => (.inr e.1, e.2)
def lookV (tv : List (Str × V)) (z : Str) : V := ((tv.find? fun e => decide (e.1 = z)).map (·.2)).getD .non
abbrev Fe : Type := Str × Nat × (Nat → Wf)
def fLk (Z : List Fe) (z : Str) : Nat × (Nat → Wf) := ((Z.find? fun e => decide (e.1 = z)).map (·.2)).getD (0, fun _ _ => 0)
def shI : Tail → Int
  | .sh t => t.num
  | _ => 0
def shJ : Tail → Int
  | .sh t => (t.den : Int)
  | _ => 0
def shN (d : Tail) : Rat := (shI d : Rat)
def shB (d : Tail) : Rat := (shJ d : Rat)
def gnd (t : Thq) (i : Nat) : Str := t.2.2.1.getD i ""
def fStep (k : Nat) (Z : List Fe) (t : Thq) : List Fe :=
  if t.2.1 = "free" then Z ++ [(t.1, 1, freeF k)] else if sOf t.2.1 = "claim" then Z
  else Z ++ [(t.1, figD t.2.1 (fLk Z (gnd t 0)).1 (fLk Z (gnd t 1)).1, figF t.2.1 (shN t.2.2.2) (shB t.2.2.2) (fLk Z (gnd t 0)).2 (fLk Z (gnd t 1)).2)]
def nxt (k : Nat) (t : Thq) : Nat := if t.2.1 = "free" then k + 1 else k
def fGo : Nat → List Fe → List Thq → List Fe
  | _, Z, [] => Z
  | k, Z, t :: r => fGo (nxt k t) (fStep k Z t) r
def freeQ (t : Thq) : Bool := decide (t.2.1 = "free")
def frQ (ts : List Thq) : Nat := (ts.filter freeQ).length
theorem frQ_N {ts : List Thq} : frN ts = frQ ts := by
  unfold frN frQ
  induction ts with
  | nil => rfl
  | cons t r ih =>
    rw [List.map_cons, List.filter_cons, List.filter_cons]
    rw [show freeB (thOf t) = freeQ t from rfl]
    split
    · rw [List.length_cons, List.length_cons, ih]
    · exact ih
theorem frQ_cons {k : Nat} {u : Thq} {r : List Thq} : nxt k u + frQ r = k + frQ (u :: r) := by
  unfold frQ nxt
  rw [List.filter_cons]
  by_cases c : u.2.1 = "free"
  · rw [if_pos c, if_pos (show freeQ u = true from decide_eq_true c), List.length_cons]
    omega
  · rw [if_neg c, if_neg (show ¬ freeQ u = true from fun z => c (of_decide_eq_true z))]
theorem fGo_snoc : ∀ (a : List Thq) (k : Nat) (Z : List Fe) (t : Thq), fGo k Z (a ++ [t]) = fStep (k + frQ a) (fGo k Z a) t
  | [], _, _, _ => rfl
  | u :: r, k, Z, t => (fGo_snoc r (nxt k u) (fStep k Z u) t).trans (congrArg (fun n => fStep n (fGo (nxt k u) (fStep k Z u) r) t) frQ_cons)
/-- tuples stay, by both ways -/
structure Gw (K : PySem.W.Frag) (H H' : Hp) : Prop where
  p : Kp K H H'
  t : Kt H H'
theorem Gw.same {K : PySem.W.Frag} {H H' : Hp} (s : Same H H') : Gw K H H' := ⟨Kp.same s, Kt.same s⟩
theorem Gw.trans {K : PySem.W.Frag} {H H1 H2 : Hp} (a : Gw K H H1) (b : Gw K H1 H2) : Gw K H H2 := ⟨a.p.trans b.p, a.t.trans b.t⟩
theorem Gw.dict {K : PySem.W.Frag} {H : Hp} {p : Addr} {kvs : List (Key × V)} {o : HO} (h : H p = some (.dK kvs)) : Gw K H (upd H p o) := ⟨kp_dict h, fun q ys hq => by
  rw [upd_ne (fun z => by rw [z, h] at hq; cases hq)]
  exact hq⟩
theorem Fos.gw {K : PySem.W.Frag} {H H' : Hp} {v : V} {n m d S : Nat} {φ : Nat → Wf} (h : Fos K H v n m d S φ) (k : Gw K H H') : Fos K H' v n m d S φ := by
  obtain ⟨a, fs, e, h1, h2, h3⟩ := h
  exact ⟨a, fs, e, k.p _ _ h1, h2, fun i f hf => (h3 i f hf).kt k.t⟩
def FeAt (K : PySem.W.Frag) (H : Hp) (m W : Nat) (e : Fe) (v : V) : Prop := Fos K H v 3 m e.2.1 (210 * e.2.1 - 200) e.2.2 ∧ 1 ≤ e.2.1 ∧ e.2.1 ≤ W
def Fes (K : PySem.W.Frag) (H : Hp) (m W : Nat) (tv : List (Str × V)) (Z : List Fe) : Prop := Paired (fun e f => e.1 = f.1 ∧ FeAt K H m W f e.2) tv Z
theorem Fes.gw {K : PySem.W.Frag} {H H' : Hp} {m W : Nat} {tv : List (Str × V)} {Z : List Fe} (h : Fes K H m W tv Z) (k : Gw K H H') : Fes K H' m W tv Z := Paired.mapP h fun _ _ t => ⟨t.1, t.2.1.gw k, t.2.2⟩
theorem Fes.look {K : PySem.W.Frag} {H : Hp} {m W : Nat} : ∀ {tv : List (Str × V)} {Z : List Fe} {z : Str}, Fes K H m W tv Z → z ∈ Z.map (·.1) → (∃ e, tv.find? (fun e => decide (e.1 = z)) = some e ∧ e.2 = lookV tv z) ∧ FeAt K H m W (z, fLk Z z) (lookV tv z)
  | _, _, _, .nil, h => by cases h
  | e :: tv, p :: Z, z, .cons r t, h => by
    by_cases c : e.1 = z
    · have c2 : p.1 = z := by rw [← r.1]; exact c
      have e1 : (e :: tv).find? (fun e => decide (e.1 = z)) = some e := by rw [List.find?_cons]; simp [c]
      have e2 : (p :: Z).find? (fun e => decide (e.1 = z)) = some p := by rw [List.find?_cons]; simp [c2]
      have e3 : lookV (e :: tv) z = e.2 := by unfold lookV; rw [e1]; rfl
      have e4 : fLk (p :: Z) z = p.2 := by unfold fLk; rw [e2]; rfl
      exact ⟨⟨e, e1, e3.symm⟩, by rw [e3, e4]; exact r.2⟩
    · have c2 : p.1 ≠ z := by rw [← r.1]; exact c
      have e1 : (e :: tv).find? (fun e => decide (e.1 = z)) = tv.find? (fun e => decide (e.1 = z)) := by rw [List.find?_cons]; simp [c]
      have e2 : (p :: Z).find? (fun e => decide (e.1 = z)) = Z.find? (fun e => decide (e.1 = z)) := by rw [List.find?_cons]; simp [c2]
      have e3 : lookV (e :: tv) z = lookV tv z := by unfold lookV; rw [e1]
      have e4 : fLk (p :: Z) z = fLk Z z := by unfold fLk; rw [e2]
      have hz : z ∈ Z.map (·.1) := by
        rcases List.mem_cons.mp (show z ∈ p.1 :: Z.map (·.1) from h) with h | h
        · exact absurd h.symm c2
        · exact h
      obtain ⟨⟨e', h1, h2⟩, h3⟩ := Fes.look t hz
      exact ⟨⟨e', by rw [e1]; exact h1, by rw [e3]; exact h2⟩, by rw [e3, e4]; exact h3⟩
theorem get_form {K : PySem.W.Frag} {H H0 : Hp} {D : Addr} {m W : Nat} {tv : List (Str × V)} {Z : List Fe} {z : Str} (h : H D = some (.dK (formD tv))) (t : Fes K H0 m W tv Z) (hz : z ∈ Z.map (·.1)) : DGet H D (.str z) (some (lookV tv z)) := by
  obtain ⟨⟨e, h1, h2⟩, _⟩ := t.look hz
  have := DGet.k (k := .inr z) h
  unfold formD at this
  rw [val_mapG (nm := fun e : Str × V => e.1) (f := fun e => e.2), h1] at this
  rw [← h2]
  exact this
theorem form_put {tv : List (Str × V)} {z : Str} {v : V} (h : z ∉ tv.map (·.1)) : putK (formD tv) (.inr z) v = formD (tv ++ [(z, v)]) :=
  put_newG (nm := fun e : Str × V => e.1) (f := fun e => e.2) (e := (z, v)) (fun _ ha e => h (e ▸ List.mem_map_of_mem (f := (·.1)) ha)) rfl rfl
theorem Fes.nms {K : PySem.W.Frag} {H : Hp} {m W : Nat} : ∀ {tv : List (Str × V)} {Z : List Fe}, Fes K H m W tv Z → tv.map (·.1) = Z.map (·.1)
  | _, _, .nil => rfl
  | e :: _, p :: _, .cons r t => by
    rw [List.map_cons, List.map_cons, r.1, Fes.nms t]
end Mb
namespace Mb
open PySem L2
/-- a row whose things have forms -/
structure FwOk (W : Nat) (ts : List Thq) : Prop where
  nd : (ts.map (·.1)).Nodup
  new : ∀ (i : Nat) (t : Thq), ts[i]? = some t → t.1 ∉ (fGo 0 [] (ts.take i)).map (·.1)
  okm : ∀ (i : Nat) (t : Thq), ts[i]? = some t → Sok t.1 ∧ ∃ (s : Str) (g : List Str), (t.2.1, s, g) ∈ wordsTab ∧ t.2.2.1.length = g.length
  gr : ∀ (i : Nat) (t : Thq), ts[i]? = some t → t.2.1 ≠ "free" → sOf t.2.1 ≠ "claim" → t.2.1 ∈ figW ∧ t.2.2.1 = [gnd t 0, gnd t 1] ∧ gnd t 0 ∈ (fGo 0 [] (ts.take i)).map (·.1) ∧ gnd t 1 ∈ (fGo 0 [] (ts.take i)).map (·.1) ∧
    figD t.2.1 (fLk (fGo 0 [] (ts.take i)) (gnd t 0)).1 (fLk (fGo 0 [] (ts.take i)) (gnd t 1)).1 ≤ W
  sh : ∀ (i : Nat) (t : Thq) (q : Rat), ts[i]? = some t → t.2.2.2 = .sh q → Sm 20 q.num ∧ Sm 20 (q.den : Int)
def spFormsOf (K : PySem.W.Frag) : Sp := fun vs H Q _ => ∃ (l : Addr) (us : List V) (ts : List Thq) (W : Nat), vs = [.ref l] ∧ SqL K H l us ∧ Rwq K H us ts ∧ ts.length ≤ 60 ∧ FwOk W ts ∧ manyN ts ≤ 6 ∧ cnt (manyN ts) W ≤ 3003 ∧ 1 ≤ W ∧ W ≤ 24 ∧
  ∀ (tv : List (Str × V)) (D : Addr) (H' : Hp), Same H H' → H D = none → H' D = some (.dK (formD tv)) → Fes K H' (manyN ts) W tv (fGo 0 [] ts) → Q (.ref D) H'
theorem frees_idx {ts : List Thq} {i : Nat} {t : Thq} (h : ts[i]? = some t) (f : freeQ t = true) : (((ts.map thOf).filter freeB).map (·.1))[frQ (ts.take i)]? = some t.1 := by
  induction ts generalizing i with
  | nil => cases h
  | cons u r ih =>
    have eB : freeB (thOf u) = freeQ u := rfl
    cases i with
    | zero =>
      obtain rfl : u = t := Option.some.inj h
      rw [List.map_cons, List.filter_cons, if_pos (eB.trans f)]
      rfl
    | succ i =>
      have h' : r[i]? = some t := h
      have := ih h'
      rw [List.map_cons, List.filter_cons, List.take_succ_cons]
      unfold frQ at this ⊢
      rw [List.filter_cons]
      by_cases c : freeQ u = true
      · rw [if_pos (eB.trans c), if_pos c, List.length_cons, List.map_cons, List.getElem?_cons_succ]
        exact this
      · rw [if_neg (fun z => c (eB.symm.trans z)), if_neg c]
        exact this
end Mb
namespace Mb
open PySem PySem.Spec PyProof.Rows L2
theorem u65 {k : Nat} {A : Around} (r : Room k A) : A.units + 65 < cLine := by have := r.un; omega
end Mb
namespace Mb
open PySem L2
theorem frees_lt {ts : List Thq} {i : Nat} {t : Thq} (h : ts[i]? = some t) (f : freeQ t = true) : frQ (ts.take i) < frN ts := by
  have := (List.getElem?_eq_some_iff.mp (frees_idx h f)).1
  rw [List.length_map] at this
  exact this
theorem frees_nd {ts : List Thq} (h : (ts.map (·.1)).Nodup) : (((ts.map thOf).filter freeB).map (·.1)).Nodup := by
  have e : (ts.map thOf).map (·.1) = ts.map (·.1) := by rw [List.map_map]; rfl
  rw [← e] at h
  exact h.sublist (List.filter_sublist.map _)
theorem frees_no {ts : List Thq} {i : Nat} {t : Thq} {m : Nat} {z : PyData} (nd : (ts.map (·.1)).Nodup) (h : ts[i]? = some t) (f : freeQ t = true) (hm : m < frQ (ts.take i)) (hz : ((((ts.map thOf).filter freeB).map (·.1)).map PyData.str)[m]? = some z) : PyData.eqv z (.str t.1) = false := by
  have fi := frees_idx h f
  have n2 := frees_nd nd
  generalize ((ts.map thOf).filter freeB).map (·.1) = L at *
  rw [List.getElem?_map] at hz
  obtain ⟨y, hy, rfl⟩ := Option.map_eq_some_iff.mp hz
  have ne : y ≠ t.1 := fun e => by
    subst e
    obtain ⟨l1, e1⟩ := List.getElem?_eq_some_iff.mp hy
    obtain ⟨l2, e2⟩ := List.getElem?_eq_some_iff.mp fi
    have := (List.getElem_inj n2).mp (e1.trans e2.symm)
    omega
  simp [PyData.eqv, ne]
theorem eqv_str1 {z : Str} : PyData.eqv (.str z) (.str z) = true := by simp [PyData.eqv]
theorem frees_sok {ts : List Thq} {P : Nat → Thq → Prop} (ok : ∀ (i : Nat) (t : Thq), ts[i]? = some t → Sok t.1 ∧ P i t) {z : Str} (hz : z ∈ ((ts.map thOf).filter freeB).map (·.1)) : PyData.strOk z = true := by
  obtain ⟨u, hu, rfl⟩ := List.mem_map.mp hz
  obtain ⟨t, ht, rfl⟩ := List.mem_map.mp (List.mem_filter.mp hu).1
  obtain ⟨i, hi, e⟩ := List.getElem_of_mem ht
  exact (ok i t (by rw [List.getElem?_eq_getElem hi, e])).1.2
end Mb
namespace Mb
open PySem L2
theorem sh_str1 {z : Str} (h : Sok z) : SeqAt.shaped (.str z) = true := by
  have h1 := h.2
  simp [SeqAt.shaped, PyData.canLay, PyData.canLay0, PyData.depth, h1]
end Mb
namespace Mb
open PySem L2
theorem fig_sz {x : Str} {d e : Nat} (hd : 1 ≤ d) (he : 1 ≤ e) : 1 ≤ figD x d e ∧ figS x (210 * d - 200) (210 * e - 200) ≤ 210 * figD x d e - 200 := by
  unfold figD figS
  split <;> constructor <;> omega
end Mb
namespace Mb
open PySem L2
theorem r_gLst {K : PySem.W.Frag} {σ : St} {H : Hp} {Q : St → Hp → Prop} {t : TGs} {a : Addr} {xs : List V} {n : Nat} (h : SqL K H a xs) (l : xs.length = n) (q : t xs σ H Q) : gLst K n t (.ref a) σ H Q := ⟨a, xs, rfl, h, l, q⟩
end Mb
namespace Mb
open PySem L2
theorem fStep_len {k : Nat} {Z : List Fe} {t : Thq} : (fStep k Z t).length ≤ Z.length + 1 := by
  unfold fStep
  split
  · rw [List.length_append]; exact Nat.le_refl _
  · split
    · omega
    · rw [List.length_append]; exact Nat.le_refl _
theorem fGo_len : ∀ (a : List Thq) (k : Nat) (Z : List Fe), (fGo k Z a).length ≤ Z.length + a.length
  | [], _, _ => Nat.le_refl _
  | t :: r, k, Z => by
    have h1 := fGo_len r (nxt k t) (fStep k Z t)
    have h2 := fStep_len (k := k) (Z := Z) (t := t)
    show (fGo (nxt k t) (fStep k Z t) r).length ≤ _
    rw [List.length_cons]
    omega
end Mb
namespace Mb
open PySem PySem.Spec PyProof.Rows L2
/-! ### dicts of whole numbers written at the top -/
def EnI (e : DictEntry) (q : Int × Int) : Prop := (∃ t, e.key = .int q.1 t) ∧ e.hash = hashInt q.1 ∧ ∃ t, e.val = .int q.2 t
def KI (K : PySem.W.Frag) (a : Addr) (l : List (Int × Int)) : Prop := ∃ (es : Array DictEntry) (n : Nat), K.lookup a = some ⟨.type "dict", none, .dict es n, #[]⟩ ∧ (a == sysModules) = false ∧ Paired EnI es.toList l
def enB (e : DictEntry) (q : Int × Int) : Bool := (match e.key with | .int k _ => decide (k = q.1) | _ => false) && (decide (e.hash = hashInt q.1) && (match e.val with | .int v _ => decide (v = q.2) | _ => false))
def ensB : List DictEntry → List (Int × Int) → Bool
  | [], [] => true
  | e :: r, q :: s => enB e q && ensB r s
  | _, _ => false
def kiB (K : PySem.W.Frag) (a : Addr) (l : List (Int × Int)) : Bool := match K.lookup a with
  | some ⟨.type c, none, .dict es _, sl⟩ => decide (c = "dict") && (decide (sl = #[]) && (!(a == sysModules) && ensB es.toList l))
  | _ => false
theorem enB_ok {e : DictEntry} {q : Int × Int} (h : enB e q = true) : EnI e q := by
  unfold enB at h
  obtain ⟨h1, h2⟩ := He.ba h
  obtain ⟨h2, h3⟩ := He.ba h2
  refine ⟨?_, of_decide_eq_true h2, ?_⟩
  · cases k : e.key with
    | int i t => rw [k] at h1; exact ⟨t, by rw [show i = q.1 from of_decide_eq_true h1]⟩
    | _ => rw [k] at h1; cases h1
  · cases k : e.val with
    | int i t => rw [k] at h3; exact ⟨t, by rw [show i = q.2 from of_decide_eq_true h3]⟩
    | _ => rw [k] at h3; cases h3
theorem ensB_ok : ∀ {es : List DictEntry} {l : List (Int × Int)}, ensB es l = true → Paired EnI es l
  | [], [], _ => .nil
  | e :: r, q :: s, h => by
    obtain ⟨h1, h2⟩ := He.ba (show (enB e q && ensB r s) = true from h)
    exact .cons (enB_ok h1) (ensB_ok h2)
  | [], _ :: _, h => by cases h
  | _ :: _, [], h => by cases h
theorem kiB_ok {K : PySem.W.Frag} {a : Addr} {l : List (Int × Int)} (h : kiB K a l = true) : KI K a l := by
  unfold kiB at h
  cases q : K.lookup a with
  | none => rw [q] at h; cases h
  | some o =>
    obtain ⟨oc, od, dt, sl⟩ := o
    rw [q] at h
    cases oc with
    | type c =>
      cases od with
      | none =>
        cases dt with
        | dict es n =>
          obtain ⟨h1, h2⟩ := He.ba (show (decide (c = "dict") && (decide (sl = #[]) && (!(a == sysModules) && ensB es.toList l))) = true from h)
          obtain ⟨h2, h3⟩ := He.ba h2
          obtain ⟨h3, h4⟩ := He.ba h3
          have e1 : c = "dict" := of_decide_eq_true h1
          have e2 : sl = #[] := of_decide_eq_true h2
          subst e1 e2
          exact ⟨es, n, q, by simpa using h3, ensB_ok h4⟩
        | _ => cases h
      | some _ => cases dt <;> cases h
    | _ => cases od <;> cases dt <;> cases h
def FoundI (o : Option Int) (r : Option Value) : Prop := match o with
  | some v => ∃ t, r = some (.int v t)
  | none => r = none
theorem find_KI {k : Int} : ∀ {L : List DictEntry} {l : List (Int × Int)}, Paired EnI L l → FoundI (l.lookup k) ((L.find? fun e => Value.isInt k e.key).map (·.val))
  | _, _, .nil => rfl
  | e :: L, q :: l, .cons ⟨⟨t, hk⟩, _, ⟨t2, hv⟩⟩ r => by
    obtain ⟨i, v⟩ := q
    have ih := find_KI (k := k) r
    have hi : Value.isInt k e.key = (i == k) := by rw [hk]; rfl
    by_cases c : i = k
    · subst c
      rw [List.lookup_cons_self, List.find?_cons, hi]
      simp only [BEq.rfl]
      exact ⟨t2, by rw [Option.map_some, hv]⟩
    · have c1 : (i == k) = false := by simpa using c
      have c2 : (k == i) = false := by simpa using fun z => c z.symm
      rw [List.lookup_cons, c2, List.find?_cons, hi, c1]
      exact ih
theorem mapOf_KI {K : PySem.W.Frag} {prog : Program} {w : World} {h : Heap} {a : Addr} {l : List (Int × Int)} {es : Array DictEntry} {n : Nat} (X : K.In h) (hl : K.lookup a = some ⟨.type "dict", none, .dict es n, #[]⟩) (p : Paired EnI es.toList l) : h.MapOf (intKind prog w) a (fun k => findBy Value.isInt es k) :=
  ⟨_, es, n, X _ _ hl, ⟨rfl, rfl, rfl⟩, rfl, fun e he => by
    obtain ⟨i, hi, e1⟩ := List.getElem_of_mem (Array.mem_toList_iff.mpr he)
    obtain ⟨q, _, ⟨t, h1⟩, h2, _⟩ := LiI.paired_get p (show es.toList[i]? = some e by rw [List.getElem?_eq_getElem hi, e1])
    exact ⟨q.1, by rw [h1]; exact intKind_is prog w q.1 t, h2⟩, fun _ => rfl⟩
def tIGet2 (K : PySem.W.Frag) (td ty tx : TE) : TE := fun σ H Q => td σ H fun x H1 => ∃ a l, x = .ref a ∧ KI K a l ∧ ty σ H1 fun y H2 => tx σ H2 fun z H3 => ∃ k : Int, y = .int k ∧ Q (match l.lookup k with | some v => .int v | none => z) H3
theorem pe_iget2 {X : Cx} {o e f : Expr} {apos cpos : Pos} {td ty tx : TE} (ho : PE X o td) (he : PE X e ty) (hf : PE X f tx) (m : M2 X o "get" apos e f cpos) : PE X (.Call (.Attribute o "get" apos) [e, f] [] cpos) (tIGet2 X.K td ty tx) := by
  refine ⟨fun pins s σ H Q I h => ?_⟩
  refine wpAny_Call_method m.base m.few m.line PySem.F.plainAttrs_dict PySem.F.slot_dict_get PySem.F.type_dict_get (thn (ho.run pins s σ H _ I h) fun u s1 ⟨x, H1, I1, rx, a, l, ex, ⟨es, n, D1, D2, D3⟩, q1⟩ => ?_)
  subst ex
  obtain rfl : u = Value.ref a := rx
  refine ⟨(mapOf_KI (prog := X.prog) (w := X.w) I1.kIn D1 D3).typeIs, fun b q => ?_, ?_⟩
  · cases q
    exact ⟨_, I1.kIn _ _ D1, rfl⟩
  rw [m.trees]
  refine Calls.callWith_builtin rfl (Calls.evalArgs_plain (Calls.spliced_cons (thn (he.run pins s1 σ H1 _ I1 q1) fun iv s2 ⟨y, H2, I2, ry, q2⟩ =>
    Calls.spliced_cons (thn (hf.run pins s2 σ H2 _ I2 q2) fun fv s3 ⟨z, H3, I3, rz, k, ey, q3⟩ => Calls.spliced_nil ?_))))
  subst ey
  obtain ⟨t, rfl⟩ := (show ∃ t, iv = Value.int k t from ry)
  have hm := mapOf_KI (prog := X.prog) (w := X.w) I3.kIn D1 D3
  refine call_meetsIn PySem.F.slot_dict_get hm.typeIs PySem.F.entry_dict_get (PySem.F.args_dict_get_3 _ _ _) (meets_dict_get_default (intKind X.prog X.w) a (PySem.intKind_is X.prog X.w k t) D2 fv) ⟨_, hm, ?_⟩
  have fk := find_KI (k := k) D3
  have fe : findBy Value.isInt es k = (es.toList.find? fun e => Value.isInt k e.key).map (·.val) := by
    obtain ⟨L⟩ := es
    unfold findBy
    rw [List.find?_toArray]
  rw [fe]
  cases hL : l.lookup k with
  | some v0 =>
    rw [hL] at fk q3
    obtain ⟨t0, e0⟩ := fk
    rw [e0]
    exact ⟨.int v0, H3, I3.tok _, (show RelV (.int v0) (.int v0 t0) from ⟨t0, rfl⟩), q3⟩
  | none =>
    rw [hL] at fk q3
    rw [show (es.toList.find? fun e => Value.isInt k e.key).map (·.val) = none from fk]
    exact ⟨_, H3, I3.tok _, rz, q3⟩
theorem r_iget2 {K : PySem.W.Frag} {td ty tx : TE} {σ : L2.St} {H : Hp} {Q : VK} (q : td σ H fun x H1 => ∃ a l, x = .ref a ∧ KI K a l ∧ ty σ H1 fun y H2 => tx σ H2 fun z H3 => ∃ k : Int, y = .int k ∧ Q (match l.lookup k with | some v => .int v | none => z) H3) : tIGet2 K td ty tx σ H Q := q
end Mb
namespace Mb
open PySem L2
/-! ### the names are there: nothing is raised -/
def spMissingN (K : PySem.W.Frag) : Sp := fun vs H Q _ => ∃ (l : Addr) (z : Str) (us : List V) (ts : List Thing), vs = [.ref l, .str z] ∧ SqL K H l us ∧ Rws K H us ts ∧ ts.length ≤ 60 ∧ z.length ≤ 1000 ∧ z ∈ nmsT ts ∧ ∀ (H' : Hp), Same H H' → Q .non H'
def spBeneathN (K : PySem.W.Frag) : Sp := fun vs H Q _ => ∃ (l : Addr) (z : Str) (us : List V) (ts : List Thing), vs = [.ref l, .str z] ∧ SqL K H l us ∧ Rws K H us ts ∧ Vr [] ts ∧ ts.length ≤ 60 ∧ z.length ≤ 1000 ∧ z ∈ nmsT ts ∧
  ∀ (D : Addr) (H' : Hp), Same H H' → H D = none → H' D = some (.lst ((benOf z ts).map V.str)) → Q (.ref D) H'
def spRootedN (K : PySem.W.Frag) : Sp := fun vs H Q _ => ∃ (l : Addr) (z : Str) (us : List V) (ts : List Thq), vs = [.ref l, .str z] ∧ SqL K H l us ∧ Rwq K H us ts ∧ Vr [] (ts.map thOf) ∧ ts.length ≤ 60 ∧ z.length ≤ 1000 ∧ z ∈ nmsT (ts.map thOf) ∧
  ∀ (D : Addr) (vs : List V) (H' : Hp), Same H H' → H D = none → H' D = some (.lst vs) → Rwq K H' vs (rootQ z ts) → Q (.ref D) H'
end Mb
namespace Mb
open PySem L2
/-! ### what may be asked -/
def wideL : List (Int × Int) := [(1, 24), (2, 24), (3, 24), (4, 12), (5, 8)]
def wideN (n : Nat) : Int := (wideL.lookup (n : Int)).getD 0
structure Askd (z : Str) (ss : List Str) (ts : List Thq) : Prop where
  last : ∃ (a : List Thq) (t : Thq), rootQ z ts = a ++ [t] ∧ sOf t.2.1 ∈ ss
  vr : Vr [] ((rootQ z ts).map thOf)
  nocut : ∀ t ∈ rootQ z ts, t.2.1 ≠ "cut"
  light : ∀ w : Int, (envOf [] ((rootQ z ts).map thOf)).getLast?.map (·.2.2) = some w → w ≤ wideN (frN (rootQ z ts))
def spAskedN (K : PySem.W.Frag) : Sp := fun vs H Q _ => ∃ (l sp : Addr) (z : Str) (us : List V) (ts : List Thq) (ss : List Str), vs = [.ref l, .str z, .ref sp] ∧ SqL K H l us ∧ Rwq K H us ts ∧ Vr [] (ts.map thOf) ∧ ts.length ≤ 60 ∧ z.length ≤ 1000 ∧ z ∈ nmsT (ts.map thOf) ∧ SqT K H sp (ss.map V.str) ∧ Askd z ss ts ∧
  ∀ (D : Addr) (vs : List V) (H' : Hp), Same H H' → H D = none → H' D = some (.lst vs) → Rwq K H' vs (rootQ z ts) → Q (.ref D) H'
end Mb
namespace Mb
open PySem L2
theorem r_notInT {K : PySem.W.Frag} {H : Hp} {Q : VK} {a : Addr} {z : Str} {zs : List Str} (h : SqT K H a (zs.map V.str)) (q : Q (.bl (!decide (z ∈ zs))) H) : rIn K true (.str z) (.ref a) H Q :=
  ⟨a, _, rfl, .inr h, rfl, by rw [List.all_map]; exact List.all_eq_true.mpr (fun _ _ => rfl), by rw [inV_str]; exact q⟩
end Mb
namespace Mb
open PySem L2
theorem wide_match {k : Int} : (match wideL.lookup k with | some v => V.int v | none => V.int 0) = V.int ((wideL.lookup k).getD 0) := by
  cases wideL.lookup k <;> rfl
theorem env_last {ts : List Thing} (h : ts ≠ []) : ∃ (L : Env) (e : Str × Str × Int), envOf [] ts = L ++ [e] := by
  have ne : envOf [] ts ≠ [] := fun z => by
    have := congrArg List.length (nms_env0 (ts := ts))
    rw [z] at this
    have l0 : (nmsT ts).length = ts.length := by unfold nmsT; rw [List.length_map]
    rw [l0] at this
    exact h (List.length_eq_zero_iff.mp this.symm)
  exact ⟨_, _, (List.dropLast_concat_getLast ne).symm⟩
end Mb
namespace Mb
open PySem L2
def spWorked (K : PySem.W.Frag) : Sp := fun vs H Q _ => ∃ (l : Addr) (z : Str) (us : List V) (ts : List Thq) (W : Nat), vs = [.ref l, .str z] ∧ SqL K H l us ∧ Rwq K H us ts ∧ Vr [] (ts.map thOf) ∧ ts.length ≤ 60 ∧ z.length ≤ 1000 ∧ z ∈ nmsT (ts.map thOf) ∧ Askd z ["point", "line"] ts ∧
  FwOk W (rootQ z ts) ∧ manyN (rootQ z ts) ≤ 6 ∧ cnt (manyN (rootQ z ts)) W ≤ 3003 ∧ 1 ≤ W ∧ W ≤ 24 ∧ z ∈ (fGo 0 [] (rootQ z ts)).map (·.1) ∧
  ∀ (r : V) (H' : Hp), Same H H' → FeAt K H' (manyN (rootQ z ts)) W (z, fLk (fGo 0 [] (rootQ z ts)) z) r → Q r H'
end Mb
namespace Mb
open PySem L2
/-! ### the law's helpers -/
def spTwo (K : PySem.W.Frag) : Sp := fun vs H Q _ => ∃ (p l : Addr) (b : Int) (ns : List Str), vs = [.ref p, .ref l] ∧ Pl H p b ∧ b ≤ 1900000 ∧ SqL K H l (ns.map V.str) ∧ 1 ≤ ns.length ∧ ns.length ≤ 60 ∧ p ≠ l ∧
  ∀ (o : Addr) (x y : Str) (b' : Int) (H' : Hp), But p H H' → Pl H' p b' → b' ≤ b + 3 → x ∈ ns → y ∈ ns → H' o = some (.tup [.str x, .str y]) → Q (.ref o) H'
end Mb
namespace Mb
open PySem L2
theorem sq_but {K : PySem.W.Frag} {H H' : Hp} {p l : Addr} {xs : List V} (k : But p H H') (n : p ≠ l) (h : SqL K H l xs) : SqL K H' l xs := by
  rcases h with h | h
  · refine .inl ?_
    unfold Rd at h ⊢
    rcases h with h | ⟨o, h⟩
    · exact .inl (k _ _ (fun z => n z.symm) h)
    · exact .inr ⟨o, k _ _ (fun z => n z.symm) h⟩
  · exact .inr h
end Mb
namespace Mb
open PySem L2
def spWeightP (K : PySem.W.Frag) : Sp := fun vs H Q _ => ∃ (m S W : Addr) (x : Str) (ns : List Str) (L : Env), vs = [.ref m, .ref S, .ref W] ∧ Mk K H m x ns ∧ Okm x ns L ∧ x ≠ "cut" ∧ H W = some (.dK (loadsD L)) ∧ Light L ∧ ∀ H', Same H H' → Q (.int (wOf x ns L)) H'
end Mb
namespace Mb
open PySem L2
def lineW : List Str := ["foot", "mirror", "along", "upright"]
def Hungs (pts lns : List Str) (x : Str) (ns : List Str) (d : Tail) : Prop := x ∈ figW ∧ (∃ a c, ns = [a, c] ∧ ((x = "meet" ∧ a ∈ lns ∧ c ∈ lns) ∨ (x ≠ "meet" ∧ a ∈ pts ∧ ((x ∈ lineW ∧ c ∈ lns) ∨ (x ∉ lineW ∧ c ∈ pts))))) ∧
  ((∃ q, x = "share" ∧ d = .sh q ∧ NrB q 1000) ∨ (x ≠ "share" ∧ d = .no))
def spHung (K : PySem.W.Frag) : Sp := fun vs H Q _ => ∃ (p lp ll : Addr) (b : Int) (pts lns : List Str), vs = [.ref p, .ref lp, .ref ll] ∧ Pl H p b ∧ b ≤ 1800000 ∧ SqL K H lp (pts.map V.str) ∧ SqL K H ll (lns.map V.str) ∧ 1 ≤ pts.length ∧ pts.length ≤ 60 ∧ lns.length ≤ 60 ∧ p ≠ lp ∧ p ≠ ll ∧
  ∀ (m : Addr) (x : Str) (ns : List Str) (d : Tail) (b' : Int) (H' : Hp), But p H H' → Pl H' p b' → b' ≤ b + 20 → Mq K H' m x ns d → Hungs pts lns x ns d → Q (.ref m) H'
theorem low_nr : ∀ t : Fin 13, ∀ b : Fin 5, NrB (Rat.divInt ((t.val : Int) - 6) (1 + (b.val : Int))) 1000 := by unfold NrB; decide +kernel
end Mb
namespace Mb
open PySem L2
def takeQ : List Str → List Thq → List Thq
  | _, [] => []
  | F, t :: r => if t.1 ∈ F then t :: takeQ (t.2.2.1.foldl addF F) r else takeQ F r
def foldQ (F : List Str) (a : List Thq) : List Str := (a.map thOf).foldl stepF F
theorem takeQ_snoc : ∀ (a : List Thq) (F : List Str) (t : Thq), takeQ F (a ++ [t]) = takeQ F a ++ (if t.1 ∈ foldQ F a then [t] else [])
  | [], F, t => by
    show takeQ F [t] = [] ++ _
    unfold takeQ
    by_cases h : t.1 ∈ F
    · rw [if_pos h, if_pos (show t.1 ∈ foldQ F [] from h)]
      rfl
    · rw [if_neg h, if_neg (show ¬ t.1 ∈ foldQ F [] from h)]
      rfl
  | u :: r, F, t => by
    rw [List.cons_append]
    unfold takeQ
    have e : foldQ F (u :: r) = foldQ (stepF F (thOf u)) r := rfl
    rw [e]
    by_cases h : u.1 ∈ F
    · rw [if_pos h, if_pos h, takeQ_snoc r, step_in (t := thOf u) h]
      rfl
    · rw [if_neg h, if_neg h, takeQ_snoc r, step_out (t := thOf u) h]
theorem takeQ_len : ∀ (a : List Thq) (F : List Str), (takeQ F a).length ≤ a.length
  | [], _ => by simp [takeQ]
  | u :: r, F => by
    unfold takeQ
    have h1 := takeQ_len r (u.2.2.1.foldl addF F)
    have h2 := takeQ_len r F
    split
    · simp only [List.length_cons]; omega
    · simp only [List.length_cons]; omega
theorem takeQ_filter : ∀ {r : List Thq} {F : List Str}, Rv (r.map thOf) → takeQ F r = r.filter fun t => decide ((thOf t).1 ∈ foldQ F r)
  | [], _, _ => rfl
  | t :: r, F, ⟨⟨h1, h2⟩, h3⟩ => by
    have ef : foldQ F (t :: r) = foldQ (stepF F (thOf t)) r := rfl
    rw [List.filter_cons, ef]
    have e1 : (thOf t).1 ∈ foldQ (stepF F (thOf t)) r ↔ t.1 ∈ F := by
      unfold foldQ
      rw [mem_foldF h2, mem_stepF]
      constructor
      · rintro (h | ⟨_, h⟩)
        · exact h
        · exact absurd h h1
      · exact .inl
    unfold takeQ
    by_cases h : t.1 ∈ F
    · rw [if_pos h, if_pos (decide_eq_true (e1.mpr h)), takeQ_filter h3, step_in (t := thOf t) h]
      rfl
    · rw [if_neg h, if_neg (fun z => h (e1.mp (of_decide_eq_true z))), takeQ_filter h3, step_out (t := thOf t) h]
theorem rwq_rev {K : PySem.W.Frag} {H : Hp} : ∀ {us : List V} {ts : List Thq}, Rwq K H us ts → Rwq K H us.reverse ts.reverse
  | _, _, .nil => .nil
  | _, _, .cons h r => by
    rw [List.reverse_cons, List.reverse_cons]
    exact rwq_snocQ (rwq_rev r) h
def spPartQ (K : PySem.W.Frag) : Sp := fun vs H Q _ => ∃ (l : Addr) (z : Str) (us : List V) (ts : List Thq), vs = [.ref l, .str z] ∧ SqL K H l us ∧ Rwq K H us ts ∧ Vr [] (ts.map thOf) ∧ ts.length ≤ 60 ∧ ∀ (D : Addr) (vs : List V) (H' : Hp), Same H H' → H D = none → H' D = some (.lst vs) → Rwq K H' vs (takeQ [z] ts.reverse).reverse → Q (.ref D) H'
end Mb
namespace Mb
open PySem L2
theorem foldQ_snoc {F : List Str} {a : List Thq} {t : Thq} : foldQ F (a ++ [t]) = stepF (foldQ F a) (thOf t) := by
  unfold foldQ
  rw [List.map_append, List.foldl_append]
  rfl
theorem foldQ_nil {F : List Str} : foldQ F [] = F := rfl
end Mb
namespace Mb
open PySem L2
theorem part_rootQ {z : Str} {ts : List Thq} (h : Vr [] (ts.map thOf)) : (takeQ [z] ts.reverse).reverse = rootQ z ts := by
  rw [takeQ_filter (by rw [List.map_reverse]; exact Rv_of rfl h), ← List.filter_reverse, List.reverse_reverse]
  unfold rootQ
  refine List.filter_congr fun t ht => ?_
  have hc : foldQ [z] ts.reverse = closeF z (ts.map thOf) := by unfold foldQ closeF; rw [List.map_reverse]
  rw [hc]
  have ht' : thOf t ∈ ts.map thOf := List.mem_map_of_mem ht
  unfold rootB
  rw [decide_eq_decide, List.mem_append, List.mem_singleton]
  have hz : z ∈ closeF z (ts.map thOf) := mem_foldl_self List.mem_cons_self
  constructor
  · intro hc
    by_cases e : (thOf t).1 = z
    · exact .inr e
    · refine .inl (List.mem_map.mpr ⟨thOf t, List.mem_filter.mpr ⟨ht', ?_⟩, rfl⟩)
      unfold keepB
      simp [hc, e]
  · rintro (hb | e)
    · obtain ⟨u, hu, e⟩ := List.mem_map.mp hb
      have := (List.mem_filter.mp hu).2
      unfold keepB at this
      simp only [Bool.and_eq_true, decide_eq_true_eq] at this
      rw [← e]
      exact this.1
    · rw [e]
      exact hz
end Mb
namespace Mb
open PySem L2
/-! ### what forms are worth: a thing's three numbers but for one factor -/
def madeR (x : Str) (t b X Y Wt U V_ Z : Rat) : Rat × Rat × Rat :=
  if x = "line" then (Y * Z - V_ * Wt, U * Wt - X * Z, U * Y - X * V_)
  else if x = "meet" then (Wt * V_ - Y * Z, X * Z - U * Wt, X * V_ - Y * U)
  else if x = "along" then (U * Wt, V_ * Wt, U * X + V_ * Y)
  else if x = "upright" then (V_ * Wt, -U * Wt, V_ * X - U * Y)
  else if x = "turn" then ((U + V_) * Wt - Y * Z, (V_ - U) * Wt + X * Z, Wt * Z)
  else if x = "foot" then ((V_ * X - U * Y) * V_ + U * Z * Wt, V_ * Z * Wt - (V_ * X - U * Y) * U, (U * U + V_ * V_) * Wt)
  else if x = "mirror" then (2 * ((V_ * X - U * Y) * V_ + U * Z * Wt) - (U * U + V_ * V_) * X, 2 * (V_ * Z * Wt - (V_ * X - U * Y) * U) - (U * U + V_ * V_) * Y, (U * U + V_ * V_) * Wt)
  else if x = "middle" then (X * Z * (2 - 1) + U * Wt * 1, Y * Z * (2 - 1) + V_ * Wt * 1, Wt * Z * 2)
  else if x = "share" then (X * Z * (b - t) + U * Wt * t, Y * Z * (b - t) + V_ * Wt * t, Wt * Z * b)
  else (X * Z * (1 - 2) + U * Wt * 2, Y * Z * (1 - 2) + V_ * Wt * 2, Wt * Z * 1)
theorem fig_made {x : Str} {t b X Y Wt U V_ Z c e : Rat} {φ ψ : Nat → Wf} {rs : List Rat} (hx : x ∈ figW) (hc : c ≠ 0) (he : e ≠ 0)
    (p0 : φ 0 rs = c * X) (p1 : φ 1 rs = c * Y) (p2 : φ 2 rs = c * Wt) (q0 : ψ 0 rs = e * U) (q1 : ψ 1 rs = e * V_) (q2 : ψ 2 rs = e * Z) :
    ∃ k : Rat, k ≠ 0 ∧ figF x t b φ ψ 0 rs = k * (madeR x t b X Y Wt U V_ Z).1 ∧ figF x t b φ ψ 1 rs = k * (madeR x t b X Y Wt U V_ Z).2.1 ∧ figF x t b φ ψ 2 rs = k * (madeR x t b X Y Wt U V_ Z).2.2 := by
  have ce : c * e ≠ 0 := by intro z; rcases Rat.mul_eq_zero.mp z with z | z <;> contradiction
  have cee : c * e * e ≠ 0 := by intro z; rcases Rat.mul_eq_zero.mp z with z | z <;> contradiction
  unfold figW at hx
  simp only [List.mem_cons, List.not_mem_nil, or_false] at hx
  rcases hx with rfl | rfl | rfl | rfl | rfl | rfl | rfl | rfl | rfl | rfl
  · refine ⟨c * e, ce, ?_, ?_, ?_⟩
    · show (2 - 1 : Rat) * (φ 0 rs * ψ 2 rs) + 1 * (ψ 0 rs * φ 2 rs) = c * e * (X * Z * (2 - 1) + U * Wt * 1); grind
    · show (2 - 1 : Rat) * (φ 1 rs * ψ 2 rs) + 1 * (ψ 1 rs * φ 2 rs) = c * e * (Y * Z * (2 - 1) + V_ * Wt * 1); grind
    · show (2 : Rat) * (φ 2 rs * ψ 2 rs) = c * e * (Wt * Z * 2); grind
  · refine ⟨c * e, ce, ?_, ?_, ?_⟩
    · show (1 - 2 : Rat) * (φ 0 rs * ψ 2 rs) + 2 * (ψ 0 rs * φ 2 rs) = c * e * (X * Z * (1 - 2) + U * Wt * 2); grind
    · show (1 - 2 : Rat) * (φ 1 rs * ψ 2 rs) + 2 * (ψ 1 rs * φ 2 rs) = c * e * (Y * Z * (1 - 2) + V_ * Wt * 2); grind
    · show (1 : Rat) * (φ 2 rs * ψ 2 rs) = c * e * (Wt * Z * 1); grind
  · refine ⟨c * e, ce, ?_, ?_, ?_⟩
    · show (b - t) * (φ 0 rs * ψ 2 rs) + t * (ψ 0 rs * φ 2 rs) = c * e * (X * Z * (b - t) + U * Wt * t); grind
    · show (b - t) * (φ 1 rs * ψ 2 rs) + t * (ψ 1 rs * φ 2 rs) = c * e * (Y * Z * (b - t) + V_ * Wt * t); grind
    · show b * (φ 2 rs * ψ 2 rs) = c * e * (Wt * Z * b); grind
  · refine ⟨c * e, ce, ?_, ?_, ?_⟩
    · show (ψ 0 rs + ψ 1 rs) * φ 2 rs - φ 1 rs * ψ 2 rs = c * e * ((U + V_) * Wt - Y * Z); grind
    · show (ψ 1 rs - ψ 0 rs) * φ 2 rs + φ 0 rs * ψ 2 rs = c * e * ((V_ - U) * Wt + X * Z); grind
    · show φ 2 rs * ψ 2 rs = c * e * (Wt * Z); grind
  · refine ⟨c * e * e, cee, ?_, ?_, ?_⟩
    · show φ 0 rs * (ψ 0 rs * ψ 0 rs + ψ 1 rs * ψ 1 rs) + ψ 0 rs * (1 * (ψ 2 rs * φ 2 rs - (ψ 0 rs * φ 0 rs + ψ 1 rs * φ 1 rs))) = c * e * e * ((V_ * X - U * Y) * V_ + U * Z * Wt); grind
    · show φ 1 rs * (ψ 0 rs * ψ 0 rs + ψ 1 rs * ψ 1 rs) + ψ 1 rs * (1 * (ψ 2 rs * φ 2 rs - (ψ 0 rs * φ 0 rs + ψ 1 rs * φ 1 rs))) = c * e * e * (V_ * Z * Wt - (V_ * X - U * Y) * U); grind
    · show φ 2 rs * (ψ 0 rs * ψ 0 rs + ψ 1 rs * ψ 1 rs) = c * e * e * ((U * U + V_ * V_) * Wt); grind
  · refine ⟨c * e * e, cee, ?_, ?_, ?_⟩
    · show φ 0 rs * (ψ 0 rs * ψ 0 rs + ψ 1 rs * ψ 1 rs) + ψ 0 rs * (2 * (ψ 2 rs * φ 2 rs - (ψ 0 rs * φ 0 rs + ψ 1 rs * φ 1 rs))) = c * e * e * (2 * ((V_ * X - U * Y) * V_ + U * Z * Wt) - (U * U + V_ * V_) * X); grind
    · show φ 1 rs * (ψ 0 rs * ψ 0 rs + ψ 1 rs * ψ 1 rs) + ψ 1 rs * (2 * (ψ 2 rs * φ 2 rs - (ψ 0 rs * φ 0 rs + ψ 1 rs * φ 1 rs))) = c * e * e * (2 * (V_ * Z * Wt - (V_ * X - U * Y) * U) - (U * U + V_ * V_) * Y); grind
    · show φ 2 rs * (ψ 0 rs * ψ 0 rs + ψ 1 rs * ψ 1 rs) = c * e * e * ((U * U + V_ * V_) * Wt); grind
  · refine ⟨-(c * e), fun z => ce (by grind), ?_, ?_, ?_⟩
    · show φ 1 rs * ψ 2 rs - φ 2 rs * ψ 1 rs = -(c * e) * (Wt * V_ - Y * Z); grind
    · show φ 2 rs * ψ 0 rs - φ 0 rs * ψ 2 rs = -(c * e) * (X * Z - U * Wt); grind
    · show φ 1 rs * ψ 0 rs - φ 0 rs * ψ 1 rs = -(c * e) * (X * V_ - Y * U); grind
  · refine ⟨c * e, ce, ?_, ?_, ?_⟩
    · show φ 1 rs * ψ 2 rs - φ 2 rs * ψ 1 rs = c * e * (Y * Z - V_ * Wt); grind
    · show φ 2 rs * ψ 0 rs - φ 0 rs * ψ 2 rs = c * e * (U * Wt - X * Z); grind
    · show φ 1 rs * ψ 0 rs - φ 0 rs * ψ 1 rs = c * e * (U * Y - X * V_); grind
  · refine ⟨c * e, ce, ?_, ?_, ?_⟩
    · show ψ 0 rs * φ 2 rs = c * e * (U * Wt); grind
    · show ψ 1 rs * φ 2 rs = c * e * (V_ * Wt); grind
    · show ψ 0 rs * φ 0 rs + ψ 1 rs * φ 1 rs = c * e * (U * X + V_ * Y); grind
  · refine ⟨c * e, ce, ?_, ?_, ?_⟩
    · show ψ 1 rs * φ 2 rs = c * e * (V_ * Wt); grind
    · show -1 * ψ 0 rs * φ 2 rs = c * e * (-U * Wt); grind
    · show ψ 1 rs * φ 0 rs + -1 * ψ 0 rs * φ 1 rs = c * e * (V_ * X - U * Y); grind
end Mb
namespace Mb
open PySem L2
/-! ### rows of free points and of what hangs on points and lines -/
theorem find_old {L : Env} {t : Thing} {z : Str} (h : z ∈ nmsE L) : (envStep L t).find? (fun e => decide (e.1 = z)) = L.find? (fun e => decide (e.1 = z)) := by
  obtain ⟨e, _, hf⟩ := find_in h
  unfold envStep
  rw [List.find?_append, hf]
  rfl
theorem srtP_old {L : Env} {t : Thing} {z : Str} (h : z ∈ nmsE L) : srtE (envStep L t) z = srtE L z := by unfold srtE; rw [find_old h]
theorem wtP_old {L : Env} {t : Thing} {z : Str} (h : z ∈ nmsE L) : wtE (envStep L t) z = wtE L z := by unfold wtE; rw [find_old h]
theorem wtP_step {L : Env} {t : Thing} (h : t.1 ∉ nmsE L) : wtE (envStep L t) t.1 = wOf t.2.1 t.2.2 L := by
  unfold wtE envStep
  rw [List.find?_append]
  have : L.find? (fun e => decide (e.1 = t.1)) = none := by
    rw [List.find?_eq_none]
    intro e he hd
    exact h (of_decide_eq_true hd ▸ List.mem_map.mpr ⟨e, he, rfl⟩)
  rw [this]
  simp
def HwT (t : Thq) : Prop := (t.2.1 = "free" ∧ ∃ x y, t.2.2.2 = .fr x y) ∨ (t.2.1 ∈ figW ∧ ∀ q, t.2.2.2 = .sh q → NrB q 1000)
def Vp (W : Int) : Env → List Thq → Prop
  | _, [] => True
  | L, t :: r => (t.1 ∉ nmsE L ∧ Sok t.1 ∧ FitsE t.2.1 t.2.2.1 L ∧ HwT t ∧ 0 ≤ wOf t.2.1 t.2.2.1 L ∧ wOf t.2.1 t.2.2.1 L ≤ W) ∧ Vp W (envStep L (thOf t)) r
theorem Vp.vr {W : Int} (hW : W ≤ 40) : ∀ {ts : List Thq} {L : Env}, Vp W L ts → Vr L (ts.map thOf)
  | [], _, _ => trivial
  | t :: r, L, ⟨⟨h1, h2, h3, h4, h5, h6⟩, h⟩ => ⟨⟨h1, h2, h3.okm, h5, by show wOf t.2.1 t.2.2.1 L ≤ 40; omega⟩, Vp.vr hW h⟩
theorem Vp.snoc {W : Int} : ∀ {ts : List Thq} {L : Env} {t : Thq}, Vp W L ts → (t.1 ∉ nmsE (envOf L (ts.map thOf)) ∧ Sok t.1 ∧ FitsE t.2.1 t.2.2.1 (envOf L (ts.map thOf)) ∧ HwT t ∧ 0 ≤ wOf t.2.1 t.2.2.1 (envOf L (ts.map thOf)) ∧ wOf t.2.1 t.2.2.1 (envOf L (ts.map thOf)) ≤ W) → Vp W L (ts ++ [t])
  | [], _, _, _, h => ⟨h, trivial⟩
  | u :: r, L, t, ⟨h1, h2⟩, h => ⟨h1, Vp.snoc h2 h⟩
theorem Vp.split {W : Int} : ∀ {a b : List Thq} {L : Env}, Vp W L (a ++ b) → Vp W L a ∧ Vp W (envOf L (a.map thOf)) b
  | [], _, _, h => ⟨trivial, h⟩
  | t :: a, b, L, ⟨h1, h2⟩ => by
    obtain ⟨h3, h4⟩ := Vp.split h2
    exact ⟨⟨h1, h3⟩, h4⟩
theorem Vp.at {W : Int} {ts : List Thq} {L : Env} {i : Nat} {t : Thq} (h : Vp W L ts) (hi : ts[i]? = some t) : t.1 ∉ nmsE (envOf L ((ts.take i).map thOf)) ∧ Sok t.1 ∧ FitsE t.2.1 t.2.2.1 (envOf L ((ts.take i).map thOf)) ∧ HwT t ∧ 0 ≤ wOf t.2.1 t.2.2.1 (envOf L ((ts.take i).map thOf)) ∧ wOf t.2.1 t.2.2.1 (envOf L ((ts.take i).map thOf)) ≤ W := by
  obtain ⟨hl, e⟩ := List.getElem?_eq_some_iff.mp hi
  have e1 : ts = ts.take i ++ (t :: ts.drop (i + 1)) := by rw [← e, List.getElem_cons_drop, List.take_append_drop]
  rw [e1] at h
  exact h.split.2.1
theorem Vp.new {W : Int} : ∀ {ts : List Thq} {L : Env}, Vp W L ts → ∀ u ∈ ts, u.1 ∉ nmsE L
  | t :: r, L, ⟨h1, h2⟩, u, hu => by
    rcases List.mem_cons.mp hu with rfl | hu
    · exact h1.1
    · intro z
      exact Vp.new h2 u hu (by rw [nms_step]; exact List.mem_append_left _ z)
theorem nmsQ {ts : List Thq} : nmsT (ts.map thOf) = ts.map (·.1) := by unfold nmsT; rw [List.map_map]; rfl
theorem Vp.nd {W : Int} : ∀ {ts : List Thq} {L : Env}, Vp W L ts → (ts.map (·.1)).Nodup
  | [], _, _ => List.nodup_nil
  | t :: r, L, ⟨h1, h2⟩ => by
    rw [List.map_cons, List.nodup_cons]
    refine ⟨fun h => ?_, Vp.nd h2⟩
    obtain ⟨u, hu, e⟩ := List.mem_map.mp h
    exact Vp.new h2 u hu (by rw [nms_step, e]; simp; exact .inr rfl)
theorem paired_mem {α β : Type} {F G : α → β → Prop} : ∀ {l : List α} {m : List β}, Paired F l m → (∀ a ∈ l, ∀ b, F a b → G a b) → Paired G l m
  | _, _, .nil, _ => .nil
  | _, _, .cons r t, h => .cons (h _ List.mem_cons_self _ r) (paired_mem t fun a ha => h a (List.mem_cons_of_mem _ ha))
structure SubE (L' L : Env) : Prop where
  mem : ∀ z ∈ nmsE L', z ∈ nmsE L
  s : ∀ z ∈ nmsE L', srtE L' z = srtE L z
  w : ∀ z ∈ nmsE L', wtE L' z = wtE L z
theorem fits_sub {x : Str} {ns : List Str} {L L' : Env} (h : FitsE x ns L) (g : ∀ z ∈ ns, z ∈ nmsE L') (sb : SubE L' L) : FitsE x ns L' := by
  obtain ⟨s, d, h1, h2⟩ := h
  refine ⟨s, d, h1, paired_mem h2 fun a ha b hb => ⟨⟨g a ha, hb.1.2⟩, ?_⟩⟩
  rw [sb.s a (g a ha)]
  exact hb.2
theorem w_sub {x : Str} {ns : List Str} {L L' : Env} (h : FitsE x ns L) (g : ∀ z ∈ ns, z ∈ nmsE L') (sb : SubE L' L) : wOf x ns L' = wOf x ns L := by
  obtain ⟨s, d, h1, h2⟩ := h
  have ln := Paired.length h2
  have hs : (ns.map (wtE L')) = (ns.map (wtE L)) := List.map_congr_left fun z hz => sb.w z (g z hz)
  have two : x = "foot" ∨ x = "mirror" ∨ x = "cut" → wtE L' (ns.getD 0 "") = wtE L (ns.getD 0 "") ∧ wtE L' (ns.getD 1 "") = wtE L (ns.getD 1 "") ∧ srtE L' (ns.getD 0 "") = srtE L (ns.getD 0 "") := fun c => by
    have l2 := two_of h1 (c.elim (fun c => .inr (.inr (.inl c))) fun c => c.elim (fun c => .inr (.inr (.inr c))) fun c => .inr (.inl c))
    obtain ⟨a, b, rfl⟩ := pair_of (ln.trans l2)
    exact ⟨sb.w a (g a (by simp)), sb.w b (g b (by simp)), sb.s a (g a (by simp))⟩
  unfold wOf
  rw [hs]
  by_cases c1 : x = "free"
  · rw [if_pos c1, if_pos c1]
  rw [if_neg c1, if_neg c1]
  by_cases c2 : x = "foot" ∨ x = "mirror"
  · obtain ⟨a, b, _⟩ := two (c2.elim .inl fun c => .inr (.inl c))
    rw [if_pos c2, if_pos c2, a, b]
  rw [if_neg c2, if_neg c2]
  by_cases c3 : x = "cut"
  · obtain ⟨a, b, c⟩ := two (.inr (.inr c3))
    rw [if_pos c3, if_pos c3, a, b, c]
  rw [if_neg c3, if_neg c3]
theorem Vp.filter {W : Int} {keep : Thq → Bool} : ∀ {ts : List Thq} {L L' : Env}, Vp W L ts → SubE L' L → (∀ t ∈ ts, keep t = true → ∀ g ∈ t.2.2.1, g ∈ nmsE L' ∨ ∃ u ∈ ts, u.1 = g ∧ keep u = true) → Vp W L' (ts.filter keep)
  | [], _, _, _, _, _ => trivial
  | t :: r, L, L', hv, sb, cl => by
    have nw_ := Vp.new hv
    obtain ⟨⟨n1, n2, n3, n4, n5, n6⟩, h2⟩ := hv
    rw [List.filter_cons]
    by_cases k : keep t = true
    · rw [if_pos k]
      have gl : ∀ g ∈ t.2.2.1, g ∈ nmsE L' := fun g hg => by
        rcases cl t List.mem_cons_self k g hg with h | ⟨u, hu, e, ku⟩
        · exact h
        · exact absurd ((n3.okm.2 g hg).1) (e ▸ nw_ u hu)
      have we := w_sub n3 gl sb
      have nt : t.1 ∉ nmsE L' := fun z => n1 (sb.mem _ z)
      have sb2 : SubE (envStep L' (thOf t)) (envStep L (thOf t)) := by
        have go : ∀ z ∈ nmsE (envStep L' (thOf t)), (z ∈ nmsE L' ∧ z ∈ nmsE L) ∨ z = (thOf t).1 := fun z hz => by
          rw [nms_step] at hz
          rcases List.mem_append.mp hz with hz | hz
          · exact .inl ⟨hz, sb.mem _ hz⟩
          · exact .inr (List.mem_singleton.mp hz)
        refine ⟨fun z hz => ?_, fun z hz => ?_, fun z hz => ?_⟩
        · rw [nms_step]
          rcases go z hz with ⟨_, h⟩ | h
          · exact List.mem_append_left _ h
          · exact List.mem_append_right _ (List.mem_singleton.mpr h)
        · rcases go z hz with ⟨h, h'⟩ | rfl
          · rw [srtP_old h, srtP_old h', sb.s z h]
          · rw [srt_step (t := thOf t) nt, srt_step (t := thOf t) n1]
        · rcases go z hz with ⟨h, h'⟩ | rfl
          · rw [wtP_old h, wtP_old h', sb.w z h]
          · rw [wtP_step (t := thOf t) nt, wtP_step (t := thOf t) n1]
            exact we
      refine ⟨⟨nt, n2, fits_sub n3 gl sb, n4, by rw [we]; exact n5, by rw [we]; exact n6⟩, Vp.filter h2 sb2 fun v hv kv g hg => ?_⟩
      rcases cl v (List.mem_cons_of_mem _ hv) kv g hg with h | ⟨u, hu, e, ku⟩
      · exact .inl (by rw [nms_step]; exact List.mem_append_left _ h)
      · rcases List.mem_cons.mp hu with rfl | hu
        · exact .inl (by rw [nms_step, ← e]; simp; exact .inr rfl)
        · exact .inr ⟨u, hu, e, ku⟩
    · rw [if_neg k]
      refine Vp.filter h2 ⟨fun z hz => by rw [nms_step]; exact List.mem_append_left _ (sb.mem z hz), fun z hz => by rw [srtP_old (sb.mem z hz)]; exact sb.s z hz, fun z hz => by rw [wtP_old (sb.mem z hz)]; exact sb.w z hz⟩ fun v hv kv g hg => ?_
      rcases cl v (List.mem_cons_of_mem _ hv) kv g hg with h | ⟨u, hu, e, ku⟩
      · exact .inl h
      · rcases List.mem_cons.mp hu with rfl | hu
        · exact absurd ku k
        · exact .inr ⟨u, hu, e, ku⟩
theorem close_gr : ∀ {r : List Thq} {F : List Str}, Rv (r.map thOf) → ∀ t ∈ r, t.1 ∈ foldQ F r → ∀ g ∈ t.2.2.1, g ∈ foldQ F r
  | u :: r, F, ⟨⟨h1, h2⟩, h3⟩, t, ht, hc, g, hg => by
    have ef : foldQ F (u :: r) = foldQ (stepF F (thOf u)) r := rfl
    rw [ef] at hc ⊢
    rcases List.mem_cons.mp ht with rfl | ht
    · have e1 : (thOf t).1 ∈ foldQ (stepF F (thOf t)) r ↔ t.1 ∈ F := by
        unfold foldQ
        rw [mem_foldF h2, mem_stepF]
        constructor
        · rintro (h | ⟨_, h⟩)
          · exact h
          · exact absurd h h1
        · exact .inl
      exact mem_foldl_self (mem_stepF.mpr (.inr ⟨e1.mp hc, hg⟩))
    · exact close_gr h3 t ht hc g hg
theorem root_iff {z : Str} {ts : List Thq} {t : Thq} (ht : t ∈ ts) : rootB z (ts.map thOf) (thOf t) = true ↔ t.1 ∈ foldQ [z] ts.reverse := by
  have hc : foldQ [z] ts.reverse = closeF z (ts.map thOf) := by unfold foldQ closeF; rw [List.map_reverse]
  rw [hc]
  have ht' : thOf t ∈ ts.map thOf := List.mem_map_of_mem ht
  unfold rootB
  rw [decide_eq_true_iff, List.mem_append, List.mem_singleton]
  have hz : z ∈ closeF z (ts.map thOf) := mem_foldl_self List.mem_cons_self
  constructor
  · rintro (hb | e)
    · obtain ⟨u, hu, e⟩ := List.mem_map.mp hb
      have := (List.mem_filter.mp hu).2
      unfold keepB at this
      simp only [Bool.and_eq_true, decide_eq_true_eq] at this
      have e' : u.1 = t.1 := e
      rw [← e']
      exact this.1
    · have e' : t.1 = z := e
      rw [e']
      exact hz
  · intro hc
    by_cases e : (thOf t).1 = z
    · exact .inr e
    · refine .inl (List.mem_map.mpr ⟨thOf t, List.mem_filter.mpr ⟨ht', ?_⟩, rfl⟩)
      have hc' : (thOf t).1 ∈ closeF z (ts.map thOf) := hc
      unfold keepB
      simp [hc', e]
theorem Vp.root {W : Int} {z : Str} {ts : List Thq} (hW : W ≤ 40) (h : Vp W [] ts) : Vp W [] (rootQ z ts) := by
  have vr := h.vr hW
  refine h.filter ⟨fun z hz => hz, fun z hz => rfl, fun z hz => rfl⟩ fun t ht k g hg => .inr ?_
  have hm := (root_iff ht).mp k
  have hr : Rv (ts.reverse.map thOf) := by rw [List.map_reverse]; exact Rv_of rfl vr
  have hg2 := close_gr hr t (List.mem_reverse.mpr ht) hm g hg
  have hg3 := Vr.gr vr (thOf t) (List.mem_map_of_mem ht) g hg
  rw [nms_env0, nmsQ] at hg3
  obtain ⟨u, hu, e⟩ := List.mem_map.mp hg3
  exact ⟨u, hu, e, (root_iff hu).mpr (by rw [e]; exact hg2)⟩
theorem takeQ_skip : ∀ {r s : List Thq} {F : List Str}, (∀ u ∈ r, u.1 ∉ F) → takeQ F (r ++ s) = takeQ F s
  | [], _, _, _ => rfl
  | u :: r, s, F, h => by
    rw [List.cons_append]
    unfold takeQ
    rw [if_neg (h u List.mem_cons_self)]
    have := takeQ_skip (r := r) (s := s) (F := F) fun v hv => h v (List.mem_cons_of_mem _ hv)
    rw [this]
    cases s with
    | nil => rfl
    | cons v s => rfl
theorem root_last {W : Int} {z : Str} {ts : List Thq} (hW : W ≤ 40) (h : Vp W [] ts) (hz : z ∈ ts.map (·.1)) : ∃ (a : List Thq) (t : Thq), rootQ z ts = a ++ [t] ∧ t.1 = z ∧ t ∈ ts := by
  have vr := h.vr hW
  obtain ⟨t, ht, e⟩ := List.mem_map.mp hz
  obtain ⟨a0, b, e2⟩ := List.append_of_mem ht
  have nd := h.nd
  rw [← part_rootQ vr]
  have hb : ∀ u ∈ b.reverse, u.1 ∉ [z] := fun u hu c => by
    have hu' := List.mem_reverse.mp hu
    have cz : u.1 = z := List.mem_singleton.mp c
    rw [e2, List.map_append, List.map_cons] at nd
    have n2 := (List.nodup_append.mp nd).2.1
    exact (List.nodup_cons.mp n2).1 (List.mem_map.mpr ⟨u, hu', by rw [cz]; exact e.symm⟩)
  refine ⟨(takeQ (t.2.2.1.foldl addF [z]) a0.reverse).reverse, t, ?_, e, ht⟩
  have er : ts.reverse = b.reverse ++ (t :: a0.reverse) := by rw [e2, List.reverse_append, List.reverse_cons, List.append_assoc]; rfl
  rw [er, takeQ_skip hb]
  have : takeQ [z] (t :: a0.reverse) = t :: takeQ (t.2.2.1.foldl addF [z]) a0.reverse := by
    rw [takeQ, if_pos (by rw [e]; exact List.mem_singleton.mpr rfl)]
  rw [this, List.reverse_cons]
end Mb
namespace Mb
open PySem L2
/-! ### the things' degrees are their weights -/
theorem fig_two {x s : Str} {g : List Str} (hx : x ∈ figW) (h : (x, s, g) ∈ wordsTab) : g.length = 2 := by
  have all : ∀ q ∈ wordsTab, q.1 ∈ figW → q.2.2.length = 2 := by decide +kernel
  exact all _ h hx
theorem fig_sort {x : Str} (hx : x ∈ figW) : sOf x = "point" ∨ sOf x = "line" := by
  have all : ∀ y ∈ figW, sOf y = "point" ∨ sOf y = "line" := by decide +kernel
  exact all x hx
theorem fig_noclaim {x : Str} (hx : x ∈ figW) : sOf x ≠ "claim" ∧ x ≠ "free" ∧ x ≠ "cut" ∧ x ≠ "round" ∧ x ≠ "alike" := by
  have all : ∀ y ∈ figW, sOf y ≠ "claim" ∧ y ≠ "free" ∧ y ≠ "cut" ∧ y ≠ "round" ∧ y ≠ "alike" := by decide +kernel
  exact all x hx
theorem HwT.cut {t : Thq} (h : HwT t) : t.2.1 ≠ "cut" := by
  rcases h with ⟨e, _⟩ | ⟨h, _⟩
  · rw [e]; decide
  · exact (fig_noclaim h).2.2.1
theorem HwT.noclaim {t : Thq} (h : HwT t) : sOf t.2.1 ≠ "claim" := by
  rcases h with ⟨e, _⟩ | ⟨h, _⟩
  · rw [e]; decide +kernel
  · exact (fig_noclaim h).1
theorem gnd_two {t : Thq} {L : Env} (h : FitsE t.2.1 t.2.2.1 L) (hx : t.2.1 ∈ figW) : t.2.2.1 = [gnd t 0, gnd t 1] ∧ gnd t 0 ∈ nmsE L ∧ gnd t 1 ∈ nmsE L := by
  obtain ⟨s, g, h1, h2⟩ := id h
  have l2 := (Paired.length h2).trans (fig_two hx h1)
  obtain ⟨a, b, e⟩ := pair_of l2
  have ok := h.okm.2
  unfold gnd
  rw [e] at ok ⊢
  exact ⟨rfl, (ok a (by simp)).1, (ok b (by simp)).1⟩
theorem flk_old {Z : List Fe} {e : Fe} {z : Str} (h : z ∈ Z.map (·.1)) : fLk (Z ++ [e]) z = fLk Z z := by
  unfold fLk
  rw [List.find?_append]
  obtain ⟨a, ha, hz⟩ := List.mem_map.mp h
  cases c : Z.find? fun e => decide (e.1 = z) with
  | none => exact absurd (decide_eq_true hz) (List.find?_eq_none.mp c a ha)
  | some q => rfl
theorem flk_new {Z : List Fe} {e : Fe} (h : e.1 ∉ Z.map (·.1)) : fLk (Z ++ [e]) e.1 = e.2 := by
  unfold fLk
  rw [List.find?_append]
  have : Z.find? (fun q => decide (q.1 = e.1)) = none := by
    rw [List.find?_eq_none]
    intro q hq hd
    exact h (of_decide_eq_true hd ▸ List.mem_map.mpr ⟨q, hq, rfl⟩)
  rw [this]
  simp
/-- the forms so far and the things so far -/
structure Agr (L : Env) (Z : List Fe) : Prop where
  n : Z.map (·.1) = nmsE L
  d : ∀ z ∈ nmsE L, ((fLk Z z).1 : Int) = wtE L z ∧ 1 ≤ (fLk Z z).1
theorem agr_snoc {L : Env} {Z : List Fe} {t : Thing} {d : Nat} {φ : Nat → Wf} (h : Agr L Z) (n : t.1 ∉ nmsE L) (hd : (d : Int) = wOf t.2.1 t.2.2 L) (h1 : 1 ≤ d) : Agr (envStep L t) (Z ++ [(t.1, d, φ)]) := by
  refine ⟨?_, fun z hz => ?_⟩
  · rw [List.map_append, h.n, nms_step]
    rfl
  · rw [nms_step] at hz
    rcases List.mem_append.mp hz with hz | hz
    · rw [wtP_old hz, flk_old (by rw [h.n]; exact hz)]
      exact h.d z hz
    · obtain rfl := List.mem_singleton.mp hz
      rw [wtP_step n, flk_new (e := (t.1, d, φ)) (by rw [h.n]; exact n)]
      exact ⟨hd, h1⟩
theorem fig_wt {x : Str} {a b : Str} {L : Env} {d e : Nat} (hx : x ∈ figW) (h1 : (d : Int) = wtE L a) (h2 : (e : Int) = wtE L b) : (figD x d e : Int) = wOf x [a, b] L := by
  obtain ⟨n1, n2, n3, n4, n5⟩ := fig_noclaim hx
  unfold wOf figD
  rw [if_neg n2]
  by_cases c : x = "foot" ∨ x = "mirror"
  · rw [if_pos c, if_pos c]
    show _ = wtE L a + 2 * wtE L b
    omega
  · rw [if_neg c, if_neg c, if_neg n3, if_neg (fun z => z.elim n4 n5)]
    simp only [List.map_cons, List.map_nil, List.sum_cons, List.sum_nil]
    omega
theorem fig_pos {x : Str} {d e : Nat} (h : 1 ≤ d) : 1 ≤ figD x d e := by
  unfold figD
  split <;> omega
theorem agr_step {L : Env} {Z : List Fe} {t : Thq} {k : Nat} (h : Agr L Z) (n : t.1 ∉ nmsE L) (f : FitsE t.2.1 t.2.2.1 L) (hw : HwT t) : Agr (envStep L (thOf t)) (fStep k Z t) := by
  unfold fStep
  rcases hw with ⟨e, _⟩ | ⟨hx, _⟩
  · rw [if_pos e]
    exact agr_snoc (t := thOf t) h n (by show _ = wOf t.2.1 t.2.2.1 L; rw [e, wOf_free]; rfl) (Nat.le_refl _)
  · obtain ⟨n1, n2, _⟩ := fig_noclaim hx
    obtain ⟨e2, g0, g1⟩ := gnd_two f hx
    rw [if_neg n2, if_neg n1]
    have d0 := h.d _ g0
    have d1 := h.d _ g1
    exact agr_snoc (t := thOf t) h n (by show _ = wOf t.2.1 t.2.2.1 L; rw [e2]; exact fig_wt hx d0.1 d1.1) (fig_pos d0.2)
theorem agr_go {W : Int} : ∀ {ts : List Thq} {L : Env} {Z : List Fe} {k : Nat}, Vp W L ts → Agr L Z → Agr (envOf L (ts.map thOf)) (fGo k Z ts)
  | [], _, _, _, _, h => h
  | t :: r, L, Z, k, ⟨⟨n1, _, n3, n4, _⟩, h2⟩, h => show Agr (envOf (envStep L (thOf t)) (r.map thOf)) (fGo (nxt k t) (fStep k Z t) r) from agr_go h2 (agr_step h n1 n3 n4)
theorem agr0 : Agr [] [] := ⟨rfl, fun z hz => by cases hz⟩
theorem Vp.agr {W : Int} {ts : List Thq} (h : Vp W [] ts) (i : Nat) : Agr (envOf [] ((ts.take i).map thOf)) (fGo 0 [] (ts.take i)) := by
  rw [← List.take_append_drop i ts] at h
  exact agr_go h.split.1 agr0
theorem Vp.fwok {W : Nat} {ts : List Thq} (h : Vp (W : Int) [] ts) : FwOk W ts := by
  refine ⟨h.nd, fun i t hi => ?_, fun i t hi => ?_, fun i t hi c1 c2 => ?_, fun i t q hi e => ?_⟩
  · rw [(h.agr i).n]
    exact (h.at hi).1
  · obtain ⟨_, h2, ⟨s, g, h3, h4⟩, _⟩ := h.at hi
    exact ⟨h2, s, g, h3, Paired.length h4⟩
  · obtain ⟨_, _, h3, h4, h5, h6⟩ := h.at hi
    have hx : t.2.1 ∈ figW := by
      rcases h4 with ⟨e, _⟩ | ⟨hx, _⟩
      · exact absurd e c1
      · exact hx
    obtain ⟨e2, g0, g1⟩ := gnd_two h3 hx
    have ag := h.agr i
    refine ⟨hx, e2, by rw [ag.n]; exact g0, by rw [ag.n]; exact g1, ?_⟩
    have := fig_wt hx (ag.d _ g0).1 (ag.d _ g1).1
    rw [e2, ← this] at h6
    omega
  · obtain ⟨_, _, h3, h4, _⟩ := h.at hi
    rcases h4 with ⟨_, x, y, e'⟩ | ⟨_, hs⟩
    · rw [e'] at e; cases e
    · have := hs q e
      unfold NrB at this
      refine ⟨Nat.lt_of_lt_of_le (show q.num.natAbs < 1000 by omega) (by decide), Nat.lt_of_lt_of_le (show ((q.den : Int)).natAbs < 1000 by omega) (by decide)⟩
/-! ### what may be asked of such a row -/
/-- the greatest weight that so many free points allow -/
def Wmax (W : Nat) (n : Nat) : Prop := ∀ k, 1 ≤ k → k ≤ n → (W : Int) ≤ wideN k
theorem frN_free {W : Int} {ts : List Thq} (h : Vp W [] ts) (ne : ts ≠ []) : 1 ≤ frN ts := by
  cases ts with
  | nil => exact absurd rfl ne
  | cons u r =>
    obtain ⟨⟨_, _, n3, n4, _⟩, _⟩ := h
    have hf : u.2.1 = "free" := by
      rcases n4 with ⟨e, _⟩ | ⟨hx, _⟩
      · exact e
      · obtain ⟨_, g0, _⟩ := gnd_two n3 hx
        cases g0
    unfold frN
    rw [List.map_cons, List.filter_cons, if_pos (show freeB (thOf u) = true from decide_eq_true hf), List.length_cons]
    omega
theorem frN_root {z : Str} {ts : List Thq} : frN (rootQ z ts) ≤ frN ts := by
  rw [frQ_N, frQ_N]
  unfold frQ rootQ
  exact (List.filter_sublist.filter _).length_le
def cS : Nat → Nat → Nat
  | 0 => fun _ => 1
  | m + 1 => fun d => Nat.rec (cS m 0) (fun k ih => cS m (k + 1) + ih) d
theorem cnt_cS : ∀ (m d : Nat), cnt m d = cS m d
  | 0, d => by unfold cnt; rfl
  | m + 1, 0 => by rw [cnt, cnt_cS m 0]; rfl
  | m + 1, d + 1 => by rw [cnt, cnt_cS m (d + 1), cnt_cS (m + 1) d]; rfl
theorem cnt_wide : ∀ k : Fin 6, 1 ≤ k.val → cnt (2 * (k.val - 2)) ((wideN k.val).toNat) ≤ 3003 := by
  intro k h
  rw [cnt_cS]
  revert k
  decide +kernel
theorem wide_24 : ∀ k : Fin 6, wideN k.val ≤ 24 := by decide +kernel
theorem Vp.askd {W : Nat} {z : Str} {ts : List Thq} {n : Nat} (h : Vp (W : Int) [] ts) (hW : W ≤ 40) (hz : z ∈ ts.map (·.1)) (hn : frN ts ≤ n) (n5 : n ≤ 5) (wm : Wmax W n) :
    Askd z ["point", "line"] ts ∧ FwOk W (rootQ z ts) ∧ manyN (rootQ z ts) ≤ 6 ∧ cnt (manyN (rootQ z ts)) W ≤ 3003 ∧ W ≤ 24 ∧ z ∈ (fGo 0 [] (rootQ z ts)).map (·.1) ∧ 1 ≤ frN (rootQ z ts) ∧ frN (rootQ z ts) ≤ n := by
  have hW' : (W : Int) ≤ 40 := by omega
  have hr := h.root (z := z) hW'
  obtain ⟨a, t, e, ez, ht⟩ := root_last hW' h hz
  have f1 := frN_free hr (by rw [e]; simp)
  have f2 := Nat.le_trans (frN_root (z := z) (ts := ts)) hn
  have hk : (rootQ z ts)[a.length]? = some t := by rw [e, List.getElem?_append_right (Nat.le_refl _), Nat.sub_self]; rfl
  have wk := wm _ f1 f2
  have at_ := hr.at hk
  have w24 := wide_24 ⟨frN (rootQ z ts), by omega⟩
  refine ⟨⟨⟨a, t, e, ?_⟩, hr.vr hW', fun u hu => ?_, fun w hw => ?_⟩, hr.fwok, by unfold manyN; omega, ?_, by
    have : wideN (frN (rootQ z ts)) ≤ 24 := w24
    omega, ?_, f1, f2⟩
  · have hs : sOf t.2.1 = "point" ∨ sOf t.2.1 = "line" := by
      rcases at_.2.2.2.1 with ⟨e, _⟩ | ⟨hx, _⟩
      · rw [e]; exact .inl (by decide +kernel)
      · exact fig_sort hx
    rcases hs with hs | hs <;> rw [hs] <;> simp
  · obtain ⟨i, hi⟩ := List.getElem?_of_mem hu
    exact (hr.at hi).2.2.2.1.cut
  · rw [e, List.map_append, envOf_append] at hw
    have : envOf (envOf [] (a.map thOf)) ([t].map thOf) = envOf [] (a.map thOf) ++ [(t.1, sOf t.2.1, wOf t.2.1 t.2.2.1 (envOf [] (a.map thOf)))] := rfl
    rw [this, List.getLast?_concat] at hw
    have hw' : wOf t.2.1 t.2.2.1 (envOf [] (a.map thOf)) = w := Option.some.inj hw
    have h6 := at_.2.2.2.2.2
    have et : (rootQ z ts).take a.length = a := by rw [e]; exact List.take_left'  rfl
    rw [et, hw'] at h6
    omega
  · unfold manyN
    have c := cnt_wide ⟨frN (rootQ z ts), by omega⟩ f1
    refine Nat.le_trans (cnt_mono ?_) c
    show W ≤ (wideN (frN (rootQ z ts))).toNat
    omega
  · have ag := agr_go (k := 0) hr agr0
    rw [ag.n, nms_env0, nmsQ, e]
    simp [ez]
end Mb
namespace Mb
open PySem L2
/-! ### a thing's three whole numbers, made of its grounds' -/
abbrev Tri : Type := Int × Int × Int
def TriAt (K : PySem.W.Frag) (H : Hp) (v : V) : Option Tri → Prop
  | none => v = .non
  | some q => ∃ a, v = .ref a ∧ SqT K H a [.int q.1, .int q.2.1, .int q.2.2]
theorem TriAt.kp {K : PySem.W.Frag} {H H' : Hp} {v : V} {o : Option Tri} (h : TriAt K H v o) (k : Kp K H H') : TriAt K H' v o := by
  cases o with
  | none => exact h
  | some q => obtain ⟨a, e, t⟩ := h; exact ⟨a, e, k _ _ t⟩
def Sm3 (n : Nat) (q : Tri) : Prop := Sm n q.1 ∧ Sm n q.2.1 ∧ Sm n q.2.2
def SmO (n : Nat) (o : Option Tri) : Prop := ∀ q, o = some q → Sm3 n q
def madeI (x : Str) (t b X Y Wt U V_ Z : Int) : Tri :=
  if x = "line" then (Y * Z - V_ * Wt, U * Wt - X * Z, U * Y - X * V_)
  else if x = "meet" then (Wt * V_ - Y * Z, X * Z - U * Wt, X * V_ - Y * U)
  else if x = "along" then (U * Wt, V_ * Wt, U * X + V_ * Y)
  else if x = "upright" then (V_ * Wt, -U * Wt, V_ * X - U * Y)
  else if x = "turn" then ((U + V_) * Wt - Y * Z, (V_ - U) * Wt + X * Z, Wt * Z)
  else if x = "foot" then ((V_ * X - U * Y) * V_ + U * Z * Wt, V_ * Z * Wt - (V_ * X - U * Y) * U, (U * U + V_ * V_) * Wt)
  else if x = "mirror" then (2 * ((V_ * X - U * Y) * V_ + U * Z * Wt) - (U * U + V_ * V_) * X, 2 * (V_ * Z * Wt - (V_ * X - U * Y) * U) - (U * U + V_ * V_) * Y, (U * U + V_ * V_) * Wt)
  else if x = "middle" then (X * Z * (2 - 1) + U * Wt * 1, Y * Z * (2 - 1) + V_ * Wt * 1, Wt * Z * 2)
  else if x = "share" then (X * Z * (b - t) + U * Wt * t, Y * Z * (b - t) + V_ * Wt * t, Wt * Z * b)
  else (X * Z * (1 - 2) + U * Wt * 2, Y * Z * (1 - 2) + V_ * Wt * 2, Wt * Z * 1)
def goneI (x : Str) (q : Tri) : Bool := (decide (x = "line") && (decide (q.1 = 0) && decide (q.2.1 = 0))) || (decide (x = "meet") && decide (q.2.2 = 0))
def madeO (x : Str) (t b : Int) : Option Tri → Option Tri → Option Tri
  | some p, some q => if goneI x (madeI x t b p.1 p.2.1 p.2.2 q.1 q.2.1 q.2.2) = true then none else some (madeI x t b p.1 p.2.1 p.2.2 q.1 q.2.1 q.2.2)
  | _, _ => none
theorem made_cast {x : Str} {t b X Y Wt U V_ Z : Int} : ((madeI x t b X Y Wt U V_ Z).1 : Rat) = (madeR x t b X Y Wt U V_ Z).1 ∧ ((madeI x t b X Y Wt U V_ Z).2.1 : Rat) = (madeR x t b X Y Wt U V_ Z).2.1 ∧ ((madeI x t b X Y Wt U V_ Z).2.2 : Rat) = (madeR x t b X Y Wt U V_ Z).2.2 := by
  unfold madeI madeR
  have z1 : ((1 : Int) : Rat) = 1 := rfl
  have z2 : ((2 : Int) : Rat) = 2 := rfl
  by_cases h : x = "line"
  · simp only [if_pos h, Rat.intCast_mul, Rat.intCast_sub, Rat.intCast_add, and_self]
  simp only [if_neg h]; clear h
  by_cases h : x = "meet"
  · simp only [if_pos h, Rat.intCast_mul, Rat.intCast_sub, Rat.intCast_add, and_self]
  simp only [if_neg h]; clear h
  by_cases h : x = "along"
  · simp only [if_pos h, Rat.intCast_mul, Rat.intCast_sub, Rat.intCast_add, and_self]
  simp only [if_neg h]; clear h
  by_cases h : x = "upright"
  · simp only [if_pos h, Rat.intCast_mul, Rat.intCast_sub, Rat.intCast_add, Rat.intCast_neg, and_self]
  simp only [if_neg h]; clear h
  by_cases h : x = "turn"
  · simp only [if_pos h, Rat.intCast_mul, Rat.intCast_sub, Rat.intCast_add, and_self]
  simp only [if_neg h]; clear h
  by_cases h : x = "foot"
  · simp only [if_pos h, Rat.intCast_mul, Rat.intCast_sub, Rat.intCast_add, and_self]
  simp only [if_neg h]; clear h
  by_cases h : x = "mirror"
  · simp only [if_pos h, Rat.intCast_mul, Rat.intCast_sub, Rat.intCast_add, z2, and_self]
  simp only [if_neg h]; clear h
  by_cases h : x = "middle"
  · simp only [if_pos h, Rat.intCast_mul, Rat.intCast_sub, Rat.intCast_add, z1, z2, and_self]
  simp only [if_neg h]; clear h
  by_cases h : x = "share"
  · simp only [if_pos h, Rat.intCast_mul, Rat.intCast_sub, Rat.intCast_add, and_self]
  simp only [if_neg h]; clear h
  simp only [Rat.intCast_mul, Rat.intCast_sub, Rat.intCast_add, z1, z2, and_self]
theorem sm_up {n m : Nat} {i : Int} (h : Sm n i) (l : n ≤ m) : Sm m i := h.mono l
theorem made_sm {x : Str} {t b : Int} {p q : Tri} {m n : Nat} (hp : Sm3 m p) (hq : Sm3 n q) (st : Sm 20 t) (sb : Sm 20 b) : Sm3 (if x = "foot" ∨ x = "mirror" then m + n + n + 30 else m + n + 30) (madeI x t b p.1 p.2.1 p.2.2 q.1 q.2.1 q.2.2) := by
  obtain ⟨X, Y, Wt⟩ := p
  obtain ⟨U, V_, Z⟩ := q
  obtain ⟨h1, h2, h3⟩ := hp
  obtain ⟨k1, k2, k3⟩ := hq
  replace h1 : Sm m X := h1
  replace h2 : Sm m Y := h2
  replace h3 : Sm m Wt := h3
  replace k1 : Sm n U := k1
  replace k2 : Sm n V_ := k2
  replace k3 : Sm n Z := k3
  have c : ∀ {a b : Int} {u v w : Nat}, Sm u a → Sm v b → u + v ≤ w → Sm w (a * b) := fun ha hb l => (ha.mul hb).mono l
  have s : ∀ {a b : Int} {u w : Nat}, Sm u a → Sm u b → u + 1 ≤ w → Sm w (a - b) := fun ha hb l => (ha.sub hb).mono l
  have a_ : ∀ {a b : Int} {u w : Nat}, Sm u a → Sm u b → u + 1 ≤ w → Sm w (a + b) := fun ha hb l => (ha.add hb).mono l
  have two : Sm 2 (2 : Int) := by decide
  have one : Sm 1 (1 : Int) := by decide
  unfold madeI Sm3
  by_cases f : x = "foot" ∨ x = "mirror"
  · rw [if_pos f]
    have as : Sm (m + n + 1) (V_ * X - U * Y) := s (u := m + n) (c k2 h1 (by omega)) (c k1 h2 (by omega)) (by omega)
    have sz_ : Sm (n + n + 1) (U * U + V_ * V_) := a_ (u := n + n) (c k1 k1 (by omega)) (c k2 k2 (by omega)) (by omega)
    have lf : Sm (m + n + n + 2) ((V_ * X - U * Y) * V_ + U * Z * Wt) := a_ (u := m + n + n + 1) (c as k2 (by omega)) (c (u := n + n) (c k1 k3 (by omega)) h3 (by omega)) (by omega)
    have up : Sm (m + n + n + 2) (V_ * Z * Wt - (V_ * X - U * Y) * U) := s (u := m + n + n + 1) (c (u := n + n) (c k2 k3 (by omega)) h3 (by omega)) (c as k1 (by omega)) (by omega)
    rcases f with rfl | rfl
    · exact ⟨lf.mono (by omega), up.mono (by omega), c sz_ h3 (by omega)⟩
    · exact ⟨s (u := m + n + n + 4) (c two lf (by omega)) (c sz_ h1 (by omega)) (by omega), s (u := m + n + n + 4) (c two up (by omega)) (c sz_ h2 (by omega)) (by omega), c sz_ h3 (by omega)⟩
  rw [if_neg f]
  by_cases h : x = "line"
  · rw [if_pos h]
    exact ⟨s (u := m + n) (c h2 k3 (by omega)) (c k2 h3 (by omega)) (by omega), s (u := m + n) (c k1 h3 (by omega)) (c h1 k3 (by omega)) (by omega), s (u := m + n) (c k1 h2 (by omega)) (c h1 k2 (by omega)) (by omega)⟩
  rw [if_neg h]; clear h
  by_cases h : x = "meet"
  · rw [if_pos h]
    exact ⟨s (u := m + n) (c h3 k2 (by omega)) (c h2 k3 (by omega)) (by omega), s (u := m + n) (c h1 k3 (by omega)) (c k1 h3 (by omega)) (by omega), s (u := m + n) (c h1 k2 (by omega)) (c h2 k1 (by omega)) (by omega)⟩
  rw [if_neg h]; clear h
  by_cases h : x = "along"
  · rw [if_pos h]
    exact ⟨c k1 h3 (by omega), c k2 h3 (by omega), a_ (u := m + n) (c k1 h1 (by omega)) (c k2 h2 (by omega)) (by omega)⟩
  rw [if_neg h]; clear h
  by_cases h : x = "upright"
  · rw [if_pos h]
    exact ⟨c k2 h3 (by omega), c k1.neg h3 (by omega), s (u := m + n) (c k2 h1 (by omega)) (c k1 h2 (by omega)) (by omega)⟩
  rw [if_neg h]; clear h
  by_cases h : x = "turn"
  · rw [if_pos h]
    exact ⟨s (u := m + n + 1) (c (k1.add k2) h3 (by omega)) (c h2 k3 (by omega)) (by omega), a_ (u := m + n + 1) (c (k2.sub k1) h3 (by omega)) (c h1 k3 (by omega)) (by omega), c h3 k3 (by omega)⟩
  rw [if_neg h]; clear h
  rw [if_neg (fun z => f (.inl z)), if_neg (fun z => f (.inr z))]
  by_cases h : x = "middle"
  · rw [if_pos h]
    have o : Sm 1 ((2 : Int) - 1) := by decide
    exact ⟨a_ (u := m + n + 1) (c (c h1 k3 (Nat.le_refl _)) o (by omega)) (c (c k1 h3 (Nat.le_refl _)) one (by omega)) (by omega), a_ (u := m + n + 1) (c (c h2 k3 (Nat.le_refl _)) o (by omega)) (c (c k2 h3 (Nat.le_refl _)) one (by omega)) (by omega), c (c h3 k3 (Nat.le_refl _)) two (by omega)⟩
  rw [if_neg h]; clear h
  by_cases h : x = "share"
  · rw [if_pos h]
    have o : Sm 21 (b - t) := sb.sub st
    exact ⟨a_ (u := m + n + 21) (c (c h1 k3 (Nat.le_refl _)) o (by omega)) (c (c k1 h3 (Nat.le_refl _)) st (by omega)) (by omega), a_ (u := m + n + 21) (c (c h2 k3 (Nat.le_refl _)) o (by omega)) (c (c k2 h3 (Nat.le_refl _)) st (by omega)) (by omega), c (c h3 k3 (Nat.le_refl _)) sb (by omega)⟩
  rw [if_neg h]
  have o : Sm 1 ((1 : Int) - 2) := by decide
  exact ⟨a_ (u := m + n + 2) (c (c h1 k3 (Nat.le_refl _)) o (by omega)) (c (c k1 h3 (Nat.le_refl _)) two (by omega)) (by omega), a_ (u := m + n + 2) (c (c h2 k3 (Nat.le_refl _)) o (by omega)) (c (c k2 h3 (Nat.le_refl _)) two (by omega)) (by omega), c (c h3 k3 (Nat.le_refl _)) one (by omega)⟩
end Mb
namespace Mb
open PySem L2
/-! ### what a thing stands at, and what its forms are worth there -/
abbrev Ge : Type := Str × Option Tri
def gLk (G : List Ge) (z : Str) : Option Tri := ((G.find? fun e => decide (e.1 = z)).map (·.2)).getD none
def triOf (p : Rat × Rat) : Tri := (p.1.num * (p.2.den : Int), p.2.num * (p.1.den : Int), (p.1.den : Int) * (p.2.den : Int))
def gStep (sp : Str → Rat × Rat) (G : List Ge) (t : Thq) : List Ge :=
  if t.2.1 = "free" then G ++ [(t.1, some (triOf (sp t.1)))] else if sOf t.2.1 = "claim" then G
  else G ++ [(t.1, madeO t.2.1 (shI t.2.2.2) (shJ t.2.2.2) (gLk G (gnd t 0)) (gLk G (gnd t 1)))]
def gGo (sp : Str → Rat × Rat) : List Ge → List Thq → List Ge
  | G, [] => G
  | G, t :: r => gGo sp (gStep sp G t) r
theorem gGo_snoc {sp : Str → Rat × Rat} : ∀ (a : List Thq) (G : List Ge) (t : Thq), gGo sp G (a ++ [t]) = gStep sp (gGo sp G a) t
  | [], _, _ => rfl
  | u :: r, G, t => gGo_snoc r (gStep sp G u) t
theorem glk_old {Z : List Ge} {e : Ge} {z : Str} (h : z ∈ Z.map (·.1)) : gLk (Z ++ [e]) z = gLk Z z := by
  unfold gLk
  rw [List.find?_append]
  obtain ⟨a, ha, hz⟩ := List.mem_map.mp h
  cases c : Z.find? fun e => decide (e.1 = z) with
  | none => exact absurd (decide_eq_true hz) (List.find?_eq_none.mp c a ha)
  | some q => rfl
theorem glk_new {Z : List Ge} {e : Ge} (h : e.1 ∉ Z.map (·.1)) : gLk (Z ++ [e]) e.1 = e.2 := by
  unfold gLk
  rw [List.find?_append]
  have : Z.find? (fun q => decide (q.1 = e.1)) = none := by
    rw [List.find?_eq_none]
    intro q hq hd
    exact h (of_decide_eq_true hd ▸ List.mem_map.mpr ⟨q, hq, rfl⟩)
  rw [this]
  simp
structure RelV (rs : List Rat) (s : Str) (f : Nat × (Nat → Wf)) (o : Option Tri) : Prop where
  d1 : 1 ≤ f.1
  ok : ∀ q, o = some q → Sm3 (300 * f.1 - 30) q ∧ (∃ k : Rat, k ≠ 0 ∧ f.2 0 rs = k * (q.1 : Rat) ∧ f.2 1 rs = k * (q.2.1 : Rat) ∧ f.2 2 rs = k * (q.2.2 : Rat)) ∧ (s = "point" → q.2.2 ≠ 0) ∧ (s = "line" → q.1 ≠ 0 ∨ q.2.1 ≠ 0)
theorem rat_den (x : Rat) : x * ((x.den : Int) : Rat) = (x.num : Rat) ∧ ((x.den : Int) : Rat) ≠ 0 := by
  have hd : ((x.den : Int) : Rat) ≠ 0 := fun z => den_ne x (by simpa using z)
  have e : x = (x.num : Rat) / ((x.den : Int) : Rat) := by rw [← Rat.divInt_eq_div, Rat.num_divInt_den]
  refine ⟨?_, hd⟩
  generalize (x.num : Rat) = a at *
  generalize ((x.den : Int) : Rat) = b at *
  rw [e]
  exact Rat.div_mul_cancel hd
theorem rel_free {rs : List Rat} {k : Nat} {p : Rat × Rat} (hx : freeX k rs = p.1) (hy : freeY k rs = p.2) (s1 : Sz 127 p.1) (s2 : Sz 127 p.2) : RelV rs "point" (1, freeF k) (some (triOf p)) := by
  refine ⟨Nat.le_refl _, fun q e => ?_⟩
  obtain rfl := Option.some.inj e
  obtain ⟨x, y⟩ := p
  obtain ⟨ex, dx⟩ := rat_den x
  obtain ⟨ey, dy⟩ := rat_den y
  refine ⟨⟨(s1.t.mul s2.b).mono (show 254 ≤ 270 by decide), (s2.t.mul s1.b).mono (show 254 ≤ 270 by decide), (s1.b.mul s2.b).mono (show 254 ≤ 270 by decide)⟩, ?_, fun _ => Int.mul_ne_zero (den_ne x) (den_ne y), fun h => absurd h (by decide)⟩
  have d2 : ((x.den : Int) : Rat) * ((y.den : Int) : Rat) ≠ 0 := by intro z; rcases Rat.mul_eq_zero.mp z with z | z <;> contradiction
  refine ⟨(((x.den : Int) : Rat) * ((y.den : Int) : Rat))⁻¹, fun z => ?_, ?_, ?_, ?_⟩
  · have := Rat.mul_inv_cancel _ d2
    rw [z, Rat.mul_zero] at this
    exact absurd this (by decide)
  · show freeX k rs = _ * ((x.num * (y.den : Int) : Int) : Rat)
    rw [hx, Rat.intCast_mul, ← ex]
    show x = _
    generalize ((x.den : Int) : Rat) = a at *
    generalize ((y.den : Int) : Rat) = b at *
    grind
  · show freeY k rs = _ * ((y.num * (x.den : Int) : Int) : Rat)
    rw [hy, Rat.intCast_mul, ← ey]
    show y = _
    generalize ((x.den : Int) : Rat) = a at *
    generalize ((y.den : Int) : Rat) = b at *
    grind
  · show (1 : Rat) = _ * (((x.den : Int) * (y.den : Int) : Int) : Rat)
    rw [Rat.intCast_mul, Rat.inv_mul_cancel _ d2]
theorem int_sumsq {a b : Int} (h : a ≠ 0 ∨ b ≠ 0) : a * a + b * b ≠ 0 := by
  have p : ∀ c : Int, 0 ≤ c * c ∧ (c ≠ 0 → 0 < c * c) := fun c => by
    rw [← Int.natAbs_mul_self]
    refine ⟨Int.natCast_nonneg _, fun hc => ?_⟩
    have : 0 < c.natAbs := Int.natAbs_pos.mpr hc
    exact Int.natCast_pos.mpr (Nat.mul_pos this this)
  have pa := p a
  have pb := p b
  rcases h with h | h
  · have := pa.2 h; omega
  · have := pb.2 h; omega
def NzS (line : Bool) (q : Tri) : Prop := if line = true then q.1 ≠ 0 ∨ q.2.1 ≠ 0 else q.2.2 ≠ 0
theorem made_nz {x : Str} {t b : Int} {p q : Tri} (hx : x ∈ figW) (ng : ¬ goneI x (madeI x t b p.1 p.2.1 p.2.2 q.1 q.2.1 q.2.2) = true) (n1 : NzS (decide (x = "meet")) p) (n2 : NzS (decide (x = "meet" ∨ x ∈ lineW)) q) (hb : x = "share" → b ≠ 0) :
    (sOf x = "point" → (madeI x t b p.1 p.2.1 p.2.2 q.1 q.2.1 q.2.2).2.2 ≠ 0) ∧ (sOf x = "line" → (madeI x t b p.1 p.2.1 p.2.2 q.1 q.2.1 q.2.2).1 ≠ 0 ∨ (madeI x t b p.1 p.2.1 p.2.2 q.1 q.2.1 q.2.2).2.1 ≠ 0) := by
  obtain ⟨X, Y, Wt⟩ := p
  obtain ⟨U, V_, Z⟩ := q
  have mz := @Int.mul_ne_zero
  unfold figW at hx
  simp only [List.mem_cons, List.not_mem_nil, or_false] at hx
  rcases hx with rfl | rfl | rfl | rfl | rfl | rfl | rfl | rfl | rfl | rfl
  · have w : Wt ≠ 0 := n1
    have z : Z ≠ 0 := n2
    exact ⟨fun _ => mz (mz w z) (by decide), fun h => absurd h (by decide +kernel)⟩
  · have w : Wt ≠ 0 := n1
    have z : Z ≠ 0 := n2
    exact ⟨fun _ => mz (mz w z) (by decide), fun h => absurd h (by decide +kernel)⟩
  · have w : Wt ≠ 0 := n1
    have z : Z ≠ 0 := n2
    exact ⟨fun _ => mz (mz w z) (hb rfl), fun h => absurd h (by decide +kernel)⟩
  · have w : Wt ≠ 0 := n1
    have z : Z ≠ 0 := n2
    exact ⟨fun _ => mz w z, fun h => absurd h (by decide +kernel)⟩
  · have w : Wt ≠ 0 := n1
    have z : U ≠ 0 ∨ V_ ≠ 0 := n2
    exact ⟨fun _ => mz (int_sumsq z) w, fun h => absurd h (by decide +kernel)⟩
  · have w : Wt ≠ 0 := n1
    have z : U ≠ 0 ∨ V_ ≠ 0 := n2
    exact ⟨fun _ => mz (int_sumsq z) w, fun h => absurd h (by decide +kernel)⟩
  · refine ⟨fun _ e => ng ?_, fun h => absurd h (by decide +kernel)⟩
    unfold goneI
    rw [decide_eq_true e]
    simp
  · refine ⟨fun h => absurd h (by decide +kernel), fun _ => ?_⟩
    by_cases e1 : (madeI "line" t b X Y Wt U V_ Z).1 = 0
    · by_cases e2 : (madeI "line" t b X Y Wt U V_ Z).2.1 = 0
      · exfalso
        apply ng
        unfold goneI
        rw [decide_eq_true e1, decide_eq_true e2]
        simp
      · exact .inr e2
    · exact .inl e1
  · have w : Wt ≠ 0 := n1
    have z : U ≠ 0 ∨ V_ ≠ 0 := n2
    exact ⟨fun h => absurd h (by decide +kernel), fun _ => z.elim (fun u => .inl (mz u w)) fun v => .inr (mz v w)⟩
  · have w : Wt ≠ 0 := n1
    have z : U ≠ 0 ∨ V_ ≠ 0 := n2
    exact ⟨fun h => absurd h (by decide +kernel), fun _ => z.elim (fun u => .inr (mz (fun e => u (by omega)) w)) fun v => .inl (mz v w)⟩
def wantOf (x : Str) : List Str := ((wordsTab.find? fun q => decide (q.1 = x)).map (·.2.2)).getD []
theorem wantOf_eq {x s : Str} {g : List Str} (h : (x, s, g) ∈ wordsTab) : wantOf x = g := by
  have all : ∀ q ∈ wordsTab, wantOf q.1 = q.2.2 := by decide +kernel
  exact all _ h
theorem fig_due {x : Str} (hx : x ∈ figW) : wantOf x = [if x = "meet" then ("line" : Str) else "point", if x = "meet" ∨ x ∈ lineW then ("line" : Str) else "point"] := by
  have all : ∀ y ∈ figW, wantOf y = [if y = "meet" then ("line" : Str) else "point", if y = "meet" ∨ y ∈ lineW then ("line" : Str) else "point"] := by decide +kernel
  exact all x hx
theorem fit_srt {s d : Str} (hd : d = "point" ∨ d = "line") (h : fitB s d = true) : s = d := by
  unfold fitB at h
  rw [if_neg (by rcases hd with rfl | rfl <;> decide)] at h
  exact of_decide_eq_true h
theorem gnd_srt {t : Thq} {L : Env} (h : FitsE t.2.1 t.2.2.1 L) (hx : t.2.1 ∈ figW) : srtE L (gnd t 0) = (if t.2.1 = "meet" then ("line" : Str) else "point") ∧ srtE L (gnd t 1) = (if t.2.1 = "meet" ∨ t.2.1 ∈ lineW then ("line" : Str) else "point") := by
  obtain ⟨e2, _⟩ := gnd_two h hx
  obtain ⟨s, g, h1, h2⟩ := id h
  rw [e2, ← wantOf_eq h1, fig_due hx] at h2
  cases h2 with
  | cons a r =>
    cases r with
    | cons b _ => exact ⟨fit_srt (by split; exact .inr rfl; exact .inl rfl) a.2, fit_srt (by split; exact .inr rfl; exact .inl rfl) b.2⟩
theorem rel_nz {rs : List Rat} {s : Str} {f : Nat × (Nat → Wf)} {q : Tri} {c : Prop} [Decidable c] (h : RelV rs s f (some q)) (e : s = if c then ("line" : Str) else "point") : NzS (decide c) q := by
  obtain ⟨_, _, a, b⟩ := h.ok q rfl
  unfold NzS
  by_cases hc : c
  · rw [if_pos (decide_eq_true hc)]
    exact b (by rw [e, if_pos hc])
  · rw [if_neg (by simpa using hc)]
    exact a (by rw [e, if_neg hc])
theorem rel_made {rs : List Rat} {x s1 s2 : Str} {t b : Int} {f g : Nat × (Nat → Wf)} {o1 o2 : Option Tri} (hx : x ∈ figW) (h1 : RelV rs s1 f o1) (h2 : RelV rs s2 g o2) (e1 : s1 = if x = "meet" then ("line" : Str) else "point") (e2 : s2 = if x = "meet" ∨ x ∈ lineW then ("line" : Str) else "point")
    (hb : x = "share" → b ≠ 0) (st : Sm 20 t) (sb : Sm 20 b) : RelV rs (sOf x) (figD x f.1 g.1, figF x (t : Rat) (b : Rat) f.2 g.2) (madeO x t b o1 o2) := by
  have d1 := h1.d1
  have d2 := h2.d1
  refine ⟨fig_pos h1.d1, fun q e => ?_⟩
  cases o1 with
  | none => cases e
  | some p1 =>
    cases o2 with
    | none => cases e
    | some p2 =>
      replace e : (if goneI x (madeI x t b p1.1 p1.2.1 p1.2.2 p2.1 p2.2.1 p2.2.2) = true then none else some (madeI x t b p1.1 p1.2.1 p1.2.2 p2.1 p2.2.1 p2.2.2)) = some q := e
      by_cases c : goneI x (madeI x t b p1.1 p1.2.1 p1.2.2 p2.1 p2.2.1 p2.2.2) = true
      · rw [if_pos c] at e; cases e
      rw [if_neg c] at e
      obtain rfl := Option.some.inj e
      obtain ⟨m1, ⟨k1, z1, a1, b1, c1⟩, _⟩ := h1.ok p1 rfl
      obtain ⟨m2, ⟨k2, z2, a2, b2, c2⟩, _⟩ := h2.ok p2 rfl
      have sm := made_sm (x := x) m1 m2 st sb
      refine ⟨?_, ?_, made_nz hx c (rel_nz h1 e1) (rel_nz h2 e2) hb⟩
      · have up : (if x = "foot" ∨ x = "mirror" then 300 * f.1 - 30 + (300 * g.1 - 30) + (300 * g.1 - 30) + 30 else 300 * f.1 - 30 + (300 * g.1 - 30) + 30) ≤ 300 * figD x f.1 g.1 - 30 := by
          unfold figD
          split <;> omega
        exact ⟨sm.1.mono up, sm.2.1.mono up, sm.2.2.mono up⟩
      · obtain ⟨k, hk, q0, q1, q2⟩ := fig_made (t := (t : Rat)) (b := (b : Rat)) hx z1 z2 a1 b1 c1 a2 b2 c2
        obtain ⟨y0, y1, y2⟩ := made_cast (x := x) (t := t) (b := b) (X := p1.1) (Y := p1.2.1) (Wt := p1.2.2) (U := p2.1) (V_ := p2.2.1) (Z := p2.2.2)
        exact ⟨k, hk, by rw [y0]; exact q0, by rw [y1]; exact q1, by rw [y2]; exact q2⟩
structure Val (rs : List Rat) (L : Env) (Z : List Fe) (G : List Ge) : Prop where
  n : Z.map (·.1) = nmsE L
  m : G.map (·.1) = nmsE L
  r : ∀ z ∈ nmsE L, RelV rs (srtE L z) (fLk Z z) (gLk G z)
theorem val_snoc {rs : List Rat} {L : Env} {Z : List Fe} {G : List Ge} {t : Thing} {f : Nat × (Nat → Wf)} {o : Option Tri} (h : Val rs L Z G) (n : t.1 ∉ nmsE L) (hr : RelV rs (sOf t.2.1) f o) : Val rs (envStep L t) (Z ++ [(t.1, f)]) (G ++ [(t.1, o)]) := by
  refine ⟨?_, ?_, fun z hz => ?_⟩
  · rw [List.map_append, h.n, nms_step]; rfl
  · rw [List.map_append, h.m, nms_step]; rfl
  · rw [nms_step] at hz
    rcases List.mem_append.mp hz with hz | hz
    · rw [srtP_old hz, flk_old (by rw [h.n]; exact hz), glk_old (by rw [h.m]; exact hz)]
      exact h.r z hz
    · obtain rfl := List.mem_singleton.mp hz
      rw [srt_step n, flk_new (e := (t.1, f)) (by rw [h.n]; exact n), glk_new (e := (t.1, o)) (by rw [h.m]; exact n)]
      exact hr
/-- the spots of the free points from the k-th on -/
def Spt (sp : Str → Rat × Rat) (rs : List Rat) : Nat → List Thq → Prop
  | _, [] => True
  | k, t :: r => (t.2.1 = "free" → freeX k rs = (sp t.1).1 ∧ freeY k rs = (sp t.1).2 ∧ Sz 127 (sp t.1).1 ∧ Sz 127 (sp t.1).2) ∧ Spt sp rs (nxt k t) r
theorem val_go {W : Int} {rs : List Rat} {sp : Str → Rat × Rat} : ∀ {ts : List Thq} {L : Env} {Z : List Fe} {G : List Ge} {k : Nat}, Vp W L ts → (∀ t ∈ ts, t.2.1 = "share" → ∃ q, t.2.2.2 = .sh q) → Spt sp rs k ts → Val rs L Z G → Val rs (envOf L (ts.map thOf)) (fGo k Z ts) (gGo sp G ts)
  | [], _, _, _, _, _, _, _, h => h
  | t :: r, L, Z, G, k, ⟨⟨n1, _, n3, n4, _⟩, h2⟩, hs, ⟨s1, s2⟩, h => by
    show Val rs (envOf (envStep L (thOf t)) (r.map thOf)) (fGo (nxt k t) (fStep k Z t) r) (gGo sp (gStep sp G t) r)
    refine val_go h2 (fun t ht => hs t (List.mem_cons_of_mem _ ht)) s2 ?_
    unfold fStep gStep
    rcases n4 with ⟨e, _⟩ | ⟨hx, hq⟩
    · rw [if_pos e, if_pos e]
      obtain ⟨a, b, c, d⟩ := s1 e
      refine val_snoc (t := thOf t) h n1 ?_
      show RelV rs (sOf t.2.1) _ _
      rw [e]
      exact rel_free a b c d
    · obtain ⟨c1, c2, _⟩ := fig_noclaim hx
      obtain ⟨e2, g0, g1⟩ := gnd_two n3 hx
      obtain ⟨s0, s1'⟩ := gnd_srt n3 hx
      rw [if_neg c2, if_neg c1, if_neg c2, if_neg c1]
      have sm : Sm 20 (shI t.2.2.2) ∧ Sm 20 (shJ t.2.2.2) := by
        cases c : t.2.2.2 with
        | sh q =>
          have := hq q c
          unfold NrB at this
          exact ⟨Nat.lt_of_lt_of_le (show q.num.natAbs < 1000 by omega) (by decide), Nat.lt_of_lt_of_le (show ((q.den : Int)).natAbs < 1000 by omega) (by decide)⟩
        | _ => exact ⟨show Sm 20 0 by decide, show Sm 20 0 by decide⟩
      refine val_snoc (t := thOf t) h n1 (rel_made hx (h.r _ g0) (h.r _ g1) s0 s1' (fun e => ?_) sm.1 sm.2)
      obtain ⟨q, eq⟩ := hs t List.mem_cons_self e
      rw [eq]
      exact den_ne q
theorem val0 {rs : List Rat} : Val rs [] [] [] := ⟨rfl, rfl, fun z hz => by cases hz⟩
end Mb
namespace Mb
open PySem L2
def rIsNo : R2 := fun x y H Q => y = .non ∧ Q (.bl (decide (x = .non))) H
theorem op_isNo {X : Cx} : OpR X (compareOp .Is) rIsNo := op_isN
theorem r_isNN {H : Hp} {Q : VK} (k : Q (.bl true) H) : rIsNo .non .non H Q := ⟨rfl, k⟩
theorem r_isNR {H : Hp} {Q : VK} {a : Addr} (k : Q (.bl false) H) : rIsNo (.ref a) .non H Q := ⟨rfl, k⟩
end Mb
namespace Mb
open PySem L2
def lcV (K : PySem.W.Frag) (g : TG) (tt : TT) (te : TE) (vs : List Nat) (σ : St) (Q : VK) (x : V) (H1 : Hp) : Prop := ∃ a, x = .ref a ∧ (∃ xs, SqT K H1 a xs) ∧ ∀ D, H1 D = none → ∃ W : Nat → Nat → Hp → Prop, (∃ m, W 0 m (upd H1 D (.lst []))) ∧ ∀ i m H, W i m H →
  ((Itt K a).stop i H ∧ Q (.ref D) H) ∨ ((Itt K a).go i H ∧ ∃ Nx : Hp → Prop, (∀ H', Nx H' → ∃ m', m' < m ∧ W (i + 1) m' H') ∧ ∀ x H', (Itt K a).yld i H x H' → g x (wipe σ vs) H' fun σ2 H2 => wipe σ2 vs = wipe σ vs ∧ tt σ2 H2 fun b H3 =>
    if b = true then te σ2 H3 fun y H4 => ∃ acc, H4 D = some (.lst acc) ∧ acc.length < sizeLine ∧ Nx (upd H4 D (.lst (acc ++ [y]))) else Nx H3)
theorem r_lcV {K : PySem.W.Frag} {tl : TE} {g : TG} {tt : TT} {te : TE} {vs : List Nat} {σ : St} {H : Hp} {Q : VK} (q : tl σ H (lcV K g tt te vs σ Q)) : tLc (iTup K tl) g tt te vs σ H Q := q
theorem lc_mkV {α : Type} {K : PySem.W.Frag} {j : Nat} {te : TE} {σ : St} {Q : VK} {l : Addr} {ws : List V} {xs : List α} {H : Hp} (P : Hp → V → α → Prop) (R : Addr → Hp → V → α → Prop) (mono : ∀ {H H' : Hp} {v : V} {x : α}, Same H H' → P H v x → P H' v x) (monoR : ∀ {D : Addr} {H H' : Hp} {v : V} {x : α} {ys : List V}, H D = some (.lst ys) → But D H H' → R D H v x → R D H' v x) (hl : SqT K H l ws) (pr : Paired (P H) ws xs) (few : xs.length ≤ 10000) (hσ : ∀ v, wipe ((wipe σ [j]).set j (some v)) [j] = wipe σ [j])
    (stE : ∀ (v : V) (x : α) (D : Addr) (H' : Hp), x ∈ xs → P H' v x → Same H H' → (∃ vs, H' D = some (.lst vs)) → ∀ S : VK, (∀ (u : V) (H4 : Hp), Same H' H4 → R D H4 u x → S u H4) → te ((wipe σ [j]).set j (some v)) H' S)
    (fin : ∀ (D : Addr) (vs : List V) (H' : Hp), Same H H' → H D = none → H' D = some (.lst vs) → Paired (R D H') vs xs → Q (.ref D) H') : lcV K (gName j) tYes te [j] σ Q (.ref l) H := by
  refine ⟨l, rfl, ⟨_, hl⟩, fun D hD => ?_⟩
  have ln : ws.length = xs.length := Paired.length pr
  refine lc_tup (xs := ws) (fun n H' => ∃ vs : List V, Same H H' ∧ H' D = some (.lst vs) ∧ vs.length = n ∧ Paired (R D H') vs (xs.take n)) ⟨[], same_new hD _, upd_same, rfl, by rw [List.take_zero]; exact .nil⟩ (fun n H' _ h => by obtain ⟨_, h, _⟩ := h; exact h.tp hl) ?_ ?_
  · rintro n v H' hx ⟨vs, g, d, lv, pr'⟩
    obtain ⟨x, ht, px⟩ := LiI.paired_get pr hx
    have hm := List.mem_of_getElem? ht
    have hn : n < xs.length := (List.getElem?_eq_some_iff.mp ht).1
    have e1 : xs.take (n + 1) = xs.take n ++ [x] := by rw [List.take_succ, ht, Option.toList_some]
    refine ⟨hσ _, ?_⟩
    refine r_yes ?_
    rw [if_pos rfl]
    refine stE v x D H' hm (mono g px) g ⟨vs, d⟩ _ fun u H4 g4 ru => ?_
    have d4 := g4 _ _ d
    have k4 : But D H4 (upd H4 D (.lst (vs ++ [u]))) := But.upd _ _ _
    refine ⟨_, d4, Nat.lt_of_le_of_lt (show vs.length ≤ 10000 by omega) (by decide), vs ++ [u], same_updS (g.trans g4) hD, upd_same, by simp [lv], ?_⟩
    rw [e1]
    exact paired_snocT (Paired.mapP pr' fun _ _ h => monoR d ((But.same g4).trans k4) h) (monoR d4 k4 ru)
  · rintro H' ⟨vs, g, d, lv, pr'⟩
    rw [ln, List.take_length] at pr'
    exact fin D vs H' g hD d pr'
end Mb
namespace Mb
open PySem L2
def spMadeT (K : PySem.W.Frag) : Sp := fun vs H Q _ => ∃ (m D : Addr) (x a c : Str) (d : Tail) (v w : V) (o1 o2 : Option Tri), vs = [.ref m, .ref D] ∧ Mq K H m x [a, c] d ∧ x ∈ figW ∧ (∀ q, d = .sh q → NrB q 1000) ∧ DGet H D (.str a) (some v) ∧ DGet H D (.str c) (some w) ∧ TriAt K H v o1 ∧ TriAt K H w o2 ∧ SmO 7200 o1 ∧ SmO 7200 o2 ∧
  ∀ (r : V) (H' : Hp), Same H H' → TriAt K H' r (madeO x (shI d) (shJ d) o1 o2) → Q r H'
end Mb
namespace Mb
open PySem L2
/-! ### where the things stand, by name -/
def Gs (K : PySem.W.Frag) (H : Hp) (tv : List (Str × V)) (G : List Ge) : Prop := Paired (fun e g => e.1 = g.1 ∧ TriAt K H e.2 g.2) tv G
theorem Gs.kp {K : PySem.W.Frag} {H H' : Hp} {tv : List (Str × V)} {G : List Ge} (h : Gs K H tv G) (k : Kp K H H') : Gs K H' tv G := Paired.mapP h fun _ _ t => ⟨t.1, t.2.kp k⟩
theorem Gs.nms {K : PySem.W.Frag} {H : Hp} : ∀ {tv : List (Str × V)} {G : List Ge}, Gs K H tv G → tv.map (·.1) = G.map (·.1)
  | _, _, .nil => rfl
  | e :: _, p :: _, .cons r t => by
    rw [List.map_cons, List.map_cons, r.1, Gs.nms t]
theorem Gs.look {K : PySem.W.Frag} {H : Hp} : ∀ {tv : List (Str × V)} {Z : List Ge} {z : Str}, Gs K H tv Z → z ∈ Z.map (·.1) → (∃ e, tv.find? (fun e => decide (e.1 = z)) = some e ∧ e.2 = lookV tv z) ∧ TriAt K H (lookV tv z) (gLk Z z)
  | _, _, _, .nil, h => by cases h
  | e :: tv, p :: Z, z, .cons r t, h => by
    by_cases c : e.1 = z
    · have c2 : p.1 = z := by rw [← r.1]; exact c
      have e1 : (e :: tv).find? (fun e => decide (e.1 = z)) = some e := by rw [List.find?_cons]; simp [c]
      have e2 : (p :: Z).find? (fun e => decide (e.1 = z)) = some p := by rw [List.find?_cons]; simp [c2]
      have e3 : lookV (e :: tv) z = e.2 := by unfold lookV; rw [e1]; rfl
      have e4 : gLk (p :: Z) z = p.2 := by unfold gLk; rw [e2]; rfl
      exact ⟨⟨e, e1, e3.symm⟩, by rw [e3, e4]; exact r.2⟩
    · have c2 : p.1 ≠ z := by rw [← r.1]; exact c
      have e1 : (e :: tv).find? (fun e => decide (e.1 = z)) = tv.find? (fun e => decide (e.1 = z)) := by rw [List.find?_cons]; simp [c]
      have e2 : (p :: Z).find? (fun e => decide (e.1 = z)) = Z.find? (fun e => decide (e.1 = z)) := by rw [List.find?_cons]; simp [c2]
      have e3 : lookV (e :: tv) z = lookV tv z := by unfold lookV; rw [e1]
      have e4 : gLk (p :: Z) z = gLk Z z := by unfold gLk; rw [e2]
      have hz : z ∈ Z.map (·.1) := by
        rcases List.mem_cons.mp (show z ∈ p.1 :: Z.map (·.1) from h) with h | h
        · exact absurd h.symm c2
        · exact h
      obtain ⟨⟨e', h1, h2⟩, h3⟩ := Gs.look t hz
      exact ⟨⟨e', by rw [e1]; exact h1, by rw [e3]; exact h2⟩, by rw [e3, e4]; exact h3⟩
theorem get_find {H : Hp} {D : Addr} {tv : List (Str × V)} {z : Str} {v : V} (h : H D = some (.dK (formD tv))) (hz : (tv.find? fun e => decide (e.1 = z)).map (·.2) = some v) : DGet H D (.str z) (some v) := by
  have := DGet.k (k := .inr z) h
  unfold formD at this
  rw [val_mapG (nm := fun e : Str × V => e.1) (f := fun e => e.2), hz] at this
  exact this
theorem get_got {K : PySem.W.Frag} {H H0 : Hp} {D : Addr} {tv : List (Str × V)} {Z : List Ge} {z : Str} (h : H D = some (.dK (formD tv))) (t : Gs K H0 tv Z) (hz : z ∈ Z.map (·.1)) : DGet H D (.str z) (some (lookV tv z)) := by
  obtain ⟨⟨e, h1, h2⟩, _⟩ := t.look hz
  refine get_find h ?_
  rw [h1, ← h2]
  rfl
theorem gGo_nms {sp : Str → Rat × Rat} : ∀ {ts : List Thq} {G : List Ge}, (∀ t ∈ ts, sOf t.2.1 ≠ "claim") → (gGo sp G ts).map (·.1) = G.map (·.1) ++ ts.map (·.1)
  | [], _, _ => by simp [gGo]
  | t :: r, G, h => by
    show (gGo sp (gStep sp G t) r).map (·.1) = _
    rw [gGo_nms (fun u hu => h u (List.mem_cons_of_mem _ hu))]
    have c := h t List.mem_cons_self
    unfold gStep
    by_cases e : t.2.1 = "free"
    · rw [if_pos e]; simp
    · rw [if_neg e, if_neg c]; simp
/-- the spots at which the free points are put -/
def Sps (K : PySem.W.Frag) (H : Hp) (sv : List (Str × V)) (sp : Str → Rat × Rat) (ts : List Thq) : Prop := ∀ t ∈ ts, t.2.1 = "free" → ∃ v, (sv.find? fun e => decide (e.1 = t.1)).map (·.2) = some v ∧ Pq K H v (sp t.1).1 (sp t.1).2 ∧ Sz 127 (sp t.1).1 ∧ Sz 127 (sp t.1).2
theorem Sps.kp {K : PySem.W.Frag} {H H' : Hp} {sv : List (Str × V)} {sp : Str → Rat × Rat} {ts : List Thq} (h : Sps K H sv sp ts) (k : Kp K H H') : Sps K H' sv sp ts := fun t ht e => by
  obtain ⟨v, h1, h2, h3⟩ := h t ht e
  exact ⟨v, h1, h2.kp k, h3⟩
def spGotT (K : PySem.W.Frag) : Sp := fun vs H Q _ => ∃ (l S : Addr) (us : List V) (ts : List Thq) (W : Int) (sv : List (Str × V)) (sp : Str → Rat × Rat), vs = [.ref l, .ref S] ∧ SqL K H l us ∧ Rwq K H us ts ∧ ts.length ≤ 60 ∧ Vp W [] ts ∧ H S = some (.dK (formD sv)) ∧ Sps K H sv sp ts ∧ (∀ i z, SmO 7200 (gLk (gGo sp [] (ts.take i)) z)) ∧
  ∀ (D : Addr) (tv : List (Str × V)) (H' : Hp), Same H H' → H D = none → H' D = some (.dK (formD tv)) → Gs K H' tv (gGo sp [] ts) → Q (.ref D) H'
end Mb
namespace Mb
open PySem L2
/-! ### spots -/
def Pls (K : PySem.W.Frag) (H : Hp) (vs : List V) (hs : List (Rat × Rat)) : Prop := Paired (fun v q => Pq K H v q.1 q.2) vs hs
theorem Pls.kp {K : PySem.W.Frag} {H H' : Hp} {vs : List V} {hs : List (Rat × Rat)} (h : Pls K H vs hs) (k : Kp K H H') : Pls K H' vs hs := Paired.mapP h fun _ _ t => t.kp k
def SzP (n : Nat) (q : Rat × Rat) : Prop := Sz n q.1 ∧ Sz n q.2
theorem Fb.fqT {K : PySem.W.Frag} {H : Hp} {o : Addr} {t u : Int} (h : Fb t u) (e : SqT K H o [.int t, .int u]) : ∃ r : Rat, Fq K H (.ref o) r ∧ Sz 31 r := by
  obtain ⟨h1, h2, h3, h4⟩ := h
  obtain ⟨q, rfl, rfl, s⟩ := Fr.rat (m := 31) ⟨h1, h2, by unfold Sm; omega, by unfold Sm; omega⟩
  exact ⟨q, ⟨o, rfl, e⟩, s⟩
theorem half_sz {n : Nat} {p q : Rat} (h : Sz n p) (l : Sz n q) : Sm (n + n + 1) (p.num * (q.den : Int) + q.num * (p.den : Int)) ∧ Sm (n + n + 1) (2 * (p.den : Int) * (q.den : Int)) := by
  refine ⟨(h.t.mul l.b).add (l.t.mul h.b), ?_⟩
  have h2 : Sm (n + n) ((p.den : Int) * (q.den : Int)) := h.b.mul l.b
  rw [Int.mul_assoc]
  unfold Sm at h2 ⊢
  rw [Int.natAbs_mul, Nat.pow_succ]
  show 2 * _ < _
  omega
theorem pick_v {α : Type} {F : V → α → Prop} {vs : List V} {hs : List α} (h : Paired F vs hs) {j : Int} (h0 : 0 ≤ j) (h1 : j < (vs.length : Int)) : ∃ v q, atI vs j = some v ∧ F v q ∧ q ∈ hs := by
  obtain ⟨k, rfl⟩ := Int.eq_ofNat_of_zero_le h0
  have hk : vs[k]? = some (vs[k]'(by omega)) := List.getElem?_eq_getElem (by omega)
  obtain ⟨q, hq, f⟩ := LiI.paired_get h hk
  exact ⟨_, q, atI_nat hk, f, List.mem_of_getElem? hq⟩
def spSpotH (K : PySem.W.Frag) : Sp := fun vs H Q _ => ∃ (p hl : Addr) (b : Int) (vs' : List V) (hs : List (Rat × Rat)) (n : Nat), vs = [.ref p, .ref hl] ∧ Pl H p b ∧ b ≤ 1700000 ∧ H hl = some (.lst vs') ∧ Pls K H vs' hs ∧ (∀ q ∈ hs, SzP n q) ∧ n ≤ 200 ∧ vs'.length ≤ 60 ∧ p ≠ hl ∧
  ∀ (v : V) (x y : Rat) (b' : Int) (H' : Hp), But p H H' → Pl H' p b' → b' ≤ b + 100 → Pq K H' v x y → SzP (max 31 (n + n + 1)) (x, y) → Q v H'
end Mb
namespace Mb
open PySem L2
/-! ### the forms fit where the thing stands -/
theorem fos_pair {K : PySem.W.Frag} {H : Hp} {a : Addr} {fs : List V} {m d S : Nat} {φ : Nat → Wf} (l : fs.length = 3) (h : ∀ (i : Nat) (f : V), fs[i]? = some f → Fo H f m d S (φ i)) : Paired (fun v (i : Nat) => Fo H v m d S (φ i)) fs [0, 1, 2] := by
  match fs, l with
  | [x, y, z], _ => exact .cons (h 0 x rfl) (.cons (h 1 y rfl) (.cons (h 2 z rfl) .nil))
def compT (q : Tri) (i : Nat) : Int := if i = 0 then q.1 else if i = 1 then q.2.1 else q.2.2
theorem comp_at {q : Tri} {i : Nat} (h : i < 3) : atI [V.int q.1, .int q.2.1, .int q.2.2] (i : Int) = some (.int (compT q i)) := by
  match i, h with
  | 0, _ => rfl
  | 1, _ => rfl
  | 2, _ => rfl
theorem comp_sm {q : Tri} {i n : Nat} (h : Sm3 n q) : Sm n (compT q i) := by
  unfold compT
  split
  · exact h.1
  split
  · exact h.2.1
  · exact h.2.2
def Prop3 (rs : List Rat) (φ : Nat → Wf) (q : Tri) : Prop := ∃ k : Rat, k ≠ 0 ∧ φ 0 rs = k * (q.1 : Rat) ∧ φ 1 rs = k * (q.2.1 : Rat) ∧ φ 2 rs = k * (q.2.2 : Rat)
theorem Prop3.at {rs : List Rat} {φ : Nat → Wf} {q : Tri} (h : Prop3 rs φ q) : ∃ k : Rat, k ≠ 0 ∧ ∀ i, i < 3 → φ i rs = k * (compT q i : Rat) := by
  obtain ⟨k, k0, a, b, c⟩ := h
  refine ⟨k, k0, fun i hi => ?_⟩
  match i, hi with
  | 0, _ => exact a
  | 1, _ => exact b
  | 2, _ => exact c
theorem cross_fit {k : Rat} {t b t' b' c c' : Int} (hb : b ≠ 0) (hb' : b' ≠ 0) (h1 : Rat.divInt t b = k * (c : Rat)) (h2 : Rat.divInt t' b' = k * (c' : Rat)) : t * c' * b' = t' * c * b := by
  have n1 : (b : Rat) ≠ 0 := fun z => hb (by exact_mod_cast z)
  have n2 : (b' : Rat) ≠ 0 := fun z => hb' (by exact_mod_cast z)
  have e1 : (t : Rat) = k * (c : Rat) * (b : Rat) := by rw [← h1, Rat.divInt_eq_div, Rat.div_mul_cancel n1]
  have e2 : (t' : Rat) = k * (c' : Rat) * (b' : Rat) := by rw [← h2, Rat.divInt_eq_div, Rat.div_mul_cancel n2]
  have : ((t * c' * b' : Int) : Rat) = ((t' * c * b : Int) : Rat) := by
    rw [Rat.intCast_mul, Rat.intCast_mul, Rat.intCast_mul, Rat.intCast_mul, e1, e2]
    clear e1 e2 h1 h2 n1 n2
    grind
  exact Rat.intCast_inj.mp this
theorem top_nz {k : Rat} {t b c : Int} (hb : b ≠ 0) (hk : k ≠ 0) (h : Rat.divInt t b = k * (c : Rat)) (hc : c ≠ 0) : t ≠ 0 := fun z => by
  rw [z, Rat.zero_divInt] at h
  rcases Rat.mul_eq_zero.mp h.symm with z | z
  · exact hk z
  · exact hc (by exact_mod_cast z)
def spFitT (K : PySem.W.Frag) : Sp := fun vs H Q _ => ∃ (v due : V) (m d S b : Nat) (line : Bool) (l : Addr) (φ : Nat → Wf) (ws : List V) (rs : List Rat) (o : Option Tri), vs = [v, .int (m : Int), .bl line, .ref l, due] ∧ Fos K H v 3 m d S φ ∧ m ≤ 7 ∧ cnt m d ≤ 3003 ∧ d ≤ 50 ∧ SqL K H l ws ∧ Frs K H ws rs ∧ rs.length = m ∧ Bt rs b ∧ S + d * b ≤ 7000 ∧ b ≤ 5000 ∧ 1 ≤ b ∧
  TriAt K H due o ∧ (∀ q, o = some q → Sm3 7200 q ∧ Prop3 rs φ q ∧ NzS line q) ∧ ∀ (H' : Hp), Same H H' → Q (.bl true) H'
end Mb
namespace Mb
open PySem L2
/-! ### the look: spots, numbers, sizes -/
theorem spt_of {sp : Str → Rat × Rat} {rs : List Rat} : ∀ {ts : List Thq} {k : Nat}, (∀ (i : Nat) (t : Thq), ts[i]? = some t → t.2.1 = "free" → freeX (k + frQ (ts.take i)) rs = (sp t.1).1 ∧ freeY (k + frQ (ts.take i)) rs = (sp t.1).2 ∧ Sz 127 (sp t.1).1 ∧ Sz 127 (sp t.1).2) → Spt sp rs k ts
  | [], _, _ => trivial
  | t :: r, k, h => by
    refine ⟨fun e => ?_, spt_of fun i u hi e => ?_⟩
    · have := h 0 t rfl e
      simpa [frQ] using this
    · have := h (i + 1) u hi e
      rw [List.take_succ_cons, ← frQ_cons] at this
      exact this
theorem Spt.left {sp : Str → Rat × Rat} {rs : List Rat} : ∀ {a b : List Thq} {k : Nat}, Spt sp rs k (a ++ b) → Spt sp rs k a
  | [], _, _, _ => trivial
  | _ :: _, _, _, ⟨h1, h2⟩ => ⟨h1, Spt.left h2⟩
theorem Vp.le {W : Int} : ∀ {ts : List Thq} {L : Env}, Vp W L ts → (∀ e ∈ L, e.2.2 ≤ W) → ∀ e ∈ envOf L (ts.map thOf), e.2.2 ≤ W
  | [], _, _, h => h
  | t :: r, L, ⟨⟨_, _, _, _, _, h6⟩, h2⟩, h => by
    show ∀ e ∈ envOf (envStep L (thOf t)) (r.map thOf), e.2.2 ≤ W
    refine Vp.le h2 fun e he => ?_
    rcases List.mem_append.mp (show e ∈ L ++ [_] from he) with he | he
    · exact h e he
    · rw [List.mem_singleton.mp he]; exact h6
theorem wt_le {W : Int} {L : Env} (h : ∀ e ∈ L, e.2.2 ≤ W) {z : Str} (hz : z ∈ nmsE L) : wtE L z ≤ W := by
  obtain ⟨e, he, hf⟩ := find_in hz
  unfold wtE
  rw [hf]
  exact h e he
theorem rwq_sh {K : PySem.W.Frag} {H : Hp} : ∀ {vs : List V} {ts : List Thq}, Rwq K H vs ts → ∀ t ∈ ts, t.2.1 = "share" → ∃ q, t.2.2.2 = .sh q
  | _, _, .cons ⟨a, m, _, _, r, _, nt⟩ rest, t, ht, e => by
    rcases List.mem_cons.mp ht with rfl | ht
    · cases c : t.2.2.2 with
      | sh q => exact ⟨q, rfl⟩
      | fr x y => rw [c] at nt; have := nt.1; rw [e] at this; exact absurd this (by decide)
      | ct n => rw [c] at nt; have := nt.1; rw [e] at this; exact absurd this (by decide)
      | no => rw [c] at nt; exact absurd e nt.2.1
    · exact rwq_sh rest t ht e
theorem val_of {W : Int} {rs : List Rat} {sp : Str → Rat × Rat} {ts : List Thq} (h : Vp W [] ts) (hs : ∀ t ∈ ts, t.2.1 = "share" → ∃ q, t.2.2.2 = .sh q) (s : Spt sp rs 0 ts) (i : Nat) : Val rs (envOf [] ((ts.take i).map thOf)) (fGo 0 [] (ts.take i)) (gGo sp [] (ts.take i)) := by
  rw [← List.take_append_drop i ts] at h s
  exact val_go h.split.1 (fun t ht => hs t (List.mem_of_mem_take ht)) s.left val0
theorem glk_none {G : List Ge} {z : Str} (h : z ∉ G.map (·.1)) : gLk G z = none := by
  unfold gLk
  have : G.find? (fun e => decide (e.1 = z)) = none := by
    rw [List.find?_eq_none]
    intro e he hd
    exact h (of_decide_eq_true hd ▸ List.mem_map.mpr ⟨e, he, rfl⟩)
  rw [this]
  rfl
theorem small_of {W : Nat} {rs : List Rat} {sp : Str → Rat × Rat} {ts : List Thq} (h : Vp (W : Int) [] ts) (w24 : W ≤ 24) (hs : ∀ t ∈ ts, t.2.1 = "share" → ∃ q, t.2.2.2 = .sh q) (s : Spt sp rs 0 ts) (i : Nat) (z : Str) : SmO 7200 (gLk (gGo sp [] (ts.take i)) z) := by
  have v := val_of h hs s i
  by_cases hz : z ∈ nmsE (envOf [] ((ts.take i).map thOf))
  · intro q e
    obtain ⟨m, _⟩ := (v.r z hz).ok q e
    have d := (h.agr i).d z hz
    have h' := h
    rw [← List.take_append_drop i ts] at h'
    have l := wt_le (Vp.le h'.split.1 (fun e he => by cases he)) hz
    have dl : (fLk (fGo 0 [] (ts.take i)) z).1 ≤ 24 := by omega
    exact ⟨m.1.mono (by omega), m.2.1.mono (by omega), m.2.2.mono (by omega)⟩
  · rw [glk_none (by rw [v.m]; exact hz)]
    intro q e
    cases e
theorem due_fit {W : Nat} {rs : List Rat} {sp : Str → Rat × Rat} {R a : List Thq} {t : Thq} (h : Vp (W : Int) [] R) (w24 : W ≤ 24) (hs : ∀ t ∈ R, t.2.1 = "share" → ∃ q, t.2.2.2 = .sh q) (s : Spt sp rs 0 R) (e : R = a ++ [t]) :
    t.1 ∈ (gGo sp [] R).map (·.1) ∧ ∀ q, gLk (gGo sp [] R) t.1 = some q → Sm3 7200 q ∧ Prop3 rs (fLk (fGo 0 [] R) t.1).2 q ∧ NzS (decide (sOf t.2.1 = "line")) q := by
  have v := val_of h hs s R.length
  have sm := small_of h w24 hs s R.length t.1
  rw [List.take_length] at v sm
  have hk : R[a.length]? = some t := by rw [e, List.getElem?_append_right (Nat.le_refl _), Nat.sub_self]; rfl
  obtain ⟨n1, _, _, n4, _⟩ := h.at hk
  have et : R.take a.length = a := by rw [e]; exact List.take_left' rfl
  rw [et] at n1
  have ee : envOf [] (R.map thOf) = envStep (envOf [] (a.map thOf)) (thOf t) := by rw [e, List.map_append, envOf_append]; rfl
  have hz : t.1 ∈ nmsE (envOf [] (R.map thOf)) := by rw [ee, nms_step]; exact List.mem_append_right _ (List.mem_singleton.mpr rfl)
  have srt : srtE (envOf [] (R.map thOf)) t.1 = sOf t.2.1 := by rw [ee]; exact srt_step (t := thOf t) n1
  refine ⟨by rw [v.m]; exact hz, fun q eq => ?_⟩
  obtain ⟨_, pr, np, nl⟩ := (v.r t.1 hz).ok q eq
  rw [srt] at np nl
  refine ⟨sm q eq, pr, ?_⟩
  unfold NzS
  by_cases c : sOf t.2.1 = "line"
  · rw [if_pos (decide_eq_true c)]
    exact nl c
  · rw [if_neg (by simpa using c)]
    refine np ?_
    rcases n4 with ⟨e', _⟩ | ⟨hx, _⟩
    · rw [e']; decide +kernel
    · exact (fig_sort hx).resolve_right c
/-! the spots drawn -/
def flatP : List (Rat × Rat) → List Rat
  | [] => []
  | p :: r => p.1 :: p.2 :: flatP r
theorem flat_len : ∀ (L : List (Rat × Rat)), (flatP L).length = 2 * L.length
  | [] => rfl
  | p :: r => by unfold flatP; rw [List.length_cons, List.length_cons, List.length_cons, flat_len r]; omega
theorem flat_app : ∀ (a b : List (Rat × Rat)), flatP (a ++ b) = flatP a ++ flatP b
  | [], _ => rfl
  | p :: r, b => by rw [List.cons_append, flatP, flatP, flat_app r b]; rfl
theorem flat_get : ∀ {L : List (Rat × Rat)} {i : Nat} {q : Rat × Rat}, L[i]? = some q → (flatP L).getD (2 * i) 0 = q.1 ∧ (flatP L).getD (2 * i + 1) 0 = q.2
  | p :: r, 0, q, h => by cases h; exact ⟨rfl, rfl⟩
  | p :: r, i + 1, q, h => by
    have := flat_get (L := r) (i := i) (q := q) h
    unfold flatP
    rw [show 2 * (i + 1) = 2 * i + 1 + 1 by omega]
    exact this
def szN (j : Nat) : Nat := [1, 1, 31, 63, 127].getD j 127
def bN (n : Nat) : Nat := [1, 1, 1, 63, 189, 443].getD n 443
/-- the spots had, the first two as they are, of growing sizes -/
structure Had (hs : List (Rat × Rat)) : Prop where
  two : ∃ r, hs = (0, 0) :: (1, 0) :: r
  sz : ∀ (j : Nat) (q : Rat × Rat), hs[j]? = some q → SzP (szN j) q
def spOf (fr : List Str) (hs : List (Rat × Rat)) (x : Str) : Rat × Rat := hs.getD (fr.idxOf x) (0, 0)
theorem spOf_at {fr : List Str} {hs : List (Rat × Rat)} {j : Nat} {x : Str} {q : Rat × Rat} (nd : fr.Nodup) (h : fr[j]? = some x) (hq : hs[j]? = some q) : spOf fr hs x = q := by
  obtain ⟨hl, e⟩ := List.getElem?_eq_some_iff.mp h
  unfold spOf
  rw [← e, nd.idxOf_getElem j hl, List.getD_eq_getElem?_getD, hq]
  rfl
theorem szN_le {j : Nat} : szN j ≤ 127 := by
  unfold szN
  match j with
  | 0 | 1 | 2 | 3 | 4 => decide
  | n + 5 => exact Nat.le_refl _
theorem Had.spt {hs : List (Rat × Rat)} {R : List Thq} (h : Had hs) (nd : (R.map (·.1)).Nodup) (hl : frN R ≤ hs.length) : Spt (spOf (((R.map thOf).filter freeB).map (·.1)) hs) (flatP (hs.drop 2)) 0 R := by
  refine spt_of fun i t hi e => ?_
  rw [Nat.zero_add]
  have fq : freeQ t = true := decide_eq_true e
  have f1 := frees_idx hi fq
  have f2 := frees_lt hi fq
  have n2 := frees_nd nd
  generalize frQ (R.take i) = j at *
  obtain ⟨q, hq⟩ : ∃ q, hs[j]? = some q := ⟨_, List.getElem?_eq_getElem (by omega)⟩
  rw [spOf_at n2 f1 hq]
  have s := h.sz j q hq
  refine ⟨?_, ?_, s.1.mono szN_le, s.2.mono szN_le⟩
  · obtain ⟨r, e2⟩ := h.two
    unfold freeX
    match j, hq with
    | 0, hq => rw [e2] at hq; cases hq; rfl
    | 1, hq => rw [e2] at hq; cases hq; rfl
    | j + 2, hq =>
      rw [if_neg (by omega), if_neg (by omega), show 2 * (j + 2) - 4 = 2 * j by omega]
      exact (flat_get (by rw [List.getElem?_drop, Nat.add_comm 2 j]; exact hq)).1
  · obtain ⟨r, e2⟩ := h.two
    unfold freeY
    match j, hq with
    | 0, hq => rw [e2] at hq; cases hq; rfl
    | 1, hq => rw [e2] at hq; cases hq; rfl
    | j + 2, hq =>
      rw [if_neg (by omega), if_neg (by omega), show 2 * (j + 2) - 3 = 2 * j + 1 by omega]
      exact (flat_get (by rw [List.getElem?_drop, Nat.add_comm 2 j]; exact hq)).2
theorem find_zip : ∀ {fr : List Str} {vs : List V} {j : Nat} {x : Str} {v : V}, fr.Nodup → fr[j]? = some x → vs[j]? = some v → ((fr.zip vs).find? fun e => decide (e.1 = x)).map (·.2) = some v
  | a :: fr, w :: vs, 0, x, v, _, h1, h2 => by
    cases h1; cases h2
    rw [List.zip_cons_cons, List.find?_cons]
    simp
  | a :: fr, w :: vs, j + 1, x, v, nd, h1, h2 => by
    have h1' : fr[j]? = some x := h1
    have ne : a ≠ x := fun e => (List.nodup_cons.mp nd).1 (e ▸ List.mem_of_getElem? h1')
    rw [List.zip_cons_cons, List.find?_cons]
    simp only [ne, decide_false]
    exact find_zip (List.nodup_cons.mp nd).2 h1' h2
theorem Had.sps {K : PySem.W.Frag} {H : Hp} {hs : List (Rat × Rat)} {vs : List V} {R : List Thq} (h : Had hs) (nd : (R.map (·.1)).Nodup) (pl : Pls K H vs hs) (hl : frN R ≤ hs.length) : Sps K H ((((R.map thOf).filter freeB).map (·.1)).zip vs) (spOf (((R.map thOf).filter freeB).map (·.1)) hs) R := fun t ht e => by
  obtain ⟨i, hi⟩ := List.getElem?_of_mem ht
  have fq : freeQ t = true := decide_eq_true e
  have f1 := frees_idx hi fq
  have f2 := frees_lt hi fq
  have n2 := frees_nd nd
  generalize frQ (R.take i) = j at *
  have lp : vs.length = hs.length := Paired.length pl
  have hv : vs[j]? = some (vs[j]'(by omega)) := List.getElem?_eq_getElem (by omega)
  obtain ⟨q, hq, pq⟩ := LiI.paired_get pl hv
  rw [spOf_at n2 f1 hq]
  have s := h.sz j q hq
  exact ⟨_, find_zip n2 f1 hv, pq, s.1.mono szN_le, s.2.mono szN_le⟩
theorem had_snoc {hs : List (Rat × Rat)} {q : Rat × Rat} {k : Nat} (h : Had hs) (hk : hs.length = k) (hq : SzP (szN k) q) : Had (hs ++ [q]) := by
  obtain ⟨r, e⟩ := h.two
  refine ⟨⟨r ++ [q], by rw [e]; rfl⟩, fun j p hp => ?_⟩
  by_cases c : j < hs.length
  · rw [List.getElem?_append_left c] at hp
    exact h.sz j p hp
  · rw [List.getElem?_append_right (by omega)] at hp
    have c2 : j - hs.length = 0 := by
      have := (List.getElem?_eq_some_iff.mp hp).1
      simp at this
      omega
    rw [c2] at hp
    cases hp
    rw [show j = k by omega]
    exact hq
theorem Had.all {hs : List (Rat × Rat)} {k : Nat} (h : Had hs) (hk : hs.length = k) (k2 : 2 ≤ k) (k4 : k ≤ 4) : ∀ q ∈ hs, SzP (szN (k - 1)) q := fun q hq => by
  obtain ⟨j, hj⟩ := List.getElem?_of_mem hq
  have s := h.sz j q hj
  have hl := (List.getElem?_eq_some_iff.mp hj).1
  have le : szN j ≤ szN (k - 1) := by
    have c : k = 2 ∨ k = 3 ∨ k = 4 := by omega
    have cj : j = 0 ∨ j = 1 ∨ j = 2 ∨ j = 3 := by omega
    rcases c with rfl | rfl | rfl <;> rcases cj with rfl | rfl | rfl | rfl <;> first | decide | omega
  exact ⟨s.1.mono le, s.2.mono le⟩
theorem szN_next {k : Nat} (k2 : 2 ≤ k) (k4 : k ≤ 4) : max 31 (szN (k - 1) + szN (k - 1) + 1) ≤ szN k := by
  have c : k = 2 ∨ k = 3 ∨ k = 4 := by omega
  rcases c with rfl | rfl | rfl <;> decide
theorem room_fit {W d n : Nat} (hd : d ≤ W) (h1 : 1 ≤ n) (h5 : n ≤ 5) (hw : (W : Int) ≤ wideN n) : 210 * d - 200 + d * bN n ≤ 7000 := by
  have c : n = 1 ∨ n = 2 ∨ n = 3 ∨ n = 4 ∨ n = 5 := by omega
  rcases c with rfl | rfl | rfl | rfl | rfl
  · have : wideN 1 = 24 := by decide
    rw [show bN 1 = 1 from rfl]; omega
  · have : wideN 2 = 24 := by decide
    rw [show bN 2 = 1 from rfl]; omega
  · have : wideN 3 = 24 := by decide
    rw [show bN 3 = 63 from rfl]; omega
  · have : wideN 4 = 12 := by decide
    rw [show bN 4 = 189 from rfl]; omega
  · have : wideN 5 = 8 := by decide
    rw [show bN 5 = 443 from rfl]; omega
theorem bN_step {j : Nat} (h : j + 2 < 5) : bN (j + 2) + szN (j + 2) + szN (j + 2) = bN (j + 3) ∧ 1 ≤ bN (j + 2) := by
  have c : j = 0 ∨ j = 1 ∨ j = 2 := by omega
  rcases c with rfl | rfl | rfl <;> decide
end Mb
namespace Mb
open PySem L2
theorem Kt.butP {p : Addr} {H H' : Hp} {b : Int} (s : But p H H') (h : Pl H p b) : Kt H H' := fun q xs hq => by
  obtain ⟨_, _, _, e, _⟩ := h
  exact s _ _ (fun z => by rw [z, e] at hq; cases hq) hq
theorem Gw.but {K : PySem.W.Frag} {p : Addr} {H H' : Hp} {b : Int} (s : But p H H') (h : Pl H p b) : Gw K H H' := ⟨Kp.but s h, Kt.butP s h⟩
theorem FeAt.gw {K : PySem.W.Frag} {H H' : Hp} {m W : Nat} {e : Fe} {v : V} (h : FeAt K H m W e v) (k : Gw K H H') : FeAt K H' m W e v := ⟨h.1.gw k, h.2⟩
theorem kp_butL {K : PySem.W.Frag} {p : Addr} {H H' : Hp} {xs : List V} (s : But p H H') (h : H p = some (.lst xs)) : Kp K H H' := fun _ _ t => s.tup h t
theorem zip_snoc {fr : List Str} {vs : List V} {i : Nat} {x : Str} {v : V} (h : fr[i]? = some x) (hv : vs[i]? = some v) : (fr.take (i + 1)).zip vs = (fr.take i).zip vs ++ [(x, v)] := by
  induction fr generalizing vs i with
  | nil => cases h
  | cons a r ih =>
    cases vs with
    | nil => cases hv
    | cons w vs =>
      cases i with
      | zero =>
        cases h; cases hv
        rw [List.take_succ_cons, List.take_zero, List.take_zero, List.zip_cons_cons]
        rfl
      | succ i =>
        rw [List.take_succ_cons, List.zip_cons_cons, ih (i := i) (vs := vs) h hv, List.take_succ_cons, List.zip_cons_cons]
        rfl
theorem zip_more {fr : List Str} {vs : List V} {v : V} (h : fr.length ≤ vs.length) : fr.zip (vs ++ [v]) = fr.zip vs := by
  induction fr generalizing vs with
  | nil => rfl
  | cons a r ih =>
    cases vs with
    | nil => simp at h
    | cons w vs =>
      rw [List.cons_append, List.zip_cons_cons, List.zip_cons_cons, ih (by simpa using h)]
theorem zip_nms {fr : List Str} {vs : List V} : ∀ x ∈ (fr.zip vs).map (·.1), x ∈ fr := fun x hx => by
  obtain ⟨e, he, rfl⟩ := List.mem_map.mp hx
  exact (List.of_mem_zip he).1
def spLookT (K : PySem.W.Frag) : Sp := fun vs H Q _ => ∃ (p l : Addr) (z : Str) (b : Int) (us : List V) (ts : List Thq) (W n : Nat), vs = [.ref p, .ref l, .str z] ∧ Pl H p b ∧ b ≤ 1500000 ∧ H l = some (.lst us) ∧ l ≠ p ∧ Rwq K H us ts ∧ ts.length ≤ 60 ∧ Vp (W : Int) [] ts ∧ 1 ≤ W ∧ W ≤ 40 ∧ frN ts ≤ n ∧ n ≤ 5 ∧ Wmax W n ∧ z ∈ ts.map (·.1) ∧
  ∀ (b' : Int) (H' : Hp), But p H H' → Pl H' p b' → b' ≤ b + 5000 → Q (.bl true) H'
end Mb
namespace Mb
open PySem L2
/-! ### the row drawn -/
structure N6 (R B P Ln Wt Fr : Addr) : Prop where
  rb : R ≠ B
  rp : R ≠ P
  rl : R ≠ Ln
  rw : R ≠ Wt
  rf : R ≠ Fr
  bp : B ≠ P
  bl : B ≠ Ln
  bw : B ≠ Wt
  bf : B ≠ Fr
  pl : P ≠ Ln
  pw : P ≠ Wt
  pf : P ≠ Fr
  lw : Ln ≠ Wt
  lf : Ln ≠ Fr
  wf : Wt ≠ Fr
theorem ne_new {H : Hp} {a b : Addr} {o : HO} (h : H a = some o) (n : H b = none) : a ≠ b := fun z => by rw [z, n] at h; cases h
structure Hp6 (H H' : Hp) (p R B P Ln Wt Fr : Addr) (us : List V) (pts lns frs : List Str) (L : Env) : Prop where
  bt : But p H H'
  eR : H' R = some (.lst us)
  eB : H' B = some (.dK [(.inr "point", .ref P), (.inr "line", .ref Ln)])
  eP : H' P = some (.lst (pts.map V.str))
  eL : H' Ln = some (.lst (lns.map V.str))
  eW : H' Wt = some (.dK (loadsD L))
  eF : H' Fr = some (.lst (frs.map V.str))
  n : N6 R B P Ln Wt Fr
  np : R ≠ p ∧ B ≠ p ∧ P ≠ p ∧ Ln ≠ p ∧ Wt ≠ p ∧ Fr ≠ p
  fr : H R = none ∧ H B = none ∧ H P = none ∧ H Ln = none ∧ H Wt = none ∧ H Fr = none
section
variable {H H' H2 : Hp} {p R B P Ln Wt Fr : Addr} {us : List V} {pts lns frs : List Str} {L : Env}
theorem Hp6.but (h : Hp6 H H' p R B P Ln Wt Fr us pts lns frs L) (k : But p H' H2) : Hp6 H H2 p R B P Ln Wt Fr us pts lns frs L :=
  ⟨h.bt.trans k, k _ _ h.np.1 h.eR, k _ _ h.np.2.1 h.eB, k _ _ h.np.2.2.1 h.eP, k _ _ h.np.2.2.2.1 h.eL, k _ _ h.np.2.2.2.2.1 h.eW, k _ _ h.np.2.2.2.2.2 h.eF, h.n, h.np, h.fr⟩
theorem Hp6.same (h : Hp6 H H' p R B P Ln Wt Fr us pts lns frs L) (k : Same H' H2) : Hp6 H H2 p R B P Ln Wt Fr us pts lns frs L := h.but (But.same k)
theorem Hp6.setR (h : Hp6 H H' p R B P Ln Wt Fr us pts lns frs L) (us2 : List V) : Hp6 H (upd H' R (.lst us2)) p R B P Ln Wt Fr us2 pts lns frs L :=
  ⟨but_updR h.bt h.fr.1, upd_same, by rw [upd_ne h.n.rb.symm]; exact h.eB, by rw [upd_ne h.n.rp.symm]; exact h.eP, by rw [upd_ne h.n.rl.symm]; exact h.eL, by rw [upd_ne h.n.rw.symm]; exact h.eW, by rw [upd_ne h.n.rf.symm]; exact h.eF, h.n, h.np, h.fr⟩
theorem Hp6.setP (h : Hp6 H H' p R B P Ln Wt Fr us pts lns frs L) (z : Str) : Hp6 H (upd H' P (.lst (pts.map V.str ++ [V.str z]))) p R B P Ln Wt Fr us (pts ++ [z]) lns frs L :=
  ⟨but_updR h.bt h.fr.2.2.1, by rw [upd_ne h.n.rp]; exact h.eR, by rw [upd_ne h.n.bp]; exact h.eB, by rw [List.map_append]; exact upd_same, by rw [upd_ne h.n.pl.symm]; exact h.eL, by rw [upd_ne h.n.pw.symm]; exact h.eW, by rw [upd_ne h.n.pf.symm]; exact h.eF, h.n, h.np, h.fr⟩
theorem Hp6.setL (h : Hp6 H H' p R B P Ln Wt Fr us pts lns frs L) (z : Str) : Hp6 H (upd H' Ln (.lst (lns.map V.str ++ [V.str z]))) p R B P Ln Wt Fr us pts (lns ++ [z]) frs L :=
  ⟨but_updR h.bt h.fr.2.2.2.1, by rw [upd_ne h.n.rl]; exact h.eR, by rw [upd_ne h.n.bl]; exact h.eB, by rw [upd_ne h.n.pl]; exact h.eP, by rw [List.map_append]; exact upd_same, by rw [upd_ne h.n.lw.symm]; exact h.eW, by rw [upd_ne h.n.lf.symm]; exact h.eF, h.n, h.np, h.fr⟩
theorem Hp6.setF (h : Hp6 H H' p R B P Ln Wt Fr us pts lns frs L) (z : Str) : Hp6 H (upd H' Fr (.lst (frs.map V.str ++ [V.str z]))) p R B P Ln Wt Fr us pts lns (frs ++ [z]) L :=
  ⟨but_updR h.bt h.fr.2.2.2.2.2, by rw [upd_ne h.n.rf]; exact h.eR, by rw [upd_ne h.n.bf]; exact h.eB, by rw [upd_ne h.n.pf]; exact h.eP, by rw [upd_ne h.n.lf]; exact h.eL, by rw [upd_ne h.n.wf]; exact h.eW, by rw [List.map_append]; exact upd_same, h.n, h.np, h.fr⟩
theorem Hp6.setW (h : Hp6 H H' p R B P Ln Wt Fr us pts lns frs L) (L2 : Env) : Hp6 H (upd H' Wt (.dK (loadsD L2))) p R B P Ln Wt Fr us pts lns frs L2 :=
  ⟨but_updR h.bt h.fr.2.2.2.2.1, by rw [upd_ne h.n.rw]; exact h.eR, by rw [upd_ne h.n.bw]; exact h.eB, by rw [upd_ne h.n.pw]; exact h.eP, by rw [upd_ne h.n.lw]; exact h.eL, upd_same, by rw [upd_ne h.n.wf.symm]; exact h.eF, h.n, h.np, h.fr⟩
end
theorem load_keys {L : Env} : (loadsD L).map (fun kv => kV kv.1) = (nmsE L).map V.str := by
  unfold loadsD nmsE
  rw [List.map_map, List.map_map]
  rfl
/-- what is known of the names drawn -/
structure Nm6 (pts lns frs : List Str) (L : Env) : Prop where
  p : ∀ z ∈ pts, (z ∈ nmsE L ∧ Sok z) ∧ srtE L z = "point"
  l : ∀ z ∈ lns, (z ∈ nmsE L ∧ Sok z) ∧ srtE L z = "line"
  f : ∀ z ∈ frs, z ∈ pts ∧ wtE L z = 1
theorem fig_word {x : Str} (hx : x ∈ figW) : (x, sOf x, wantOf x) ∈ wordsTab := by
  have all : ∀ y ∈ figW, (y, sOf y, wantOf y) ∈ wordsTab := by decide +kernel
  exact all x hx
theorem fits_two {pts lns frs : List Str} {L : Env} {x a c : Str} (h : Nm6 pts lns frs L) (hx : x ∈ figW) (ha : if x = "meet" then a ∈ lns else a ∈ pts) (hc : if x = "meet" ∨ x ∈ lineW then c ∈ lns else c ∈ pts) : FitsE x [a, c] L := by
  refine ⟨sOf x, wantOf x, fig_word hx, ?_⟩
  rw [fig_due hx]
  refine .cons ?_ (.cons ?_ .nil)
  · by_cases e : x = "meet"
    · rw [if_pos e] at ha
      rw [if_pos e]
      exact ⟨(h.l _ ha).1, by rw [(h.l _ ha).2]; decide⟩
    · rw [if_neg e] at ha
      rw [if_neg e]
      exact ⟨(h.p _ ha).1, by rw [(h.p _ ha).2]; decide⟩
  · by_cases e : x = "meet" ∨ x ∈ lineW
    · rw [if_pos e] at hc
      rw [if_pos e]
      exact ⟨(h.l _ hc).1, by rw [(h.l _ hc).2]; decide⟩
    · rw [if_neg e] at hc
      rw [if_neg e]
      exact ⟨(h.p _ hc).1, by rw [(h.p _ hc).2]; decide⟩
theorem hungs_fits {pts lns frs : List Str} {L : Env} {x : Str} {ns : List Str} {d : Tail} (h : Nm6 pts lns frs L) (g : Hungs pts lns x ns d) : FitsE x ns L ∧ x ∈ figW ∧ ∀ q, d = .sh q → NrB q 1000 := by
  obtain ⟨hx, ⟨a, c, rfl, g2⟩, g3⟩ := g
  refine ⟨?_, hx, fun q e => ?_⟩
  · rcases g2 with ⟨rfl, h1, h2⟩ | ⟨e, h1, g4⟩
    · exact fits_two h hx (by rw [if_pos rfl]; exact h1) (by rw [if_pos (.inl rfl)]; exact h2)
    · rcases g4 with ⟨g5, h2⟩ | ⟨g5, h2⟩
      · exact fits_two h hx (by rw [if_neg e]; exact h1) (by rw [if_pos (.inr g5)]; exact h2)
      · exact fits_two h hx (by rw [if_neg e]; exact h1) (by rw [if_neg (fun z => z.elim e g5)]; exact h2)
  · rcases g3 with ⟨q', _, e', nb⟩ | ⟨_, e'⟩
    · rw [e] at e'; cases e'; exact nb
    · rw [e] at e'; cases e'
theorem nm6_step {pts lns frs : List Str} {L : Env} {t : Thing} (h : Nm6 pts lns frs L) (n : t.1 ∉ nmsE L) (so : Sok t.1) : Nm6 (if sOf t.2.1 = "point" then pts ++ [t.1] else pts) (if sOf t.2.1 = "line" then lns ++ [t.1] else lns) (if t.2.1 = "free" then frs ++ [t.1] else frs) (envStep L t) := by
  have new : ∀ {s : Str}, sOf t.2.1 = s → (t.1 ∈ nmsE (envStep L t) ∧ Sok t.1) ∧ srtE (envStep L t) t.1 = s := fun {s} e => ⟨⟨by rw [nms_step]; simp, so⟩, by rw [srt_step n]; exact e⟩
  have old : ∀ {z s : Str}, (z ∈ nmsE L ∧ Sok z) ∧ srtE L z = s → (z ∈ nmsE (envStep L t) ∧ Sok z) ∧ srtE (envStep L t) z = s := fun {z s} h => ⟨⟨by rw [nms_step]; exact List.mem_append_left _ h.1.1, h.1.2⟩, by rw [srtP_old h.1.1]; exact h.2⟩
  refine ⟨fun z hz => ?_, fun z hz => ?_, fun z hz => ?_⟩
  · by_cases c : sOf t.2.1 = "point"
    · rw [if_pos c] at hz
      rcases List.mem_append.mp hz with hz | hz
      · exact old (h.p z hz)
      · rw [List.mem_singleton.mp hz]; exact new c
    · rw [if_neg c] at hz
      exact old (h.p z hz)
  · by_cases c : sOf t.2.1 = "line"
    · rw [if_pos c] at hz
      rcases List.mem_append.mp hz with hz | hz
      · exact old (h.l z hz)
      · rw [List.mem_singleton.mp hz]; exact new c
    · rw [if_neg c] at hz
      exact old (h.l z hz)
  · have up : ∀ y ∈ pts, y ∈ (if sOf t.2.1 = "point" then pts ++ [t.1] else pts) := fun y hy => by
      split
      · exact List.mem_append_left _ hy
      · exact hy
    by_cases c : t.2.1 = "free"
    · rw [if_pos c] at hz
      rcases List.mem_append.mp hz with hz | hz
      · have := h.f z hz
        exact ⟨up z this.1, by rw [wtP_old (h.p z this.1).1.1]; exact this.2⟩
      · rw [List.mem_singleton.mp hz]
        refine ⟨?_, ?_⟩
        · rw [c, if_pos (by decide +kernel)]; simp
        · rw [wtP_step n, c, wOf_free]
    · rw [if_neg c] at hz
      have := h.f z hz
      exact ⟨up z this.1, by rw [wtP_old (h.p z this.1).1.1]; exact this.2⟩
theorem r_ifs2 {c : TT} {t u : TS} {D : Ends} {σ : St} {H : Hp} (b : Bool) (hc : ∀ Q : Bool → Hp → Prop, Q b H → c σ H Q) (q : if b = true then t D σ H else u D σ H) : tIfS c t u D σ H := hc _ q
theorem mid_two {a c : Str} {L : Env} (h1 : wtE L a = 1) (h2 : wtE L c = 1) : wOf "middle" [a, c] L = 2 := by
  unfold wOf
  rw [if_neg (by decide), if_neg (by decide), if_neg (by decide), if_neg (by decide)]
  simp [h1, h2]
theorem frN_snoc {ts : List Thq} {t : Thq} : frN (ts ++ [t]) = frN ts + (if t.2.1 = "free" then 1 else 0) := by
  rw [frQ_N, frQ_N]
  unfold frQ
  rw [List.filter_append, List.length_append, List.filter_cons]
  unfold freeQ
  by_cases c : t.2.1 = "free"
  · rw [if_pos (decide_eq_true c), if_pos c]; rfl
  · rw [if_neg (by simpa using c), if_neg c]; rfl
def spPlainT (K : PySem.W.Frag) : Sp := fun vs H Q _ => ∃ (p : Addr) (b : Int) (hd many : Nat) (most : Nat), vs = [.ref p, .int (hd : Int), .int (many : Int), .int (most : Int)] ∧ Pl H p b ∧ b ≤ 1200000 ∧ 1 ≤ hd ∧ hd ≤ 5 ∧ many ≤ 8 ∧ 2 ≤ most ∧ most ≤ 40 ∧
  ∀ (l : Addr) (us : List V) (ts : List Thq) (b' : Int) (H' : Hp), But p H H' → Pl H' p b' → b' ≤ b + 10000 → H l = none → H' l = some (.lst us) → Rwq K H' us ts → Vp (most : Int) [] ts → frN ts ≤ hd → ts.length = hd + many → Q (.ref l) H'
end Mb
namespace Mb
open PySem L2
theorem most_a {r : Int} (h0 : 0 ≤ r) (h1 : r < 5) : ∃ A : Nat, atI [V.int 12, .int 12, .int 12, .int 8, .int 6] (1 + r - 1) = some (.int (A : Int)) ∧ 6 ≤ A ∧ A ≤ 12 ∧ Wmax A (r.toNat + 1) := by
  have wx : ∀ k : Fin 6, ∀ j : Fin 6, 1 ≤ k.val → k.val ≤ j.val → ([12, 12, 12, 8, 6] : List Int).getD (j.val - 1) 0 ≤ wideN k.val := by decide +kernel
  have go : ∀ j : Nat, j < 5 → ∀ A : Nat, ([12, 12, 12, 8, 6] : List Int).getD j 0 = (A : Int) → Wmax A (j + 1) := fun j hj A hA k k1 k2 => by
    have := wx ⟨k, by omega⟩ ⟨j + 1, by omega⟩ k1 k2
    rw [← hA]
    exact this
  have c : r = 0 ∨ r = 1 ∨ r = 2 ∨ r = 3 ∨ r = 4 := by omega
  rcases c with rfl | rfl | rfl | rfl | rfl
  · exact ⟨12, rfl, by decide, by decide, go 0 (by decide) 12 rfl⟩
  · exact ⟨12, rfl, by decide, by decide, go 1 (by decide) 12 rfl⟩
  · exact ⟨12, rfl, by decide, by decide, go 2 (by decide) 12 rfl⟩
  · exact ⟨8, rfl, by decide, by decide, go 3 (by decide) 8 rfl⟩
  · exact ⟨6, rfl, by decide, by decide, go 4 (by decide) 6 rfl⟩
theorem most_b {r : Int} (h0 : 0 ≤ r) (h1 : r < 4) : ∃ B : Nat, atI [V.int 5, .int 6, .int 8, .int 12] r = some (.int (B : Int)) ∧ 5 ≤ B ∧ B ≤ 12 := by
  have c : r = 0 ∨ r = 1 ∨ r = 2 ∨ r = 3 := by omega
  rcases c with rfl | rfl | rfl | rfl
  · exact ⟨5, rfl, by decide, by decide⟩
  · exact ⟨6, rfl, by decide, by decide⟩
  · exact ⟨8, rfl, by decide, by decide⟩
  · exact ⟨12, rfl, by decide, by decide⟩
/-- a thing of the row, picked -/
theorem pick_row {K : PySem.W.Frag} {H : Hp} {us : List V} {ts : List Thq} {j : Int} (h : Rwq K H us ts) (h0 : 0 ≤ j) (h1 : j < (us.length : Int)) : ∃ (a m : Addr) (t : Thq), atI us j = some (.ref a) ∧ SqT K H a [.str t.1, .ref m] ∧ t.1 ∈ ts.map (·.1) := by
  obtain ⟨v, t, av, ⟨a, m, rfl, ta, _⟩, mt⟩ := pick_v h h0 h1
  exact ⟨a, m, t, av, ta, List.mem_map_of_mem mt⟩
theorem last_row {K : PySem.W.Frag} {H : Hp} {us : List V} {ts : List Thq} (h : Rwq K H us ts) (h0 : 1 ≤ us.length) : ∃ (a m : Addr) (t : Thq), atI us (-1) = some (.ref a) ∧ SqT K H a [.str t.1, .ref m] ∧ t.1 ∈ ts.map (·.1) := by
  have ne : us ≠ [] := fun e => by rw [e] at h0; simp at h0
  have e := List.dropLast_concat_getLast ne
  have hv : us[us.length - 1]? = some (us.getLast ne) := by rw [List.getLast_eq_getElem]; exact List.getElem?_eq_getElem (by omega)
  obtain ⟨t, ht, a, m, ev, ta, _⟩ := h.at hv
  refine ⟨a, m, t, ?_, ta, List.mem_map_of_mem (List.mem_of_getElem? ht)⟩
  rw [← e, ev]
  exact at_last
end Mb
namespace Mb
open PySem L2
/-! ### weights of a row as a dict -/
def spHeavyT (K : PySem.W.Frag) : Sp := fun vs H Q _ => ∃ (l : Addr) (us : List V) (ts : List Thq), vs = [.ref l] ∧ SqL K H l us ∧ Rwq K H us ts ∧ Vr [] (ts.map thOf) ∧ ts.length ≤ 60 ∧ (∀ t ∈ ts, t.2.1 ≠ "cut") ∧
  ∀ (D : Addr) (H' : Hp), Same H H' → H D = none → H' D = some (.dK (loadsD (envOf [] (ts.map thOf)))) → Q (.ref D) H'
end Mb
namespace Mb
open PySem L2
/-! ### the steep row -/
structure N5 (R B P Ln Wt : Addr) : Prop where
  rb : R ≠ B
  rp : R ≠ P
  rl : R ≠ Ln
  rw : R ≠ Wt
  bp : B ≠ P
  bl : B ≠ Ln
  bw : B ≠ Wt
  pl : P ≠ Ln
  pw : P ≠ Wt
  lw : Ln ≠ Wt
structure Hp5 (H H' : Hp) (p R B P Ln Wt : Addr) (us : List V) (pts lns : List Str) (L : Env) : Prop where
  bt : But p H H'
  eR : H' R = some (.lst us)
  eB : H' B = some (.dK [(.inr "point", .ref P), (.inr "line", .ref Ln)])
  eP : H' P = some (.lst (pts.map V.str))
  eL : H' Ln = some (.lst (lns.map V.str))
  eW : H' Wt = some (.dK (loadsD L))
  n : N5 R B P Ln Wt
  np : R ≠ p ∧ B ≠ p ∧ P ≠ p ∧ Ln ≠ p ∧ Wt ≠ p
  fr : H R = none ∧ H B = none ∧ H P = none ∧ H Ln = none ∧ H Wt = none
section
variable {H H' H2 : Hp} {p R B P Ln Wt : Addr} {us : List V} {pts lns : List Str} {L : Env}
theorem Hp5.but (h : Hp5 H H' p R B P Ln Wt us pts lns L) (k : But p H' H2) : Hp5 H H2 p R B P Ln Wt us pts lns L :=
  ⟨h.bt.trans k, k _ _ h.np.1 h.eR, k _ _ h.np.2.1 h.eB, k _ _ h.np.2.2.1 h.eP, k _ _ h.np.2.2.2.1 h.eL, k _ _ h.np.2.2.2.2 h.eW, h.n, h.np, h.fr⟩
theorem Hp5.same (h : Hp5 H H' p R B P Ln Wt us pts lns L) (k : Same H' H2) : Hp5 H H2 p R B P Ln Wt us pts lns L := h.but (But.same k)
theorem Hp5.setR (h : Hp5 H H' p R B P Ln Wt us pts lns L) (us2 : List V) : Hp5 H (upd H' R (.lst us2)) p R B P Ln Wt us2 pts lns L :=
  ⟨but_updR h.bt h.fr.1, upd_same, by rw [upd_ne h.n.rb.symm]; exact h.eB, by rw [upd_ne h.n.rp.symm]; exact h.eP, by rw [upd_ne h.n.rl.symm]; exact h.eL, by rw [upd_ne h.n.rw.symm]; exact h.eW, h.n, h.np, h.fr⟩
theorem Hp5.setP (h : Hp5 H H' p R B P Ln Wt us pts lns L) (z : Str) : Hp5 H (upd H' P (.lst (pts.map V.str ++ [V.str z]))) p R B P Ln Wt us (pts ++ [z]) lns L :=
  ⟨but_updR h.bt h.fr.2.2.1, by rw [upd_ne h.n.rp]; exact h.eR, by rw [upd_ne h.n.bp]; exact h.eB, by rw [List.map_append]; exact upd_same, by rw [upd_ne h.n.pl.symm]; exact h.eL, by rw [upd_ne h.n.pw.symm]; exact h.eW, h.n, h.np, h.fr⟩
theorem Hp5.setL (h : Hp5 H H' p R B P Ln Wt us pts lns L) (z : Str) : Hp5 H (upd H' Ln (.lst (lns.map V.str ++ [V.str z]))) p R B P Ln Wt us pts (lns ++ [z]) L :=
  ⟨but_updR h.bt h.fr.2.2.2.1, by rw [upd_ne h.n.rl]; exact h.eR, by rw [upd_ne h.n.bl]; exact h.eB, by rw [upd_ne h.n.pl]; exact h.eP, by rw [List.map_append]; exact upd_same, by rw [upd_ne h.n.lw.symm]; exact h.eW, h.n, h.np, h.fr⟩
theorem Hp5.setW (h : Hp5 H H' p R B P Ln Wt us pts lns L) (L2 : Env) : Hp5 H (upd H' Wt (.dK (loadsD L2))) p R B P Ln Wt us pts lns L2 :=
  ⟨but_updR h.bt h.fr.2.2.2.2, by rw [upd_ne h.n.rw]; exact h.eR, by rw [upd_ne h.n.bw]; exact h.eB, by rw [upd_ne h.n.pw]; exact h.eP, by rw [upd_ne h.n.lw]; exact h.eL, upd_same, h.n, h.np, h.fr⟩
end
theorem cut_neg {ns : List Str} {k : Nat} (hk : 0 < k) : cutV (ns.map V.str) (some (-(k : Int))) none = (ns.drop (ns.length - k)).map V.str := by
  unfold cutV
  have e1 : HT.sIx (ns.map V.str).length 0 (some (-(k : Int))) = ns.length - k := by
    unfold HT.sIx
    dsimp only
    rw [if_pos (by omega), List.length_map]
    omega
  have e2 : HT.sIx (ns.map V.str).length (ns.map V.str).length none = (ns.map V.str).length := rfl
  rw [e1, e2, List.map_drop, List.length_map, List.take_of_length_le (by rw [List.length_drop, List.length_map]; exact Nat.le_refl _)]
theorem nm6_sub {pts lns frs pts' lns' : List Str} {L : Env} (h : Nm6 pts lns frs L) (a : ∀ z ∈ pts', z ∈ pts) (b : ∀ z ∈ lns', z ∈ lns) : Nm6 pts' lns' [] L := ⟨fun z hz => h.p z (a z hz), fun z hz => h.l z (b z hz), fun _ h => nomatch h⟩
/-- the j-th thing stands for a free point -/
def FreeAt (ts : List Thq) (hd : Nat) : Prop := ∀ (j : Nat) (t : Thq), ts[j]? = some t → j < hd → t.2.1 = "free"
def HungAt (ts : List Thq) (hd : Nat) : Prop := ∀ (j : Nat) (t : Thq), ts[j]? = some t → hd ≤ j → t.2.1 ≠ "free"
theorem frN_at : ∀ {ts : List Thq} {hd : Nat}, HungAt ts hd → frN ts ≤ hd
  | [], _, _ => Nat.zero_le _
  | t :: r, hd, h => by
    rw [frQ_N]
    unfold frQ
    rw [List.filter_cons]
    have ih := fun {hd'} (h' : HungAt r hd') => frN_at h'
    cases hd with
    | zero =>
      have h0 := h 0 t rfl (Nat.le_refl _)
      rw [if_neg (by unfold freeQ; simpa using h0)]
      have := ih (hd' := 0) fun j u hj _ => h (j + 1) u hj (Nat.zero_le _)
      rw [frQ_N] at this
      exact this
    | succ n =>
      have := ih (hd' := n) fun j u hj hl => h (j + 1) u hj (by omega)
      rw [frQ_N] at this
      unfold frQ at this
      split
      · rw [List.length_cons]; omega
      · omega
def spSteepT (K : PySem.W.Frag) : Sp := fun vs H Q _ => ∃ (p : Addr) (b : Int) (hd : Nat) (most : Nat), vs = [.ref p, .int (hd : Int), .int (most : Int)] ∧ Pl H p b ∧ b ≤ 1200000 ∧ 1 ≤ hd ∧ hd ≤ 5 ∧ 2 ≤ most ∧ most ≤ 40 ∧
  ∀ (l : Addr) (us : List V) (ts : List Thq) (b' : Int) (H' : Hp), But p H H' → Pl H' p b' → b' ≤ b + 10000 → H l = none → H' l = some (.lst us) → Rwq K H' us ts → Vp (most : Int) [] ts → frN ts ≤ hd → hd + 4 ≤ ts.length → ts.length ≤ 60 → Q (.ref l) H'
/-- a free point's name among the first of a row: a point of weight 1 -/
theorem free_env : ∀ {ts : List Thq} {L : Env} {W : Int}, Vp W L ts → ∀ t ∈ ts, t.2.1 = "free" → wtE (envOf L (ts.map thOf)) t.1 = 1 ∧ srtE (envOf L (ts.map thOf)) t.1 = "point" ∧ t.1 ∈ nmsE (envOf L (ts.map thOf)) := by
  intro ts
  induction ts with
  | nil => intro L W _ t ht; cases ht
  | cons u r ih =>
    intro L W hv t ht e
    obtain ⟨⟨n1, n2, n3, n4, n5, n6⟩, h2⟩ := hv
    have ee : envOf L ((u :: r).map thOf) = envOf (envStep L (thOf u)) (r.map thOf) := rfl
    rw [ee]
    rcases List.mem_cons.mp ht with rfl | ht
    · have keep : ∀ {r : List Thq} {L : Env} {W : Int}, Vp W L r → ∀ z ∈ nmsE L, wtE (envOf L (r.map thOf)) z = wtE L z ∧ srtE (envOf L (r.map thOf)) z = srtE L z ∧ z ∈ nmsE (envOf L (r.map thOf)) := by
        intro r
        induction r with
        | nil => intro L W _ z hz; exact ⟨rfl, rfl, hz⟩
        | cons v r ih2 =>
          intro L W hv z hz
          have := ih2 hv.2 z (by rw [nms_step]; exact List.mem_append_left _ hz)
          have e3 : envOf L ((v :: r).map thOf) = envOf (envStep L (thOf v)) (r.map thOf) := rfl
          rw [e3]
          exact ⟨this.1.trans (wtP_old hz), this.2.1.trans (srtP_old hz), this.2.2⟩
      have hz : t.1 ∈ nmsE (envStep L (thOf t)) := by rw [nms_step]; exact List.mem_append_right _ (List.mem_singleton.mpr rfl)
      obtain ⟨a, b, c⟩ := keep h2 t.1 hz
      refine ⟨a.trans ?_, b.trans ?_, c⟩
      · refine (wtP_step (t := thOf t) n1).trans ?_
        show wOf t.2.1 t.2.2.1 L = 1
        rw [e, wOf_free]
      · refine (srt_step (t := thOf t) n1).trans ?_
        show sOf t.2.1 = "point"
        rw [e]
        decide +kernel
    · exact ih h2 t ht e
end Mb
namespace Mb
open PySem L2
/-! ### the long row -/
def fourW : List Str := ["middle", "turn", "next", "share"]
theorem four_w {x a c : Str} {L : Env} (hx : x ∈ fourW) : wOf x [a, c] L = wtE L a + wtE L c ∧ x ∈ figW ∧ x ≠ "meet" ∧ x ∉ lineW ∧ sOf x = "point" := by
  have all : ∀ y ∈ fourW, y ≠ "free" ∧ ¬ (y = "foot" ∨ y = "mirror") ∧ y ≠ "cut" ∧ ¬ (y = "round" ∨ y = "alike") ∧ y ∈ figW ∧ y ≠ "meet" ∧ y ∉ lineW ∧ sOf y = "point" := by decide +kernel
  obtain ⟨h1, h2, h3, h4, h5⟩ := all x hx
  refine ⟨?_, h5⟩
  unfold wOf
  rw [if_neg h1, if_neg h2, if_neg h3, if_neg h4]
  simp only [List.map_cons, List.map_nil, List.sum_cons, List.sum_nil]
  omega
/-- the things' weights by their places -/
def WtAt (ts : List Thq) (hd : Nat) : Prop := ∀ (i : Nat) (t : Thq), ts[i]? = some t → wtE (envOf [] (ts.map thOf)) t.1 = (if i < hd then 1 else (i : Int) - (hd : Int) + 2) ∧ srtE (envOf [] (ts.map thOf)) t.1 = "point" ∧ t.1 ∈ nmsE (envOf [] (ts.map thOf)) ∧ Sok t.1
theorem wtAt_snoc {ts : List Thq} {hd : Nat} {t : Thq} (h : WtAt ts hd) (n : t.1 ∉ nmsE (envOf [] (ts.map thOf))) (so : Sok t.1) (hs : sOf t.2.1 = "point") (hw : wOf t.2.1 t.2.2.1 (envOf [] (ts.map thOf)) = (if ts.length < hd then 1 else (ts.length : Int) - (hd : Int) + 2)) : WtAt (ts ++ [t]) hd := fun i u hi => by
  have e : envOf [] ((ts ++ [t]).map thOf) = envStep (envOf [] (ts.map thOf)) (thOf t) := by rw [List.map_append, envOf_append]; rfl
  rw [e]
  by_cases c : i < ts.length
  · rw [List.getElem?_append_left c] at hi
    obtain ⟨a, b, d, f⟩ := h i u hi
    exact ⟨by rw [wtP_old d]; exact a, by rw [srtP_old d]; exact b, by rw [nms_step]; exact List.mem_append_left _ d, f⟩
  · rw [List.getElem?_append_right (by omega)] at hi
    have c2 : i - ts.length = 0 := by
      have := (List.getElem?_eq_some_iff.mp hi).1
      simp at this
      omega
    rw [c2] at hi
    cases hi
    have ei : i = ts.length := by omega
    refine ⟨?_, ?_, by rw [nms_step]; exact List.mem_append_right _ (List.mem_singleton.mpr rfl), so⟩
    · refine (wtP_step (t := thOf t) n).trans ?_
      rw [ei]
      exact hw
    · exact (srt_step (t := thOf t) n).trans hs
theorem wtAt_fits {ts : List Thq} {hd i o : Nat} {t u : Thq} {x : Str} (h : WtAt ts hd) (hx : x ∈ fourW) (hi : ts[i]? = some t) (ho : ts[o]? = some u) : FitsE x [t.1, u.1] (envOf [] (ts.map thOf)) := by
  obtain ⟨_, f1, f2, f3, _⟩ := four_w (L := []) (a := "") (c := "") hx
  obtain ⟨_, b1, d1, e1⟩ := h i t hi
  obtain ⟨_, b2, d2, e2⟩ := h o u ho
  refine fits_two (pts := [t.1, u.1]) (lns := []) (frs := []) ⟨fun z hz => ?_, (fun _ h => nomatch h), (fun _ h => nomatch h)⟩ f1 (by rw [if_neg f2]; simp) (by rw [if_neg (fun z => z.elim f2 f3)]; simp)
  rcases List.mem_cons.mp hz with rfl | hz
  · exact ⟨⟨d1, e1⟩, b1⟩
  · rw [List.mem_singleton.mp hz]; exact ⟨⟨d2, e2⟩, b2⟩
theorem pick_at {K : PySem.W.Frag} {H : Hp} {us : List V} {ts : List Thq} (h : Rwq K H us ts) {i : Nat} (hi : i < ts.length) : ∃ (a m : Addr) (t : Thq), us[i]? = some (.ref a) ∧ ts[i]? = some t ∧ SqT K H a [.str t.1, .ref m] := by
  have ln := h.len
  have hv : us[i]? = some (us[i]'(by omega)) := List.getElem?_eq_getElem (by omega)
  obtain ⟨t, ht, a, m, e, ta, _⟩ := h.at hv
  exact ⟨a, m, t, by rw [hv, e], ht, ta⟩
def spLongT (K : PySem.W.Frag) : Sp := fun vs H Q _ => ∃ (p : Addr) (b : Int) (hd goal : Nat), vs = [.ref p, .int (hd : Int), .int (goal : Int)] ∧ Pl H p b ∧ b ≤ 1200000 ∧ 2 ≤ hd ∧ hd ≤ 5 ∧ 1 ≤ goal ∧ goal ≤ 24 ∧
  ∀ (l : Addr) (us : List V) (ts : List Thq) (b' : Int) (H' : Hp), But p H H' → Pl H' p b' → b' ≤ b + 10000 → H l = none → H' l = some (.lst us) → Rwq K H' us ts → Vp (goal : Int) [] ts → frN ts ≤ hd → ts.length = hd + goal - 1 → Q (.ref l) H'
end Mb
namespace Mb
open PySem L2
theorem goal_a {r : Int} {hd : Nat} (h0 : 0 ≤ r) (h1 : r < 4) (e : 2 + r = (hd : Int)) : ∃ A : Nat, atI [V.int 24, .int 24, .int 12, .int 8] ((hd : Int) - 2) = some (.int (A : Int)) ∧ 1 ≤ A ∧ A ≤ 24 ∧ Wmax A hd := by
  have wx : ∀ k : Fin 6, ∀ j : Fin 6, 1 ≤ k.val → 2 ≤ j.val → k.val ≤ j.val → ([24, 24, 12, 8] : List Int).getD (j.val - 2) 0 ≤ wideN k.val := by decide +kernel
  have go : ∀ j : Nat, 2 ≤ j → j < 6 → ∀ A : Nat, ([24, 24, 12, 8] : List Int).getD (j - 2) 0 = (A : Int) → Wmax A j := fun j hj hj6 A hA k k1 k2 => by
    have := wx ⟨k, by omega⟩ ⟨j, by omega⟩ k1 hj k2
    rw [← hA]
    exact this
  have c : hd = 2 ∨ hd = 3 ∨ hd = 4 ∨ hd = 5 := by omega
  rcases c with rfl | rfl | rfl | rfl
  · exact ⟨24, rfl, by decide, by decide, go 2 (by decide) (by decide) 24 rfl⟩
  · exact ⟨24, rfl, by decide, by decide, go 3 (by decide) (by decide) 24 rfl⟩
  · exact ⟨12, rfl, by decide, by decide, go 4 (by decide) (by decide) 12 rfl⟩
  · exact ⟨8, rfl, by decide, by decide, go 5 (by decide) (by decide) 8 rfl⟩
theorem most_s {r : Int} {hd : Nat} (h0 : 0 ≤ r) (h1 : r < 4) (e : 2 + r = (hd : Int)) : ∃ A : Nat, atI [V.int 14, .int 14, .int 8, .int 6] ((hd : Int) - 2) = some (.int (A : Int)) ∧ 6 ≤ A ∧ A ≤ 14 ∧ Wmax A hd := by
  have wx : ∀ k : Fin 6, ∀ j : Fin 6, 1 ≤ k.val → 2 ≤ j.val → k.val ≤ j.val → ([14, 14, 8, 6] : List Int).getD (j.val - 2) 0 ≤ wideN k.val := by decide +kernel
  have go : ∀ j : Nat, 2 ≤ j → j < 6 → ∀ A : Nat, ([14, 14, 8, 6] : List Int).getD (j - 2) 0 = (A : Int) → Wmax A j := fun j hj hj6 A hA k k1 k2 => by
    have := wx ⟨k, by omega⟩ ⟨j, by omega⟩ k1 hj k2
    rw [← hA]
    exact this
  have c : hd = 2 ∨ hd = 3 ∨ hd = 4 ∨ hd = 5 := by omega
  rcases c with rfl | rfl | rfl | rfl
  · exact ⟨14, rfl, by decide, by decide, go 2 (by decide) (by decide) 14 rfl⟩
  · exact ⟨14, rfl, by decide, by decide, go 3 (by decide) (by decide) 14 rfl⟩
  · exact ⟨8, rfl, by decide, by decide, go 4 (by decide) (by decide) 8 rfl⟩
  · exact ⟨6, rfl, by decide, by decide, go 5 (by decide) (by decide) 6 rfl⟩
theorem at_neg2 {xs : List V} {v : V} (h : 2 ≤ xs.length) (e : xs[xs.length - 2]? = some v) : atI xs (-2) = some v := by
  unfold atI ixN
  rw [if_neg (by decide), if_pos (by omega)]
  have : ((-2 : Int) + (xs.length : Int)).toNat = xs.length - 2 := by omega
  rw [this]
  exact e
end Mb
namespace Mb
open PySem L2
def top (i : Nat) : Stmt := PySem.Challenge.pw_movebook_k77_worked_heavy.main.body.getD i (.Pass ⟨0, 0, 0, 0⟩)
abbrev s_sort_of : Stmt := top 8
theorem sc_sort_of : FnScope ["making"] ["making"] (defScope s_sort_of) := ⟨rfl, rfl, rfl, by decide +kernel, rfl, by decide +kernel, by decide +kernel⟩
abbrev s_wanted : Stmt := top 9
theorem sc_wanted : FnScope ["making"] ["making"] (defScope s_wanted) := ⟨rfl, rfl, rfl, by decide +kernel, rfl, by decide +kernel, by decide +kernel⟩
abbrev s_grounds : Stmt := top 10
theorem sc_grounds : FnScope ["making"] ["making"] (defScope s_grounds) := ⟨rfl, rfl, rfl, by decide +kernel, rfl, by decide +kernel, by decide +kernel⟩
abbrev s_weights : Stmt := top 12
theorem sc_weights : FnScope ["row", "sorts", "weighed", "name", "making"] ["row"] (defScope s_weights) := ⟨rfl, rfl, rfl, by decide +kernel, rfl, by decide +kernel, by decide +kernel⟩
abbrev s_beneath : Stmt := top 13
theorem sc_beneath : FnScope ["row", "name", "found", "other", "making", "ground"] ["row", "name"] (defScope s_beneath) := ⟨rfl, rfl, rfl, by decide +kernel, rfl, by decide +kernel, by decide +kernel⟩
abbrev s_refuse_missing : Stmt := top 14
theorem sc_refuse_missing : FnScope ["row", "name", "other", "making"] ["row", "name"] (defScope s_refuse_missing) := ⟨rfl, rfl, rfl, by decide +kernel, rfl, by decide +kernel, by decide +kernel⟩
abbrev s_weight : Stmt := top 15
theorem sc_weight : FnScope ["making", "sorts", "weighed", "word", "names", "loads", "name"] ["making", "sorts", "weighed"] (defScope s_weight) := ⟨rfl, rfl, rfl, by decide +kernel, rfl, by decide +kernel, by decide +kernel⟩
abbrev s_enter : Stmt := top 16
theorem sc_enter : FnScope ["name", "making", "sorts", "weighed"] ["name", "making", "sorts", "weighed"] (defScope s_enter) := ⟨rfl, rfl, rfl, by decide +kernel, rfl, by decide +kernel, by decide +kernel⟩
abbrev s_added : Stmt := top 18
theorem sc_added : FnScope ["form", "other"] ["form", "other"] (defScope s_added) := ⟨rfl, rfl, rfl, by decide +kernel, rfl, by decide +kernel, by decide +kernel⟩
abbrev s_taken : Stmt := top 19
theorem sc_taken : FnScope ["form", "other"] ["form", "other"] (defScope s_taken) := ⟨rfl, rfl, rfl, by decide +kernel, rfl, by decide +kernel, by decide +kernel⟩
abbrev s_scaled : Stmt := top 20
theorem sc_scaled : FnScope ["form", "number", "powers", "one"] ["form", "number"] (defScope s_scaled) := ⟨rfl, rfl, rfl, by decide +kernel, rfl, by decide +kernel, by decide +kernel⟩
abbrev s_multiplied : Stmt := top 21
theorem sc_multiplied : FnScope ["form", "other", "base", "right", "numbers", "key", "one", "other_key", "two", "many"] ["form", "other"] (defScope s_multiplied) := ⟨rfl, rfl, rfl, by decide +kernel, rfl, by decide +kernel, by decide +kernel⟩
abbrev s_summed : Stmt := top 22
theorem sc_summed : FnScope ["terms", "numbers", "powers", "number"] ["terms"] (defScope s_summed) := ⟨rfl, rfl, rfl, by decide +kernel, rfl, by decide +kernel, by decide +kernel⟩
abbrev s_greatest_power : Stmt := top 23
theorem sc_greatest_power : FnScope ["form", "powers", "number"] ["form"] (defScope s_greatest_power) := ⟨rfl, rfl, rfl, by decide +kernel, rfl, by decide +kernel, by decide +kernel⟩
abbrev s_packed : Stmt := top 24
theorem sc_packed : FnScope ["form", "base", "powers", "number"] ["form", "base"] (defScope s_packed) := ⟨rfl, rfl, rfl, by decide +kernel, rfl, by decide +kernel, by decide +kernel⟩
abbrev s_joined : Stmt := top 25
theorem sc_joined : FnScope ["powers", "base", "key", "power"] ["powers", "base"] (defScope s_joined) := ⟨rfl, rfl, rfl, by decide +kernel, rfl, by decide +kernel, by decide +kernel⟩
abbrev s_unpacked : Stmt := top 26
theorem sc_unpacked : FnScope ["key", "base", "many", "powers", "at"] ["key", "base", "many"] (defScope s_unpacked) := ⟨rfl, rfl, rfl, by decide +kernel, rfl, by decide +kernel, by decide +kernel⟩
abbrev s_free_at : Stmt := top 28
theorem sc_free_at : FnScope ["number", "many", "one"] ["number", "many"] (defScope s_free_at) := ⟨rfl, rfl, rfl, by decide +kernel, rfl, by decide +kernel, by decide +kernel⟩
abbrev s_unknown : Stmt := top 29
theorem sc_unknown : FnScope ["at", "many"] ["at", "many"] (defScope s_unknown) := ⟨rfl, rfl, rfl, by decide +kernel, rfl, by decide +kernel, by decide +kernel⟩
abbrev s_figure_forms : Stmt := top 30
theorem sc_figure_forms : FnScope ["making", "one", "other"] ["making", "one", "other"] (defScope s_figure_forms) := ⟨rfl, rfl, rfl, by decide +kernel, rfl, by decide +kernel, by decide +kernel⟩
abbrev s_shared_out : Stmt := top 31
theorem sc_shared_out : FnScope ["p", "q", "t", "top", "bottom", "x", "y"] ["p", "q", "t"] (defScope s_shared_out) := ⟨rfl, rfl, rfl, by decide +kernel, rfl, by decide +kernel, by decide +kernel⟩
abbrev s_turned_about : Stmt := top 32
theorem sc_turned_about : FnScope ["p", "q", "x", "y"] ["p", "q"] (defScope s_turned_about) := ⟨rfl, rfl, rfl, by decide +kernel, rfl, by decide +kernel, by decide +kernel⟩
abbrev s_toward : Stmt := top 33
theorem sc_toward : FnScope ["p", "line", "times", "a", "b", "c", "length", "short", "x", "y"] ["p", "line", "times"] (defScope s_toward) := ⟨rfl, rfl, rfl, by decide +kernel, rfl, by decide +kernel, by decide +kernel⟩
abbrev s_crossed : Stmt := top 34
theorem sc_crossed : FnScope ["one", "other"] ["one", "other"] (defScope s_crossed) := ⟨rfl, rfl, rfl, by decide +kernel, rfl, by decide +kernel, by decide +kernel⟩
abbrev s_cross : Stmt := top 35
theorem sc_cross : FnScope ["one", "other", "at", "to"] ["one", "other", "at", "to"] (defScope s_cross) := ⟨rfl, rfl, rfl, by decide +kernel, rfl, by decide +kernel, by decide +kernel⟩
abbrev s_line_at : Stmt := top 36
theorem sc_line_at : FnScope ["p", "a", "b"] ["p", "a", "b"] (defScope s_line_at) := ⟨rfl, rfl, rfl, by decide +kernel, rfl, by decide +kernel, by decide +kernel⟩
abbrev s_hinge_of_line : Stmt := top 37
theorem sc_hinge_of_line : FnScope ["line"] ["line"] (defScope s_hinge_of_line) := ⟨rfl, rfl, rfl, by decide +kernel, rfl, by decide +kernel, by decide +kernel⟩
abbrev s_squared : Stmt := top 38
theorem sc_squared : FnScope ["form"] ["form"] (defScope s_squared) := ⟨rfl, rfl, rfl, by decide +kernel, rfl, by decide +kernel, by decide +kernel⟩
abbrev s_worked : Stmt := top 41
theorem sc_worked : FnScope ["row", "name", "own"] ["row", "name"] (defScope s_worked) := ⟨rfl, rfl, rfl, by decide +kernel, rfl, by decide +kernel, by decide +kernel⟩
abbrev s_rooted_in : Stmt := top 42
theorem sc_rooted_in : FnScope ["row", "name", "names", "other", "making"] ["row", "name"] (defScope s_rooted_in) := ⟨rfl, rfl, rfl, by decide +kernel, rfl, by decide +kernel, by decide +kernel⟩
abbrev s_frees : Stmt := top 43
theorem sc_frees : FnScope ["own", "name", "making"] ["own"] (defScope s_frees) := ⟨rfl, rfl, rfl, by decide +kernel, rfl, by decide +kernel, by decide +kernel⟩
abbrev s_asked : Stmt := top 44
theorem sc_asked : FnScope ["row", "name", "sorts", "own", "other", "making"] ["row", "name", "sorts"] (defScope s_asked) := ⟨rfl, rfl, rfl, by decide +kernel, rfl, by decide +kernel, by decide +kernel⟩
abbrev s_unknowns : Stmt := top 45
theorem sc_unknowns : FnScope ["own"] ["own"] (defScope s_unknowns) := ⟨rfl, rfl, rfl, by decide +kernel, rfl, by decide +kernel, by decide +kernel⟩
abbrev s_forms_of : Stmt := top 46
theorem sc_forms_of : FnScope ["own", "many", "order", "forms", "name", "making", "one", "other", "ground"] ["own"] (defScope s_forms_of) := ⟨rfl, rfl, rfl, by decide +kernel, rfl, by decide +kernel, by decide +kernel⟩
abbrev s_pool : Stmt := top 48
theorem sc_pool : FnScope ["_law_script", "_law_at", "_law_cell", "_law_digits"] ["_law_script", "_law_at"] (defScope s_pool) := ⟨rfl, rfl, rfl, by decide +kernel, rfl, by decide +kernel, by decide +kernel⟩
abbrev s_take : Stmt := top 49
theorem sc_take : FnScope ["_law_pool_here", "_law_wide", "_law_found", "_law_seed"] ["_law_pool_here", "_law_wide"] (defScope s_take) := ⟨rfl, rfl, rfl, by decide +kernel, rfl, by decide +kernel, by decide +kernel⟩
abbrev s_gcd : Stmt := top 50
theorem sc_gcd : FnScope ["_law_one", "_law_other"] ["_law_one", "_law_other"] (defScope s_gcd) := ⟨rfl, rfl, rfl, by decide +kernel, rfl, by decide +kernel, by decide +kernel⟩
abbrev s_low : Stmt := top 51
theorem sc_low : FnScope ["_law_top", "_law_bottom", "_law_most"] ["_law_top", "_law_bottom"] (defScope s_low) := ⟨rfl, rfl, rfl, by decide +kernel, rfl, by decide +kernel, by decide +kernel⟩
abbrev s_whole : Stmt := top 52
theorem sc_whole : FnScope ["_law_found"] ["_law_found"] (defScope s_whole) := ⟨rfl, rfl, rfl, by decide +kernel, rfl, by decide +kernel, by decide +kernel⟩
abbrev s_frac : Stmt := top 53
theorem sc_frac : FnScope ["_law_pool_here", "_law_way", "_law_edge", "_law_top", "_law_bottom"] ["_law_pool_here"] (defScope s_frac) := ⟨rfl, rfl, rfl, by decide +kernel, rfl, by decide +kernel, by decide +kernel⟩
abbrev s_place : Stmt := top 54
theorem sc_place : FnScope ["_law_pool_here", "_law_x"] ["_law_pool_here"] (defScope s_place) := ⟨rfl, rfl, rfl, by decide +kernel, rfl, by decide +kernel, by decide +kernel⟩
abbrev s_name : Stmt := top 55
theorem sc_name : FnScope ["_law_pool_here", "_law_had", "_law_words", "_law_name_here", "_law_k"] ["_law_pool_here", "_law_had"] (defScope s_name) := ⟨rfl, rfl, rfl, by decide +kernel, rfl, by decide +kernel, by decide +kernel⟩
abbrev s_l_grounds : Stmt := top 56
theorem sc_l_grounds : FnScope ["_law_making"] ["_law_making"] (defScope s_l_grounds) := ⟨rfl, rfl, rfl, by decide +kernel, rfl, by decide +kernel, by decide +kernel⟩
abbrev s_sort : Stmt := top 57
theorem sc_sort : FnScope ["_law_making"] ["_law_making"] (defScope s_sort) := ⟨rfl, rfl, rfl, by decide +kernel, rfl, by decide +kernel, by decide +kernel⟩
abbrev s_l_weight : Stmt := top 58
theorem sc_l_weight : FnScope ["_law_making", "_law_sorts", "_law_heavy_here", "_law_each", "_law_name_here"] ["_law_making", "_law_sorts", "_law_heavy_here"] (defScope s_l_weight) := ⟨rfl, rfl, rfl, by decide +kernel, rfl, by decide +kernel, by decide +kernel⟩
abbrev s_form : Stmt := top 59
theorem sc_form : FnScope ["_law_found", "_law_many", "_law_k", "_law_term", "_law_power_here"] ["_law_found", "_law_many"] (defScope s_form) := ⟨rfl, rfl, rfl, by decide +kernel, rfl, by decide +kernel, by decide +kernel⟩
abbrev s_power : Stmt := top 60
theorem sc_power : FnScope ["_law_number", "_law_count", "_law_total", "_law_k"] ["_law_number", "_law_count"] (defScope s_power) := ⟨rfl, rfl, rfl, by decide +kernel, rfl, by decide +kernel, by decide +kernel⟩
abbrev s_worth : Stmt := top 61
theorem sc_worth : FnScope ["_law_form_here", "_law_numbers", "_law_most", "_law_powers", "_law_number", "_law_k", "_law_top", "_law_part_here", "_law_bottom"] ["_law_form_here", "_law_numbers"] (defScope s_worth) := ⟨rfl, rfl, rfl, by decide +kernel, rfl, by decide +kernel, by decide +kernel⟩
abbrev s_two : Stmt := top 62
theorem sc_two : FnScope ["_law_pool_here", "_law_names", "_law_at", "_law_other"] ["_law_pool_here", "_law_names"] (defScope s_two) := ⟨rfl, rfl, rfl, by decide +kernel, rfl, by decide +kernel, by decide +kernel⟩
abbrev s_hung : Stmt := top 63
theorem sc_hung : FnScope ["_law_pool_here", "_law_points", "_law_lines", "_law_way", "_law_p", "_law_q", "_law_line", "_law_second"] ["_law_pool_here", "_law_points", "_law_lines"] (defScope s_hung) := ⟨rfl, rfl, rfl, by decide +kernel, rfl, by decide +kernel, by decide +kernel⟩
abbrev s_part : Stmt := top 64
theorem sc_part : FnScope ["_law_row", "_law_name_here", "_law_wanted", "_law_part_here", "_law_one", "_law_making", "_law_ground"] ["_law_row", "_law_name_here"] (defScope s_part) := ⟨rfl, rfl, rfl, by decide +kernel, rfl, by decide +kernel, by decide +kernel⟩
abbrev s_made : Stmt := top 65
theorem sc_made : FnScope ["_law_making", "_law_got_here", "_law_one", "_law_two_here", "_law_x", "_law_y", "_law_w", "_law_u", "_law_v", "_law_z", "_law_word", "_law_a", "_law_b", "_law_size", "_law_left", "_law_aside", "_law_up", "_law_top", "_law_bottom"] ["_law_making", "_law_got_here"] (defScope s_made) := ⟨rfl, rfl, rfl, by decide +kernel, rfl, by decide +kernel, by decide +kernel⟩
abbrev s_got : Stmt := top 66
theorem sc_got : FnScope ["_law_part_here", "_law_spots", "_law_got_here", "_law_name_here", "_law_making", "_law_x", "_law_y"] ["_law_part_here", "_law_spots"] (defScope s_got) := ⟨rfl, rfl, rfl, by decide +kernel, rfl, by decide +kernel, by decide +kernel⟩
abbrev s_l_spot : Stmt := top 67
theorem sc_l_spot : FnScope ["_law_pool_here", "_law_had", "_law_way", "_law_x", "_law_y", "_law_u", "_law_v"] ["_law_pool_here", "_law_had"] (defScope s_l_spot) := ⟨rfl, rfl, rfl, by decide +kernel, rfl, by decide +kernel, by decide +kernel⟩
abbrev s_heavy : Stmt := top 68
theorem sc_heavy : FnScope ["_law_part_here", "_law_sorts", "_law_heavy_here", "_law_name_here", "_law_making"] ["_law_part_here"] (defScope s_heavy) := ⟨rfl, rfl, rfl, by decide +kernel, rfl, by decide +kernel, by decide +kernel⟩
abbrev s_fit : Stmt := top 69
theorem sc_fit : FnScope ["_law_found", "_law_many", "_law_line", "_law_numbers", "_law_due", "_law_form_here", "_law_told", "_law_i", "_law_j", "_law_one"] ["_law_found", "_law_many", "_law_line", "_law_numbers", "_law_due"] (defScope s_fit) := ⟨rfl, rfl, rfl, by decide +kernel, rfl, by decide +kernel, by decide +kernel⟩
abbrev s_look : Stmt := top 70
theorem sc_look : FnScope ["_law_pool_here", "_law_row", "_law_name_here", "_law_part_here", "_law_frees", "_law_one", "_law_making", "_law_many", "_law_handed", "_law_found", "_law_turn", "_law_spots", "_law_had", "_law_k", "_law_numbers", "_law_x", "_law_y", "_law_line"] ["_law_pool_here", "_law_row", "_law_name_here"] (defScope s_look) := ⟨rfl, rfl, rfl, by decide +kernel, rfl, by decide +kernel, by decide +kernel⟩
abbrev s_steep : Stmt := top 71
theorem sc_steep : FnScope ["_law_pool_here", "_law_head", "_law_most", "_law_row", "_law_by", "_law_heavy_here", "_law_k", "_law_name_here", "_law_x", "_law_making"] ["_law_pool_here", "_law_head", "_law_most"] (defScope s_steep) := ⟨rfl, rfl, rfl, by decide +kernel, rfl, by decide +kernel, by decide +kernel⟩
abbrev s_long : Stmt := top 72
theorem sc_long : FnScope ["_law_pool_here", "_law_head", "_law_goal", "_law_row", "_law_k", "_law_name_here", "_law_one", "_law_making", "_law_x", "_law_other"] ["_law_pool_here", "_law_head", "_law_goal"] (defScope s_long) := ⟨rfl, rfl, rfl, by decide +kernel, rfl, by decide +kernel, by decide +kernel⟩
abbrev s_law : Stmt := top 73
theorem sc_law : FnScope ["_law_script", "_law_pool_here", "_law_way", "_law_head", "_law_row", "_law_heavy_here", "_law_top", "_law_name_here", "_law_making"] ["_law_script"] (defScope s_law) := ⟨rfl, rfl, rfl, by decide +kernel, rfl, by decide +kernel, by decide +kernel⟩
/-! ### the steps of a reading, taken by a word of one's own -/
local macro_rules | `(tactic| walk_at "sm") => `(tactic| first
  | assumption
  | ((with_reducible refine Mb.Sm.mul (m := ?mm) (n := ?nn) ?ga ?gb); (case ga => walk_at "sm"); (case gb => walk_at "sm"))
  | ((with_reducible refine Mb.Sm.addm (m := ?mm) (n := ?nn) ?ga ?gb); (case ga => walk_at "sm"); (case gb => walk_at "sm"))
  | ((with_reducible refine Mb.Sm.subm (m := ?mm) (n := ?nn) ?ga ?gb); (case ga => walk_at "sm"); (case gb => walk_at "sm"))
  | ((with_reducible refine Mb.Sm.neg (n := ?nn) ?ga); (case ga => walk_at "sm"))
  | exact Mb.Sm.lit (by decide)
  | exact Mb.Sm.lit2 (by decide +kernel))
local macro_rules | `(tactic| walk_at "c") => `(tactic| first
  | assumption
  | exact ⟨by decide, by decide, by decide⟩
  | (show (0 : Int) < _; omega)
  | exact Mb.Sm.cdiv (n := 64) (by decide) (by decide)
  | exact Mb.Sm.cmul (by walk_at "sm") (by walk_at "sm"))
local macro_rules | `(tactic| walk_at "st") => `(tactic| first
  | ((with_reducible refine Mb.r_var (v := ?vv) ?hv ?_); (case hv => rfl))
  | with_reducible refine Mb.r_c ?_
  | with_reducible refine Mb.r_op ?_
  | with_reducible refine Mb.r_un ?_
  | with_reducible refine Mb.r_i0 ?_
  | with_reducible refine Mb.r_u ?_
  | with_reducible refine Mb.r_eqI ?_
  | with_reducible refine Mb.r_neI ?_
  | with_reducible refine Mb.r_eqB ?_
  | with_reducible refine Mb.r_eqS ?_
  | with_reducible refine Mb.r_cb ?_
  | with_reducible refine Mb.r_bits ?_
  | with_reducible refine Mb.r_int ?_
  | with_reducible refine Mb.r_nil ?_
  | with_reducible refine Mb.r_cons ?_
  | with_reducible refine Mb.r_tup ?_
  | with_reducible refine Mb.r_lst ?_
  | with_reducible refine Mb.r_call ?_
  | with_reducible refine Mb.r_seqA ?_
  | with_reducible refine Mb.r_seqD ?_
  | with_reducible refine Mb.r_seqP ?_
  | with_reducible refine Mb.r_next ?_
  | ((with_reducible show Ends.nx _ _ _); (with_reducible refine Mb.r_nx ?_))
  | with_reducible refine Mb.r_asg ?_
  | ((with_reducible refine Mb.r_gname ?_); dsimp only [List.set])
  | with_reducible refine Mb.r_gsub ?_
  | with_reducible refine Mb.r_ret ?_
  | with_reducible refine Mb.r_drop ?_
  | with_reducible refine Mb.r_ifs ?_
  | with_reducible refine Mb.r_test ?_
  | with_reducible refine Mb.r_tB ?_
  | with_reducible refine Mb.r_bl ?_
  | (dsimp only; (with_reducible refine Mb.r_bl ?_))
  | with_reducible refine Mb.r_and ?_
  | with_reducible refine Mb.r_or ?_
  | with_reducible refine Mb.r_not ?_
  | with_reducible refine Mb.r_andV ?_
  | with_reducible refine Mb.r_orV ?_
  | with_reducible refine Mb.r_notV ?_
  | with_reducible refine Mb.r_par ?_
  | ((with_reducible refine Mb.r_two ?_); dsimp only [List.set])
  | ((with_reducible refine Mb.r_ixL (xs := ?xx) (v := ?vv) ?h1 ?h2 ?_); (case h1 => first | assumption | exact Mb.lstOf (by assumption)); (case h2 => rfl))
  | ((with_reducible refine Mb.r_ixT (xs := ?xx) (v := ?vv) ?h1 ?h2 ?_); (case h1 => first | assumption | exact Mb.tupOf (by assumption)); (case h2 => rfl))
  | ((with_reducible refine Mb.r_i ?c ?_); (case c => walk_at "c"))
  | with_reducible refine Mb.r_T ?_
  | with_reducible refine Mb.r_F ?_
  | with_reducible refine Mb.r_nT ?_
  | with_reducible refine Mb.r_nF ?_)
section
variable {P : Program} {w : World} {K : PySem.W.Frag} {mg : Str → Option Value} {base : Heap}
theorem ok_sort_of {A_WORDS : Addr} (g_WORDS : mg "WORDS" = some (.ref A_WORDS)) (W_WORDS : Wt K w A_WORDS) (F : Fn K mg "sort_of" s_sort_of) : Kn P w K mg base 1 "sort_of" ["making"] (spSort K) := by
  refine Mb.ofW ?_
  simp (discharger := with_unfolding_all
    refine F.kn sc_sort_of (fun vs H Q E h => ?_) (fun f cdv A outer s H vs Q E hr h => ?_) (fun _ _ _ _ _ _ us hl => match us, hl with | [_], _ => rfl)
    · obtain ⟨a, x, s, g, r, rfl, _⟩ := h
      rfl
    obtain ⟨a, x, so, g, r, rfl, hm, ht, q⟩ := h
    obtain ⟨t, u, kd, k1, k2⟩ := W_WORDS x so g ht
    refine ⟨_, (pss_one (ps_ret (pe_ix ix_tup (pe_ix ix_kdict (pe_glob (v := .ref A_WORDS) (by rfl) g_WORDS rfl) (pe_ix ix_tup (pv 0) pe_int (fun _ _ => rfl)) (fun _ _ => rfl)) pe_int (fun _ _ => rfl)))), ?_⟩
    show (_ : TS) _ [some (.ref a)] _
    repeat walk_at "st"
    refine r_ixT0 hm ?_
    refine ⟨A_WORDS, x, .ref t, rfl, rfl, kd, ?_⟩
    repeat walk_at "st"
    refine r_ixT0 (k1 _) ?_
    exact q
  ) only [↓Mb.dischW]
theorem ok_wanted {A_WORDS : Addr} (g_WORDS : mg "WORDS" = some (.ref A_WORDS)) (W_WORDS : Wt K w A_WORDS) (F : Fn K mg "wanted" s_wanted) : Kn P w K mg base 1 "wanted" ["making"] (spWanted K) := by
  refine Mb.ofW ?_
  simp (discharger := with_unfolding_all
    refine F.kn sc_wanted (fun vs H Q E h => ?_) (fun f cdv A outer s H vs Q E hr h => ?_) (fun _ _ _ _ _ _ us hl => match us, hl with | [_], _ => rfl)
    · obtain ⟨a, x, s, g, r, rfl, _⟩ := h
      rfl
    obtain ⟨a, x, so, g, r, rfl, hm, ht, q⟩ := h
    obtain ⟨t, u, kd, k1, k2⟩ := W_WORDS x so g ht
    refine ⟨_, (pss_one (ps_ret (pe_ix ix_tup (pe_ix ix_kdict (pe_glob (v := .ref A_WORDS) (by rfl) g_WORDS rfl) (pe_ix ix_tup (pv 0) pe_int (fun _ _ => rfl)) (fun _ _ => rfl)) pe_int (fun _ _ => rfl)))), ?_⟩
    show (_ : TS) _ [some (.ref a)] _
    repeat walk_at "st"
    refine r_ixT0 hm ?_
    refine ⟨A_WORDS, x, .ref t, rfl, rfl, kd, ?_⟩
    have k1' := k1 H
    repeat walk_at "st"
    exact q u (k2 H)
  ) only [↓Mb.dischW]
theorem ok_grounds (F : Fn K mg "grounds" s_grounds) (G_wanted : Kn P w K mg base 1 "wanted" ["making"] (spWanted K)) (z_len : mg "len" = none) (z_list : mg "list" = none) : Kn P w K mg base 2 "grounds" ["making"] (spGrounds K) := by
  refine Mb.ofW ?_
  simp (discharger := with_unfolding_all
    refine F.kn sc_grounds (fun vs H Q E h => ?_) (fun f cdv A outer s H vs Q E hr h => ?_) (fun _ _ _ _ _ _ us hl => match us, hl with | [_], _ => rfl)
    · obtain ⟨a, x, s, g, ns, r, rfl, _⟩ := h
      rfl
    obtain ⟨a, x, so, g, ns, r, rfl, hm, ht, hn, q⟩ := h
    refine ⟨_, (pss_one (ps_ret (pe_callTy call_list_of (by rfl) z_list (by decide +kernel) (pa_cons (pe_slice sl_tup (pv 0) (po_some pe_int) (po_some (pe_op op_add pe_int (pe_callB call_len_seq (by rfl) z_len (by decide +kernel) (pa_cons (pe_kn G_wanted (hr.mono (by decide)) (by rfl) (pa_cons (pv 0) pa_nil)) pa_nil))))) pa_nil)))), ?_⟩
    show (_ : TS) _ [some (.ref a)] _
    repeat walk_at "st"
    refine r_slR ?_
    repeat walk_at "st"
    refine r_partR ?_
    repeat walk_at "st"
    refine r_partR ?_
    repeat walk_at "st"
    refine ⟨a, x, so, g, _, rfl, hm, ht, fun u hu => ?_⟩
    repeat walk_at "st"
    refine ⟨u, _, rfl, .inr hu, ?_⟩
    repeat walk_at "st"
    refine ⟨a, _, rfl, hm, cut_part, fun p hp => ?_⟩
    rw [cut_names (by rw [List.length_map, List.length_map, hn])]
    repeat walk_at "st"
    have s1 := same_new hp (.tup (ns.map V.str))
    refine ⟨p, _, rfl, .inr (tupOf upd_same), fun l hl => ?_⟩
    have s2 := same_new hl (.lst (ns.map V.str))
    exact q l _ (s1.trans s2) (s1.free hl) upd_same
  ) only [↓Mb.dischW]
theorem ok_weight (F : Fn K mg "weight" s_weight) (G_grounds : Kn P w K mg base 2 "grounds" ["making"] (spGrounds K)) (z_sum : mg "sum" = none) : Kn P w K mg base 3 "weight" ["making", "sorts", "weighed"] (spWeight K) := by
  refine Mb.ofW ?_
  simp (discharger := with_unfolding_all
    refine F.kn sc_weight (fun vs H Q E h => ?_) (fun f cdv A outer s H vs Q E hr h => ?_) (fun _ _ _ _ _ _ us hl => match us, hl with | [_, _, _], _ => rfl)
    · obtain ⟨m, S, W, x, ns, L, rfl, _⟩ := h
      rfl
    obtain ⟨m, S, W, x, ns, L, rfl, ⟨r, tm, tl⟩, ⟨⟨so, g, tx, hn⟩, hz⟩, dc, q⟩ := h
    refine ⟨_, (pss_cons (ps_set (i := 3) sc_weight.nd rfl (.inl rfl) (pe_ix ix_tup (pv 0) pe_int (fun _ _ => rfl)))
      (pss_cons (ps_if (pt_cmpR op_eq (pv 3) pe_str (nomark _))
      (pss_one (ps_ret pe_int))
      pss_nil)
      (pss_cons (ps_set (i := 4) sc_weight.nd rfl (.inl rfl) (pe_kn G_grounds (hr.mono (by decide)) (by rfl) (pa_cons (pv 0) pa_nil)))
      (pss_cons (ps_setLc (i := 5) (own := [("name", 6)]) (g := gName 6) (by rfl) sc_weight.nd rfl rfl (sw_true rfl rfl rfl (by decide +kernel)) (pi_list (pv 4)) (blkOk_by (own := [("name", 6)]) (N := ["making", "sorts", "weighed", "word", "names", "loads", "name"]) (sc := (defScope s_weight)) (by decide +kernel)) (fun _ _ _ _ _ => pg_name (i := 6) sc_weight.nd rfl (.inl rfl)) (fun _ _ _ _ _ => pts_nil) (fun _ _ _ _ _ => (pe_dget (u1 hr.units) (pv 2) (pv 6) (fun _ _ => rfl))))
      (pss_cons (ps_if (pt_cmpR op_in_seq (pv 3) (pe_tup (pa_cons pe_str (pa_cons pe_str pa_nil))) (by rfl))
      (pss_one (ps_ret (pe_op op_add (pe_ix ix_list (pv 5) pe_int (fun _ _ => rfl)) (pe_op op_mulW pe_int (pe_ix ix_list (pv 5) pe_int (fun _ _ => rfl))))))
      pss_nil)
      (pss_cons (ps_if (PW.pt (pw_and (pt_cmpR op_eq (pv 3) pe_str (nomark _)) (pw_and1 (pt_cmpR op_eq (pe_dget (u1 hr.units) (pv 1) (pe_ix ix_list (pv 4) pe_int (fun _ _ => rfl)) (fun _ _ => rfl)) pe_str (nomark _)))))
      (pss_one (ps_ret (pe_op op_mulW pe_int (pe_callB (cr_sum (by rfl)) (by rfl) z_sum (by decide +kernel) (pa_cons (pv 5) pa_nil)))))
      pss_nil)
      (pss_cons (ps_if (pt_cmpR op_eq (pv 3) pe_str (nomark _))
      (pss_one (ps_ret (pe_op op_add (pe_op op_mulW pe_int (pe_ix ix_list (pv 5) pe_int (fun _ _ => rfl))) (pe_ix ix_list (pv 5) pe_int (fun _ _ => rfl)))))
      pss_nil)
      (pss_cons (ps_if (pt_cmpR op_in_seq (pv 3) (pe_tup (pa_cons pe_str (pa_cons pe_str pa_nil))) (by rfl))
      (pss_one (ps_ret (pe_op op_mulW pe_int (pe_callB (cr_sum (by rfl)) (by rfl) z_sum (by decide +kernel) (pa_cons (pv 5) pa_nil)))))
      pss_nil)
      (pss_one (ps_ret (pe_callB (cr_sum (by rfl)) (by rfl) z_sum (by decide +kernel) (pa_cons (pv 5) pa_nil)))))))))))), ?_⟩
    show (_ : TS) _ [some (.ref m), some (.ref S), some (.ref W), none, none, none, none] _
    repeat walk_at "st"
    refine r_ixT0 tm ?_
    repeat walk_at "st"
    refine r_seq ?_
    repeat walk_at "st"
    refine r_ite (fun c => ?_) (fun c => ?_)
    · repeat walk_at "st"
      rw [show wOf x ns L = 1 by unfold wOf; rw [if_pos c]] at q
      exact q _ (Same.refl H)
    repeat walk_at "st"
    refine ⟨m, x, so, g, ns, r, rfl, tm, tx, hn, fun l H1 s1 n1 e1 => ?_⟩
    have len : ns.length < 64 := by rw [hn]; exact few tx
    repeat walk_at "st"
    refine r_lcM ?_
    repeat walk_at "st"
    refine lc_map (fun v => match v with | .str z => .int (wtE L z) | _ => .non) (lstOf e1) (by rw [List.length_map]; omega) (fun _ => rfl) (fun i v H' hv g' R k => ?_) fun D H2 s2 n2 e2 => ?_
    · rw [List.getElem?_map] at hv
      obtain ⟨z, hz1, rfl⟩ := Option.map_eq_some_iff.mp hv
      refine r_dg ?_
      repeat walk_at "st"
      refine ⟨W, _, rfl, get_load (g' _ _ (s1 _ _ dc.w)) (hz z (List.mem_of_getElem? hz1)).1, ?_⟩
      exact k _ (Same.refl _)
    rw [List.map_map] at e2
    replace e2 : H2 D = some (.lst ((ns.map (wtE L)).map V.int)) := by rw [List.map_map]; exact e2
    have g2 := s1.trans s2
    replace dc := dc.same g2
    replace tm := g2.tp tm
    have d2 := s2 _ _ e1
    clear s2 s1 n2
    repeat walk_at "st"
    have hl := dc.light
    have wb := fun z => hl.wt z
    have two : x = "foot" ∨ x = "mirror" ∨ x = "cut" → ∃ a b, ns = [a, b] := fun h => pair_of (by rw [hn]; exact two_of tx (by rcases h with h | h | h <;> simp [h]))
    -- foot, mirror
    refine r_seq ?_
    repeat walk_at "st"
    refine ⟨sz rfl, fun l3 n3 => ?_⟩
    refine r_inS (zs := ["foot", "mirror"]) (tupOf upd_same) ?_
    have s3 := same_new n3 (.tup [V.str "foot", .str "mirror"])
    generalize upd H2 l3 (.tup [V.str "foot", .str "mirror"]) = H3 at *
    have g3 := g2.trans s3
    have e3 := s3 _ _ e2
    have d3 := s3 _ _ d2
    replace dc := dc.same s3
    repeat walk_at "st"
    refine r_ite (fun c1 => ?_) (fun c1 => ?_)
    · have c1' : x = "foot" ∨ x = "mirror" := by simpa using c1
      obtain ⟨a, b, rfl⟩ := two (c1'.elim .inl fun h => .inr (.inl h))
      have ha := wb a
      have hb := wb b
      repeat walk_at "st"
      refine ⟨_, _, rfl, rfl, cm_small (by omega) (by omega), ?_⟩
      repeat walk_at "st"
      rw [show wOf x [a, b] L = wtE L a + 2 * wtE L b by unfold wOf; rw [if_neg c, if_pos c1']; rfl] at q
      exact q _ g3
    have c1' : ¬ (x = "foot" ∨ x = "mirror") := by simpa using c1
    repeat walk_at "st"
    with_reducible refine r_cut (fun σ H' => σ = [some (.ref m), some (.ref S), some (.ref W), some (.str x), some (.ref l), some (.ref D), none] ∧ H' = H3 ∧ (x = "cut" → ¬ srtE L (ns.getD 0 "") = "circle")) ?U1 ?V1
    case V1 =>
      intro N J
      repeat walk_at "st"
      refine r_ite (fun c2 => ?_) (fun c2 => ?_)
      · obtain ⟨a, b, rfl⟩ := two (.inr (.inr c2))
        have ha := wb a
        have hb := wb b
        repeat walk_at "st"
        refine r_dg ?_
        repeat walk_at "st"
        refine ⟨S, _, rfl, get_sort dc.s (hz a (by simp)).1, ?_⟩
        repeat walk_at "st"
        refine r_ite (fun c3 => ?_) (fun c3 => ?_)
        · repeat walk_at "st"
          refine ⟨D, _, rfl, lstOf e3, ?_⟩
          repeat walk_at "st"
          have e : ([a, b].map (wtE L)).sum = wtE L a + wtE L b := by simp
          rw [e]
          refine ⟨_, _, rfl, rfl, cm_small (by omega) (by omega), ?_⟩
          repeat walk_at "st"
          rw [show wOf x [a, b] L = 5 * (wtE L a + wtE L b) by unfold wOf; rw [if_neg c, if_neg c1', if_pos c2]; exact if_pos c3] at q
          exact q _ g3
        · repeat walk_at "st"
          exact J _ _ ⟨rfl, rfl, fun _ => c3⟩
      · repeat walk_at "st"
        exact J _ _ ⟨rfl, rfl, fun h => absurd h c2⟩
    rintro σ Hx ⟨rfl, rfl, c2⟩
    refine r_seq ?_
    repeat walk_at "st"
    refine r_ite (fun c3 => ?_) (fun c3 => ?_)
    · obtain ⟨a, b, rfl⟩ := two (.inr (.inr c3))
      have ha := wb a
      have hb := wb b
      repeat walk_at "st"
      refine ⟨_, _, rfl, rfl, cm_small (by omega) (by omega), ?_⟩
      repeat walk_at "st"
      rw [show wOf x [a, b] L = 2 * wtE L a + wtE L b by unfold wOf; rw [if_neg c, if_neg c1', if_pos c3, if_neg (c2 c3)]; rfl] at q
      exact q _ g3
    repeat walk_at "st"
    obtain ⟨u0, u1'⟩ := sum_small hl ns
    refine r_seq ?_
    repeat walk_at "st"
    refine ⟨sz rfl, fun l4 n4 => ?_⟩
    refine r_inS (zs := ["round", "alike"]) (tupOf upd_same) ?_
    have s4 := same_new n4 (.tup [V.str "round", .str "alike"])
    generalize upd Hx l4 (.tup [V.str "round", .str "alike"]) = H4 at *
    have g4 := g3.trans s4
    have e4 := s4 _ _ e3
    repeat walk_at "st"
    refine r_ite (fun c4 => ?_) (fun c4 => ?_)
    · have c4' : x = "round" ∨ x = "alike" := by simpa using c4
      repeat walk_at "st"
      refine ⟨D, _, rfl, lstOf e4, ?_⟩
      repeat walk_at "st"
      refine ⟨_, _, rfl, rfl, cm_small (by omega) (by omega), ?_⟩
      repeat walk_at "st"
      rw [show wOf x ns L = 2 * (ns.map (wtE L)).sum by unfold wOf; rw [if_neg c, if_neg c1', if_neg c3, if_pos c4']] at q
      exact q _ g4
    have c4' : ¬ (x = "round" ∨ x = "alike") := by simpa using c4
    repeat walk_at "st"
    refine ⟨D, _, rfl, lstOf e4, ?_⟩
    rw [show wOf x ns L = (ns.map (wtE L)).sum by unfold wOf; rw [if_neg c, if_neg c1', if_neg c3, if_neg c4']] at q
    exact q _ g4
  ) only [↓Mb.dischW]
theorem ok_enter (F : Fn K mg "enter" s_enter) (G_weight : Kn P w K mg base 3 "weight" ["making", "sorts", "weighed"] (spWeight K)) (G_sort_of : Kn P w K mg base 1 "sort_of" ["making"] (spSort K)) : Kn P w K mg base 4 "enter" ["name", "making", "sorts", "weighed"] (spEnter K) := by
  refine Mb.ofW ?_
  simp (discharger := with_unfolding_all
    refine F.kn sc_enter (fun vs H Q E h => ?_) (fun f cdv A outer s H vs Q E hr h => ?_) (fun _ _ _ _ _ _ us hl => match us, hl with | [_, _, _, _], _ => rfl)
    · obtain ⟨m, S, W, z, x, ns, L, rfl, _⟩ := h
      rfl
    obtain ⟨m, S, W, z, x, ns, L, rfl, hm, ok, dc, nz, q⟩ := h
    have hm' := hm
    have ok' := ok
    obtain ⟨r, tm, tl⟩ := hm'
    obtain ⟨⟨so, g, tx, hn⟩, hz⟩ := ok'
    refine ⟨_, (pss_cons (ps_dput (u1 hr.units) (pv 3) (pv 0) (pe_kn G_weight (hr.mono (by decide)) (by rfl) (pa_cons (pv 1) (pa_cons (pv 2) (pa_cons (pv 3) pa_nil)))) (by rfl))
      (pss_one (ps_dput (u1 hr.units) (pv 2) (pv 0) (pe_kn G_sort_of (hr.mono (by decide)) (by rfl) (pa_cons (pv 1) pa_nil)) (by rfl)))), ?_⟩
    show (_ : TS) _ [some (.str z), some (.ref m), some (.ref S), some (.ref W)] _
    refine r_dputS ?_
    repeat walk_at "st"
    refine ⟨m, S, W, x, ns, L, rfl, hm, ok, dc, fun H1 s1 => ?_⟩
    have dc1 := dc.same s1
    repeat walk_at "st"
    refine ⟨W, _, rfl, DPut.k (k := .inr z) dc1.w (by unfold loadsD; rw [List.length_map]; exact Nat.lt_of_le_of_lt dc1.few (by decide)), ?_⟩
    rw [show putK (loadsD L) (.inr z) (V.int (wOf x ns L)) = loadsD (envStep L (z, x, ns)) from put_new nz rfl rfl]
    have k1 : Kp K H1 (upd H1 W (.dK (loadsD (envStep L (z, x, ns))))) := kp_dict dc1.w
    have neSW : S ≠ W := dc.ne
    have s2 : (upd H1 W (.dK (loadsD (envStep L (z, x, ns))))) S = some (.dK (sortsD L)) := by rw [upd_ne neSW]; exact dc1.s
    refine r_dput ?_
    repeat walk_at "st"
    refine ⟨m, x, so, g, _, rfl, k1 _ _ (s1.tp tm), tx, ?_⟩
    repeat walk_at "st"
    refine ⟨S, _, rfl, DPut.k (k := .inr z) s2 (by unfold sortsD; rw [List.length_map]; exact Nat.lt_of_le_of_lt dc1.few (by decide)), ?_⟩
    rw [show putK (sortsD L) (.inr z) (V.str so) = sortsD (envStep L (z, x, ns)) from put_new nz rfl (by rw [sOf_eq tx])]
    exact q _ (((Kp.same s1).trans k1).trans (kp_dict s2)) (fun b o h1 h2 hb => by rw [upd_ne h1, upd_ne h2]; exact s1 _ _ hb) upd_same (by rw [upd_ne (fun z => neSW z.symm)]; exact upd_same)
  ) only [↓Mb.dischW]
theorem ok_weights (F : Fn K mg "weights" s_weights) (G_enter : Kn P w K mg base 4 "enter" ["name", "making", "sorts", "weighed"] (spEnter K)) (z_list : mg "list" = none) : Kn P w K mg base 5 "weights" ["row"] (spWeights K) := by
  refine Mb.ofW ?_
  simp (discharger := with_unfolding_all
    refine F.kn sc_weights (fun vs H Q E h => ?_) (fun f cdv A outer s H vs Q E hr h => ?_) (fun _ _ _ _ _ _ us hl => match us, hl with | [_], _ => rfl)
    · obtain ⟨l, us, ts, rfl, _⟩ := h
      rfl
    obtain ⟨l, us, ts, rfl, hl, rw_, vr, hn, q⟩ := h
    refine ⟨_, (pss_cons (ps_set (i := 1) sc_weights.nd rfl (.inl rfl) pe_dnewK)
      (pss_cons (ps_set (i := 2) sc_weights.nd rfl (.inl rfl) pe_dnewK)
      (pss_cons (ps_for PassesOwn.never rfl (pi_list (pv 0)) (pg_tup (by rfl) (pgs_cons (pg_name (i := 3) sc_weights.nd rfl (.inl rfl)) (pgs_cons (pg_name (i := 4) sc_weights.nd rfl (.inl rfl)) pgs_nil)))
      (pss_one (ps_expr (pe_kn G_enter (hr.mono (by decide)) (by rfl) (pa_cons (pv 3) (pa_cons (pv 4) (pa_cons (pv 1) (pa_cons (pv 2) pa_nil))))))))
      (pss_one (ps_ret (pe_listVals (by rfl) (pv 2) (by rfl) z_list (by decide +kernel))))))), ?_⟩
    show (_ : TS) _ [some (.ref l), none, none, none, none] _
    repeat walk_at "st"
    refine fun S nS => ?_
    repeat walk_at "st"
    refine fun W nW => ?_
    have s1 := same_new nS (.dK [])
    have neSW : S ≠ W := fun z => by rw [z, upd_same] at nW; cases nW
    have s2 := same_new nW (.dK [])
    have eW : upd (upd H S (.dK [])) W (.dK []) W = some (.dK []) := upd_same
    have eS := s2 _ _ (upd_same : upd H S (.dK []) S = some (.dK []))
    have nW0 := s1.free nW
    have g0 := s1.trans s2
    generalize upd (upd H S (.dK [])) W (.dK []) = H0 at *
    clear nW s1 s2
    have ln := rw_.len
    repeat walk_at "st"
    with_reducible refine r_cut (fun σ H' => ∃ y1 y2, σ = [some (.ref l), some (.ref S), some (.ref W), y1, y2] ∧ Same H H' ∧ Dc H' S W (envOf [] ts)) ?U1 ?V1
    case V1 =>
      intro N J
      refine ⟨.ref l, rfl, l, rfl, ⟨us, g0.seq hl⟩, ?_⟩
      refine for_list (xs := us) (fun i σ H' => ∃ y1 y2, σ = [some (.ref l), some (.ref S), some (.ref W), y1, y2] ∧ Same H H' ∧ Dc H' S W (envOf [] (ts.take i))) ?_ ?_ ?_ ?_
      · exact ⟨_, _, rfl, g0, ⟨eS, eW, light0, by simp [envOf], neSW⟩⟩
      · rintro i σ H1 _ ⟨_, _, _, g1, _⟩
        exact g1.seq hl
      · rintro i v σ H1 hv ⟨y1, y2, rfl, g1, dc⟩
        obtain ⟨t, ht, a, m, rfl, ta, mk⟩ := rw_.at hv
        obtain ⟨nz, _, okm, es, _, li⟩ := vr.at ht
        have hi := (List.getElem?_eq_some_iff.mp ht).1
        refine r_gT (g1.tp ta) rfl ?_
        refine r_g2 ?_
        repeat walk_at "st"
        refine ⟨m, S, W, t.1, t.2.1, t.2.2, _, rfl, mk.kp (Kp.same g1), okm, dc, nz, fun H2 k2 keep eS2 eW2 => ?_⟩
        repeat walk_at "st"
        rw [← es] at eS2 eW2
        refine ⟨_, _, rfl, fun b o hb => keep b o (fun z => by rw [z, nS] at hb; cases hb) (fun z => by rw [z, nW0] at hb; cases hb) (g1 _ _ hb), ⟨eS2, eW2, li, ?_, neSW⟩⟩
        rw [envOf_len, List.length_take]
        simp only [List.length_nil]
        omega
      · rintro σ H1 ⟨y1, y2, rfl, g1, dc⟩
        rw [ln, List.take_length] at dc
        exact J _ _ ⟨_, _, rfl, g1, dc⟩
    rintro σ H1 ⟨y1, y2, rfl, g1, dc⟩
    refine r_lv ?_
    repeat walk_at "st"
    refine ⟨W, _, rfl, dc.w, fun p np => ?_⟩
    refine q p _ (g1.trans (same_new np _)) (g1.free np) ?_
    unfold loadsD weightsOf
    rw [List.map_map]
    exact upd_same
  ) only [↓Mb.dischW]
theorem ok_refuse_missing (F : Fn K mg "refuse_missing" s_refuse_missing) : Kn P w K mg base 4 "refuse_missing" ["row", "name"] (spMissingN K) := by
  refine Mb.ofW ?_
  simp (discharger := with_unfolding_all
    refine F.kn sc_refuse_missing (fun vs H Q E h => ?_) (fun f cdv A outer s H vs Q E hr h => ?_) (fun _ _ _ _ _ _ us hl => match us, hl with | [_, _], _ => rfl)
    · obtain ⟨l, z, us, ts, rfl, _⟩ := h
      rfl
    obtain ⟨l, z, us, ts, rfl, hl, rw_, hn, hz, hm, q⟩ := h
    have ln := rw_.len
    refine ⟨_, (pss_one (ps_if (pt_cmpR op_notIn_seq (pv 1) (pe_lc (own := [("other", 2), ("making", 3)]) (g := gTup K 2 (gCons (gName 2) (gCons (gName 3) gNil))) (by rfl) sc_refuse_missing.nd (pi_list (pv 0)) (blkOk_by (own := [("other", 2), ("making", 3)]) (N := ["row", "name", "other", "making"]) (sc := (defScope s_refuse_missing)) (by decide +kernel)) (fun _ _ _ _ _ => pg_tup (by rfl) (pgs_cons (pg_name (i := 2) sc_refuse_missing.nd rfl (.inl rfl)) (pgs_cons (pg_name (i := 3) sc_refuse_missing.nd rfl (.inl rfl)) pgs_nil))) (fun _ _ _ _ _ => pts_nil) (fun _ _ _ _ _ => (pv 2))) (by rfl))
      (pss_one ps_never)
      pss_nil)), ?_⟩
    show (_ : TS) _ [some (.ref l), some (.str z), none, none] _
    repeat walk_at "st"
    refine r_lcM ?_
    repeat walk_at "st"
    refine lc_things (fun _ => true) (fun t => .str t.1) hl rw_ (by omega) (fun _ _ => rfl) (fun n t m H' _ g mk R k => k H' (Same.refl _)) (fun n t m H' _ g mk R k => ?_) fun D H1 s1 nD eD => ?_
    · repeat walk_at "st"
      exact k H' (Same.refl _)
    have eD' : H1 D = some (.lst ((nmsT ts).map V.str)) := by
      rw [eD, List.filter_eq_self.mpr (fun _ _ => rfl)]
      unfold nmsT
      rw [List.map_map]
      rfl
    refine r_notIn (lstOf eD') ?_
    repeat walk_at "st"
    refine r_iteN (fun c => ?_) (fun c => ?_)
    · exact absurd hm c
    · repeat walk_at "st"
      exact q _ s1
  ) only [↓Mb.dischW]
theorem ok_beneath (F : Fn K mg "beneath" s_beneath) (G_refuse_missing : Kn P w K mg base 4 "refuse_missing" ["row", "name"] (spMissingN K)) (G_grounds : Kn P w K mg base 2 "grounds" ["making"] (spGrounds K)) (z_reversed : mg "reversed" = none) : Kn P w K mg base 5 "beneath" ["row", "name"] (spBeneathN K) := by
  refine Mb.ofW ?_
  simp (discharger := with_unfolding_all
    refine F.kn sc_beneath (fun vs H Q E h => ?_) (fun f cdv A outer s H vs Q E hr h => ?_) (fun _ _ _ _ _ _ us hl => match us, hl with | [_, _], _ => rfl)
    · obtain ⟨l, z, us, ts, rfl, _⟩ := h
      rfl
    obtain ⟨l, z, us, ts, rfl, hl, rw_, vr, hn, hz, hm, qY⟩ := h
    have ln := rw_.len
    refine ⟨_, (pss_cons (ps_expr (pe_kn G_refuse_missing (hr.mono (by decide)) (by rfl) (pa_cons (pv 0) (pa_cons (pv 1) pa_nil))))
      (pss_cons (ps_set (i := 2) sc_beneath.nd rfl (.inr rfl) (pe_disp (pps_cons (pv 1) pe_bl pps_nil) rfl rfl (by simp) (by decide)))
      (pss_cons (ps_for PassesOwn.never rfl (pi_reversed (by rfl) z_reversed (pa_cons (pv 0) pa_nil)) (pg_tup (by rfl) (pgs_cons (pg_name (i := 3) sc_beneath.nd rfl (.inl rfl)) (pgs_cons (pg_name (i := 4) sc_beneath.nd rfl (.inl rfl)) pgs_nil)))
      (pss_one (ps_if (pt_cmp (pc_din (u1 hr.units) (pv 3) (pv 2)))
      (pss_one (ps_for PassesOwn.never rfl (pi_list (pe_kn G_grounds (hr.mono (by decide)) (by rfl) (pa_cons (pv 4) pa_nil))) (pg_name (i := 5) sc_beneath.nd rfl (.inl rfl))
      (pss_one (ps_dput (u1 hr.units) (pv 2) (pv 5) pe_bl (by rfl)))))
      pss_nil)))
      (pss_one (ps_ret (pe_lc (own := [("other", 3), ("making", 4)]) (g := gTup K 2 (gCons (gName 3) (gCons (gName 4) gNil))) (by rfl) sc_beneath.nd (pi_list (pv 0)) (blkOk_by (own := [("other", 3), ("making", 4)]) (N := ["row", "name", "found", "other", "making", "ground"]) (sc := (defScope s_beneath)) (by decide +kernel)) (fun _ _ _ _ _ => pg_tup (by rfl) (pgs_cons (pg_name (i := 3) sc_beneath.nd rfl (.inl rfl)) (pgs_cons (pg_name (i := 4) sc_beneath.nd rfl (.inl rfl)) pgs_nil))) (fun _ _ _ _ _ => pts_one (PW.pt (pw_and (pt_cmp (pc_din (u1 hr.units) (pv 3) (pv 2))) (pw_and1 (pt_cmpR op_ne (pv 3) (pv 1) (nomark _)))))) (fun _ _ _ _ _ => (pv 3)))))))), ?_⟩
    show (_ : TS) _ [some (.ref l), some (.str z), none, none, none, none] _
    repeat walk_at "st"
    refine ⟨l, z, us, ts, rfl, hl, rw_, hn, hz, hm, fun H1 s1 => ?_⟩
    repeat walk_at "st"
    refine fun D nD => ?_
    refine r_prs ?_
    repeat walk_at "st"
    refine r_prs0 ?_
    have nD0 := s1.free nD
    refine ⟨upd_same, [(.inr z, .bl true)], rfl, by simp, ?_⟩
    obtain ⟨H2, e2, k2⟩ : ∃ H2, H2 = upd (upd H1 D (.dK [])) D (.dK (mergeK [] [(.inr z, .bl true)])) ∧ H2 D = some (.dK (setD [z])) := ⟨_, rfl, by rw [upd_same]; rfl⟩
    have s2 : Same H H2 := by rw [e2]; exact same_updS (same_updS s1 nD0) nD0
    rw [← e2]
    clear e2
    repeat walk_at "st"
    with_reducible refine r_cut (fun σ H' => ∃ y3 y4 y5 : Option V, σ = [some (.ref l), some (.str z), some (.ref D), y3, y4, y5] ∧ Same H H' ∧ H' D = some (.dK (setD (closeF z ts)))) ?U1 ?V1
    case V1 =>
      intro N J
      refine ⟨.ref l, rfl, l, us, rfl, s2.seq hl, ?_⟩
      refine RT.for_Itv (xs := us) (fun i σ H' => ∃ y3 y4 y5 : Option V, σ = [some (.ref l), some (.str z), some (.ref D), y3, y4, y5] ∧ Same H H' ∧ H' D = some (.dK (setD ((ts.reverse.take i).foldl stepF [z]))) ∧ ((ts.reverse.take i).foldl stepF [z]).length ≤ 1 + 4 * i) ?_ ?_ ?_ ?_
      · exact ⟨_, _, _, rfl, s2, k2, by simp⟩
      · rintro i σ H' ⟨_, _, _, _, g', _⟩
        exact g'.seq hl
      · rintro i v σ H3 hi hv ⟨y3, y4, y5, rfl, g3, k3, l3⟩
        obtain ⟨t, ht, a, m, rfl, ta, mk⟩ := rw_.at hv
        obtain ⟨so, gg, tx, hln⟩ := vr.okm ht
        have h4 := four tx
        have er : ts.reverse[i]? = some t := by
          rw [List.getElem?_reverse (by omega), ← ln]
          exact ht
        have e1 : ts.reverse.take (i + 1) = ts.reverse.take i ++ [t] := by rw [List.take_succ, er, Option.toList_some]
        replace mk := mk.kp (Kp.same g3)
        rw [e1, List.foldl_append]
        generalize (ts.reverse.take i).foldl stepF [z] = Fo at *
        show gTup _ _ _ _ _ _ _
        refine r_gT (g3.tp ta) rfl ?_
        refine r_g2 ?_
        repeat walk_at "st"
        obtain ⟨o, dg, ho⟩ := get_set (z := t.1) k3
        refine r_din ?_
        repeat walk_at "st"
        refine ⟨D, o, rfl, dg, ?_⟩
        rw [ho]
        repeat walk_at "st"
        obtain ⟨r, tm, tl⟩ := mk
        refine r_ite (fun c => ?_) (fun c => ?_)
        · unfold tFor iList
          repeat walk_at "st"
          refine ⟨m, t.2.1, so, gg, t.2.2, r, rfl, tm, tx, hln, fun G H4 s4 n4 e4 => ?_⟩
          have nGD : G ≠ D := fun e => by rw [e, k3] at n4; cases n4
          refine ⟨G, rfl, ⟨_, lstOf e4⟩, ?_⟩
          refine for_list (xs := t.2.2.map V.str) (fun j σ H' => ∃ y5 : Option V, σ = [some (.ref l), some (.str z), some (.ref D), some (.str t.1), some (.ref m), y5] ∧ Same H H' ∧ H' G = some (.lst (t.2.2.map V.str)) ∧ H' D = some (.dK (setD ((t.2.2.take j).foldl addF Fo)))) ?_ ?_ ?_ ?_
          · exact ⟨_, rfl, g3.trans s4, e4, by rw [List.take_zero]; exact s4 _ _ k3⟩
          · rintro j σ H' _ ⟨_, _, _, e', _⟩
            exact lstOf e'
          · rintro j v' σ H5 hv' ⟨y5', rfl, g5, e5, k5⟩
            rw [List.getElem?_map] at hv'
            obtain ⟨gr, hgr, rfl⟩ := Option.map_eq_some_iff.mp hv'
            have lj := addsF_len (t.2.2.take j) Fo
            rw [List.length_take] at lj
            repeat walk_at "st"
            refine r_dput ?_
            repeat walk_at "st"
            refine ⟨D, _, rfl, DPut.k (k := .inr gr) k5 (by unfold setD; rw [List.length_map]; exact Nat.lt_of_le_of_lt (show _ ≤ 1000 by omega) (by decide)), ?_⟩
            rw [put_set]
            refine ⟨_, rfl, same_updS g5 nD0, by rw [upd_ne nGD]; exact e5, ?_⟩
            rw [List.take_succ, hgr, Option.toList_some, List.foldl_append]
            exact upd_same
          · rintro σ H5 ⟨y5', rfl, g5, e5, k5⟩
            rw [List.length_map, List.take_length] at k5
            have lj := addsF_len t.2.2 Fo
            refine ⟨_, _, _, rfl, g5, ?_, ?_⟩
            · show H5 D = some (.dK (setD (stepF Fo t)))
              rw [step_in c]
              exact k5
            · show (stepF Fo t).length ≤ _
              rw [step_in c]
              omega
        · repeat walk_at "st"
          refine ⟨_, _, _, rfl, g3, ?_, ?_⟩
          · show H3 D = some (.dK (setD (stepF Fo t)))
            rw [step_out c]
            exact k3
          · show (stepF Fo t).length ≤ _
            rw [step_out c]
            omega
      · rintro σ H3 ⟨y3, y4, y5, rfl, g3, k3, _⟩
        rw [ln, ← List.length_reverse, List.take_length] at k3
        exact J _ _ ⟨_, _, _, rfl, g3, k3⟩
    rintro σ H3 ⟨y3, y4, y5, rfl, g3, k3⟩
    repeat walk_at "st"
    refine r_lcM ?_
    repeat walk_at "st"
    refine lc_things (keepB z (closeF z ts)) (fun t => .str t.1) (g3.seq hl) (rw_.kp (Kp.same g3)) (by omega) (fun _ _ => rfl) (fun n t m H' _ g mk R k => ?_) (fun n t m H' _ g mk R k => ?_) fun D1 H4 s4 nD1 eD1 => ?_
    · show tAnd _ _ [some (.ref l), some (.str z), some (.ref D), some (.str t.1), some (.ref m), y5] H' R
      obtain ⟨o, dg, ho⟩ := get_set (z := t.1) (g _ _ k3)
      repeat walk_at "st"
      refine r_din ?_
      repeat walk_at "st"
      refine ⟨D, o, rfl, dg, ?_⟩
      rw [ho]
      repeat walk_at "st"
      have kk := k H' (Same.refl _)
      refine r_ite (fun c => ?_) (fun c => ?_)
      · repeat walk_at "st"
        refine r_neX ?_
        repeat walk_at "st"
        unfold keepB at kk
        rw [decide_eq_true c, Bool.true_and] at kk
        exact kk
      · unfold keepB at kk
        rw [decide_eq_false c, Bool.false_and] at kk
        exact kk
    · repeat walk_at "st"
      exact k H' (Same.refl _)
    refine qY D1 H4 (g3.trans s4) (g3.free nD1) ?_
    rw [eD1]
    unfold benOf
    rw [List.map_map]
    rfl
  ) only [↓Mb.dischW]
theorem ok_rooted_in (F : Fn K mg "rooted_in" s_rooted_in) (G_beneath : Kn P w K mg base 5 "beneath" ["row", "name"] (spBeneathN K)) : Kn P w K mg base 6 "rooted_in" ["row", "name"] (spRootedN K) := by
  refine Mb.ofW ?_
  simp (discharger := with_unfolding_all
    refine F.kn sc_rooted_in (fun vs H Q E h => ?_) (fun f cdv A outer s H vs Q E hr h => ?_) (fun _ _ _ _ _ _ us hl => match us, hl with | [_, _], _ => rfl)
    · obtain ⟨l, z, us, ts, rfl, _⟩ := h
      rfl
    obtain ⟨l, z, us, ts, rfl, hl, rw_, vr, hn, hz, hm, qY⟩ := h
    have ln := rw_.len
    refine ⟨_, (pss_cons (ps_set (i := 2) sc_rooted_in.nd rfl (.inr rfl) (pe_lst (StX.pa_star (pe_kn G_beneath (hr.mono (by decide)) (by rfl) (pa_cons (pv 0) (pa_cons (pv 1) pa_nil))) (pa_cons (pv 1) pa_nil))))
      (pss_one (ps_ret (pe_lc (own := [("other", 3), ("making", 4)]) (g := gTup K 2 (gCons (gName 3) (gCons (gName 4) gNil))) (by rfl) sc_rooted_in.nd (pi_list (pv 0)) (blkOk_by (own := [("other", 3), ("making", 4)]) (N := ["row", "name", "names", "other", "making"]) (sc := (defScope s_rooted_in)) (by decide +kernel)) (fun _ _ _ _ _ => pg_tup (by rfl) (pgs_cons (pg_name (i := 3) sc_rooted_in.nd rfl (.inl rfl)) (pgs_cons (pg_name (i := 4) sc_rooted_in.nd rfl (.inl rfl)) pgs_nil))) (fun _ _ _ _ _ => pts_one (pt_cmpR (show OpR _ (compareOp .In) (rIn K false) from op_in_seq) (pv 3) (pv 2) (by rfl))) (fun _ _ _ _ _ => (pe_tup (pa_cons (pv 3) (pa_cons (pv 4) pa_nil)))))))), ?_⟩
    show (_ : TS) _ [some (.ref l), some (.str z), none, none, none] _
    repeat walk_at "st"
    show tCall _ _ _ _ _ _ _
    repeat walk_at "st"
    refine ⟨l, z, us, ts.map thOf, rfl, hl, rw_.rws, vr, by rw [List.length_map]; exact hn, hz, hm, fun B H1 s1 nB eB => ?_⟩
    refine ⟨B, _, rfl, .inr (lstOf eB), ?_⟩
    repeat walk_at "st"
    have lb : (benOf z (ts.map thOf)).length ≤ ts.length := by
      unfold benOf
      rw [List.length_map]
      exact Nat.le_trans (List.length_filter_le _ _) (by rw [List.length_map]; exact Nat.le_refl _)
    refine ⟨by simp only [List.length_append, List.length_map, List.length_cons, List.length_nil]; exact Nat.le_trans (show _ ≤ 1000 by omega) (by decide), fun Nn nN => ?_⟩
    obtain ⟨H2, e2, s2, k2⟩ := nw nN (.lst ((benOf z (ts.map thOf)).map V.str ++ [.str z]))
    rw [← e2]
    have k2' : H2 Nn = some (.lst ((benOf z (ts.map thOf) ++ [z]).map V.str)) := by rw [k2, List.map_append]; rfl
    have g2 := s1.trans s2
    clear e2 k2 s1 s2
    repeat walk_at "st"
    refine r_lcM ?_
    repeat walk_at "st"
    refine lc_madeQ (fun t => rootB z (ts.map thOf) (thOf t)) (g2.seq hl) (rw_.kp (Kp.same g2)) (by omega) (fun _ _ => rfl) (fun n t m H' _ g mk R k => ?_) (fun n t m H' _ g mk R k => ?_) fun D vs H3 s3 n3 e3 rv => ?_
    · show tTest _ [some (.ref l), some (.str z), some (.ref Nn), some (.str t.1), some (.ref m)] H' R
      repeat walk_at "st"
      refine r_inSL (lstOf (g _ _ k2')) ?_
      repeat walk_at "st"
      exact k H' (Same.refl _)
    · show tTup _ [some (.ref l), some (.str z), some (.ref Nn), some (.str t.1), some (.ref m)] H' R
      repeat walk_at "st"
      refine ⟨sz rfl, fun a na => ?_⟩
      exact k a _ (same_new na _) (tupOf upd_same)
    exact qY D vs H3 (g2.trans s3) (g2.free n3) e3 rv
  ) only [↓Mb.dischW]
theorem ok_frees (F : Fn K mg "frees" s_frees) : Kn P w K mg base 1 "frees" ["own"] (spFrees K) := by
  refine Mb.ofW ?_
  simp (discharger := with_unfolding_all
    refine F.kn sc_frees (fun vs H Q E h => ?_) (fun f cdv A outer s H vs Q E hr h => ?_) (fun _ _ _ _ _ _ us hl => match us, hl with | [_], _ => rfl)
    · obtain ⟨l, us, ts, rfl, _⟩ := h
      rfl
    obtain ⟨l, us, ts, rfl, hl, rw_, hn, q⟩ := h
    refine ⟨_, (pss_one (ps_ret (pe_lc (own := [("name", 1), ("making", 2)]) (g := gTup K 2 (gCons (gName 1) (gCons (gName 2) gNil))) (by rfl) sc_frees.nd (pi_list (pv 0)) (blkOk_by (own := [("name", 1), ("making", 2)]) (N := ["own", "name", "making"]) (sc := (defScope s_frees)) (by decide +kernel)) (fun _ _ _ _ _ => pg_tup (by rfl) (pgs_cons (pg_name (i := 1) sc_frees.nd rfl (.inl rfl)) (pgs_cons (pg_name (i := 2) sc_frees.nd rfl (.inl rfl)) pgs_nil))) (fun _ _ _ _ _ => pts_one (pt_cmpR op_eq (pe_ix (show IxR _ (rIxT K) from ix_tup) (pv 2) pe_int (fun _ _ => rfl)) pe_str (nomark _))) (fun _ _ _ _ _ => (pv 1))))), ?_⟩
    show (_ : TS) _ [some (.ref l), none, none] _
    repeat walk_at "st"
    refine r_lcM ?_
    repeat walk_at "st"
    refine lc_things freeB (fun t => .str t.1) hl rw_ hn (fun _ _ => rfl) (fun n t m H' _ g mk R k => ?_) (fun n t m H' _ g mk R k => ?_) fun D H1 s1 nD eD => ?_
    · obtain ⟨r, tm, tl⟩ := mk
      show tTest _ [some (.ref l), some (.str t.1), some (.ref m)] H' R
      repeat walk_at "st"
      refine r_ixT0 tm ?_
      repeat walk_at "st"
      exact k H' (Same.refl _)
    · repeat walk_at "st"
      exact k H' (Same.refl _)
    refine q D H1 s1 nD ?_
    rw [eD, List.map_map]
    rfl
  ) only [↓Mb.dischW]
theorem ok_summed (F : Fn K mg "summed" s_summed) (z_sorted : mg "sorted" = none) (z_tuple : mg "tuple" = none) : Kn P w K mg base 1 "summed" ["terms"] (spSummed K) := by
  refine Mb.ofW ?_
  simp (discharger := with_unfolding_all
    refine F.kn sc_summed (fun vs H Q E h => ?_) (fun f cdv A outer s H vs Q E hr h => ?_) (fun _ _ _ _ _ _ us hl => match us, hl with | [_], _ => rfl)
    · obtain ⟨l, us, ts, m, c, rfl, _⟩ := h
      rfl
    obtain ⟨l, us, ts, m, c, rfl, hl, tm, ok, h4, q⟩ := h
    have ln : us.length = ts.length := Paired.length tm
    refine ⟨_, (pss_cons (ps_set (i := 1) sc_summed.nd rfl (.inr rfl) pe_dnewT)
      (pss_cons (ps_for PassesOwn.never rfl (pi_list (pv 0)) (pg_tup (by rfl) (pgs_cons (pg_name (i := 2) sc_summed.nd rfl (.inl rfl)) (pgs_cons (pg_name (i := 3) sc_summed.nd rfl (.inl rfl)) pgs_nil)))
      (pss_one (ps_dput (u1 hr.units) (pv 1) (pv 2) (pe_op op_add (pe_dget2 (u1 hr.units) (pv 1) (pv 2) pe_int ⟨by rfl, by rfl, by rfl, by rfl⟩) (pv 3)) (by rfl))))
      (pss_one (ps_ret (pe_tupleOf (by rfl) z_tuple (pe_lc (own := [("powers", 2)]) (g := gName 2) (by rfl) sc_summed.nd (pi_list (pe_callB (cr_sortedDT (by rfl)) (by rfl) z_sorted (by decide +kernel) (pa_cons (pv 1) pa_nil))) (blkOk_by (own := [("powers", 2)]) (N := ["terms", "numbers", "powers", "number"]) (sc := (defScope s_summed)) (by decide +kernel)) (fun _ _ _ _ _ => pg_name (i := 2) sc_summed.nd rfl (.inl rfl)) (fun _ _ _ _ _ => pts_one (pt_cmpR op_ne (pe_dget (u1 hr.units) (pv 1) (pv 2) (fun _ _ => rfl)) pe_int (nomark _))) (fun _ _ _ _ _ => (pe_tup (pa_cons (pv 2) (pa_cons (pe_dget (u1 hr.units) (pv 1) (pv 2) (fun _ _ => rfl)) pa_nil)))))))))), ?_⟩
    show (_ : TS) _ [some (.ref l), none, none, none] _
    repeat walk_at "st"
    refine fun D nD => ?_
    have sD := same_new nD (.dT [])
    have eD : upd H D (.dT []) D = some (.dT (keysD (accOf []))) := upd_same
    generalize upd H D (.dT []) = H1 at *
    repeat walk_at "st"
    with_reducible refine r_cut (fun σ H' => ∃ y2 y3 : Option V, σ = [some (.ref l), some (.ref D), y2, y3] ∧ Same H H' ∧ H' D = some (.dT (keysD (accOf ts)))) ?U1 ?V1
    case V1 =>
      intro N J
      refine ⟨.ref l, rfl, l, rfl, ⟨us, sD.seq hl⟩, ?_⟩
      refine for_list (xs := us) (fun i σ H' => ∃ y2 y3 : Option V, σ = [some (.ref l), some (.ref D), y2, y3] ∧ Same H H' ∧ H' D = some (.dT (keysD (accOf (ts.take i))))) ?_ ?_ ?_ ?_
      · exact ⟨_, _, rfl, sD, by rw [List.take_zero]; exact eD⟩
      · rintro i σ H' _ ⟨_, _, _, g', _⟩
        exact g'.seq hl
      · rintro i v σ H3 hv ⟨y2, y3, rfl, g3, k3⟩
        obtain ⟨t, ht, a, p, rfl, ta, pw⟩ := tm.at hv
        have hi : i < ts.length := (List.getElem?_eq_some_iff.mp ht).1
        have e1 : ts.take (i + 1) = ts.take i ++ [t] := by rw [List.take_succ, ht, Option.toList_some]
        rw [e1, acc_snoc]
        have lM : (accOf (ts.take i)).length ≤ _ := accs_len (ts.take i) []
        rw [List.length_take] at lM
        simp only [List.length_nil] at lM
        have nd := (acc_ok (ts.take i)).nd
        generalize accOf (ts.take i) = M at *
        have pw3 := pw_key (show Pw H3 p t.1 from g3 _ _ pw)
        refine r_gT (tupOf (g3 _ _ ta)) rfl ?_
        refine r_g2 ?_
        repeat walk_at "st"
        refine r_dput ?_
        repeat walk_at "st"
        refine r_dget2 ?_
        repeat walk_at "st"
        refine ⟨D, rfl, .inr ⟨_, .inl k3⟩, ?_⟩
        repeat walk_at "st"
        refine ⟨_, .inr ⟨_, t.1.map Sum.inl, p, .inl k3, rfl, pw3, rfl⟩, ?_⟩
        rw [keysD_get nd 0]
        repeat walk_at "st"
        refine ⟨D, _, rfl, .inr ⟨_, t.1.map Sum.inl, p, k3, rfl, pw3, by unfold keysD; rw [List.length_map]; exact Nat.lt_of_le_of_lt (show M.length ≤ 200000 by omega) (by decide), rfl⟩, ?_⟩
        rw [keysD_put nd]
        exact ⟨_, _, rfl, same_updS g3 nD, upd_same⟩
      · rintro σ H3 ⟨y2, y3, rfl, g3, k3⟩
        rw [ln, List.take_length] at k3
        exact J _ _ ⟨_, _, rfl, g3, k3⟩
    rintro σ H3 ⟨y2, y3, rfl, g3, k3⟩
    repeat walk_at "st"
    refine r_then ?_
    refine r_lcM ?_
    repeat walk_at "st"
    refine ⟨D, _, (accOf ts).map (·.1), rfl, k3, keysD_keys, few_keys ok, fun ls qs p hp hs np hq => ?_⟩
    obtain ⟨H4, e4, s4, k4⟩ := nw np (.lst (qs.map V.ref))
    rw [← e4]
    clear e4
    have l4 : (accOf ts).length ≤ _ := accs_len ts []
    simp only [List.length_nil] at l4
    have l5 : ls.length ≤ 10000000 := by
      rw [hp.length_eq, List.length_map]
      omega
    refine lc_form (sumK ts) (lstOf k4) l5 (fun _ => rfl) (Paired.mapP hq fun q k h => s4 _ _ h) (fun q k H' hk pw g R kk => ?_) (fun q k H' hk pw g R kk => ?_) fun D2 us2 H5 s5 n5 e5 tm5 => ?_
    · have dg : DGet H' D (.ref q) (some (.int (sumK ts k))) := by
        have := keysD_val (ts := ts) (k := k) (hp.mem_iff.mp hk)
        exact .inr ⟨_, k.map Sum.inl, q, .inl (g _ _ (s4 _ _ k3)), rfl, pw_key pw, this.symm⟩
      show tTest _ [some (.ref l), some (.ref D), some (.ref q), y3] H' R
      repeat walk_at "st"
      refine r_dg ?_
      repeat walk_at "st"
      refine ⟨D, _, rfl, dg, ?_⟩
      repeat walk_at "st"
      exact kk H' (Same.refl _)
    · have dg : DGet H' D (.ref q) (some (.int (sumK ts k))) := by
        have := keysD_val (ts := ts) (k := k) (hp.mem_iff.mp hk)
        exact .inr ⟨_, k.map Sum.inl, q, .inl (g _ _ (s4 _ _ k3)), rfl, pw_key pw, this.symm⟩
      show tTup _ [some (.ref l), some (.ref D), some (.ref q), y3] H' R
      repeat walk_at "st"
      refine r_dg ?_
      repeat walk_at "st"
      refine ⟨D, _, rfl, dg, ?_⟩
      repeat walk_at "st"
      refine ⟨sz rfl, fun a na => ?_⟩
      exact kk a _ (same_new na _) upd_same
    refine .inl ⟨D2, us2, rfl, lstOf e5, fun f nf => ?_⟩
    have s6 := same_new nf (.tup us2)
    exact q f _ _ (g3.trans (s4.trans (s5.trans s6))) (((g3.trans s4).trans s5).free nf) ⟨us2, upd_same, tm5.tmk (Kt.same s6)⟩ (fm_of hp hs)
  ) only [↓Mb.dischW]
theorem ok_greatest_power (F : Fn K mg "greatest_power" s_greatest_power) (z_max : mg "max" = none) : Kn P w K mg base 1 "greatest_power" ["form"] (spGreatest K) := by
  refine Mb.ofW ?_
  simp (discharger := with_unfolding_all
    refine F.kn sc_greatest_power (fun vs H Q E h => ?_) (fun f cdv A outer s H vs Q E hr h => ?_) (fun _ _ _ _ _ _ us hl => match us, hl with | [_], _ => rfl)
    · obtain ⟨f, Fo, m, c, rfl, _⟩ := h
      rfl
    obtain ⟨f, Fo, m, c, rfl, ⟨us, hf, tm⟩, ok, hc, hl, q⟩ := h
    refine ⟨_, (pss_one (ps_ret (pe_callBK (cr_maxDf (by rfl) hr.units) (by rfl) z_max (by decide +kernel) (pa_cons (pe_lc (own := [("powers", 1), ("number", 2)]) (g := gTup K 2 (gCons (gName 1) (gCons (gName 2) gNil))) (by rfl) sc_greatest_power.nd (pi_tup (pv 0)) (blkOk_by (own := [("powers", 1), ("number", 2)]) (N := ["form", "powers", "number"]) (sc := (defScope s_greatest_power)) (by decide +kernel)) (fun _ _ _ _ _ => pg_tup (by rfl) (pgs_cons (pg_name (i := 1) sc_greatest_power.nd rfl (.inl rfl)) (pgs_cons (pg_name (i := 2) sc_greatest_power.nd rfl (.inl rfl)) pgs_nil))) (fun _ _ _ _ _ => pts_nil) (fun _ _ _ _ _ => (pe_callBK (show CallRK _ (.builtin "max") ["default"] (rMaxDf K) from cr_maxDf (by rfl) hr.units) (by rfl) z_max (by decide +kernel) (pa_cons (pv 1) pa_nil) (pk_cons pe_int pk_nil)))) pa_nil) (pk_cons pe_int pk_nil)))), ?_⟩
    show (_ : TS) _ [some (.ref f), none, none] _
    repeat walk_at "st"
    refine r_ckw ?_
    repeat walk_at "st"
    refine r_lcT ?_
    repeat walk_at "st"
    refine lc_terms (fun _ v t => v = .int (maxOf t.1 0)) (fun _ h => h) hf tm (by omega) (fun _ _ => rfl) (fun t q' H' ht g pw S k => ?_) fun D vs H1 s1 n1 e1 pr => ?_
    · refine r_ckw ?_
      repeat walk_at "st"
      refine ⟨q', t.1, 0, rfl, rfl, .inr (tupOf pw), ?_⟩
      exact k _ H' (Same.refl _) rfl
    · repeat walk_at "st"
      have ev : vs = (Fo.map fun t => maxOf t.1 0).map V.int := by
        clear e1 n1 s1 q hl ok tm hf
        induction pr with
        | nil => rfl
        | cons h _ ih => rw [h, ih]; rfl
      rw [ev] at e1
      refine ⟨D, _, 0, rfl, rfl, .inl (lstOf e1), ?_⟩
      have zero : ∀ t ∈ Fo, ∀ p ∈ t.1, 0 ≤ p ∧ p ≤ c := fun t ht => (ok t ht).2
      have hin : ∀ t ∈ Fo, 0 ≤ maxOf t.1 0 ∧ maxOf t.1 0 ≤ c := fun t ht => maxOf_in (zero t ht) hc
      have out := maxOf_in (ns := Fo.map fun t => maxOf t.1 0) (c := c) (fun p hp => by
        obtain ⟨t, ht, rfl⟩ := List.mem_map.mp hp
        exact hin t ht) hc
      refine q _ H1 s1 out.1 out.2 fun t ht p hp => ?_
      exact Int.le_trans (maxOf_le p hp) (maxOf_le _ (List.mem_map.mpr ⟨t, ht, rfl⟩))
  ) only [↓Mb.dischW]
theorem ok_added (F : Fn K mg "added" s_added) (G_summed : Kn P w K mg base 1 "summed" ["terms"] (spSummed K)) : Kn P w K mg base 2 "added" ["form", "other"] (spAdded K) := by
  refine Mb.ofW ?_
  simp (discharger := with_unfolding_all
    refine F.kn sc_added (fun vs H Q E h => ?_) (fun f cdv A outer s H vs Q E hr h => ?_) (fun _ _ _ _ _ _ us hl => match us, hl with | [_, _], _ => rfl)
    · obtain ⟨f, g, Fo, Go, m, c, rfl, _⟩ := h
      rfl
    obtain ⟨f, g, Fo, Go, m, c, rfl, ⟨us, ef, tF⟩, ⟨vs, eg, tG⟩, okF, okG, lF, lG, q⟩ := h
    have l1 := Paired.length tF
    have l2 := Paired.length tG
    refine ⟨_, (pss_one (ps_ret (pe_kn G_summed (hr.mono (by decide)) (by rfl) (pa_cons (pe_lst (StX.pa_star (pv 0) (StX.pa_star (pv 1) pa_nil))) pa_nil)))), ?_⟩
    show (_ : TS) _ [some (.ref f), some (.ref g)] _
    repeat walk_at "st"
    refine r_star ?_
    repeat walk_at "st"
    refine ⟨f, us, rfl, .inl (tupOf ef), ?_⟩
    refine r_star ?_
    repeat walk_at "st"
    refine ⟨g, vs, rfl, .inl (tupOf eg), ?_⟩
    repeat walk_at "st"
    refine ⟨by simp only [List.length_append, List.append_nil]; exact Nat.le_trans (show _ ≤ 200000 by omega) (by decide), fun l nl => ?_⟩
    rw [List.append_nil]
    have sl := same_new nl (.lst (us ++ vs))
    have el : upd H l (.lst (us ++ vs)) l = some (.lst (us ++ vs)) := upd_same
    generalize upd H l (.lst (us ++ vs)) = H1 at *
    repeat walk_at "st"
    refine ⟨l, us ++ vs, Fo ++ Go, m, c, rfl, lstOf el, tms_app (tF.tmk (Kt.same sl)) (tG.tmk (Kt.same sl)), app_ok okF okG, by rw [List.length_append]; omega, fun r R H2 s2 n2 f2 fm => ?_⟩
    exact q r R H2 (sl.trans s2) (sl.free n2) f2 fm
  ) only [↓Mb.dischW]
theorem ok_scaled (F : Fn K mg "scaled" s_scaled) (G_summed : Kn P w K mg base 1 "summed" ["terms"] (spSummed K)) : Kn P w K mg base 2 "scaled" ["form", "number"] (spScaled K) := by
  refine Mb.ofW ?_
  simp (discharger := with_unfolding_all
    refine F.kn sc_scaled (fun vs H Q E h => ?_) (fun f cdv A outer s H vs Q E hr h => ?_) (fun _ _ _ _ _ _ us hl => match us, hl with | [_, _], _ => rfl)
    · obtain ⟨f, n, Fo, m, c, rfl, _⟩ := h
      rfl
    obtain ⟨f, n, Fo, m, c, rfl, ⟨us, ef, tF⟩, okF, lF, sn, sF, q⟩ := h
    refine ⟨_, (pss_one (ps_ret (pe_kn G_summed (hr.mono (by decide)) (by rfl) (pa_cons (pe_lc (own := [("powers", 2), ("one", 3)]) (g := gTup K 2 (gCons (gName 2) (gCons (gName 3) gNil))) (by rfl) sc_scaled.nd (pi_tup (pv 0)) (blkOk_by (own := [("powers", 2), ("one", 3)]) (N := ["form", "number", "powers", "one"]) (sc := (defScope s_scaled)) (by decide +kernel)) (fun _ _ _ _ _ => pg_tup (by rfl) (pgs_cons (pg_name (i := 2) sc_scaled.nd rfl (.inl rfl)) (pgs_cons (pg_name (i := 3) sc_scaled.nd rfl (.inl rfl)) pgs_nil))) (fun _ _ _ _ _ => pts_nil) (fun _ _ _ _ _ => (pe_tup (pa_cons (pv 2) (pa_cons (pe_op op_mulW (pv 1) (pv 3)) pa_nil))))) pa_nil)))), ?_⟩
    show (_ : TS) _ [some (.ref f), some (.int n), none, none] _
    repeat walk_at "st"
    refine r_lcT ?_
    repeat walk_at "st"
    refine lc_terms (fun H v t => Tm H v (t.1, n * t.2)) (fun k h => Tm.kt k h) ef tF (by omega) (fun _ _ => rfl) (fun t q' H' ht g pw S k => ?_) fun D vs H1 s1 n1 e1 pr => ?_
    · have cm : CMulW n t.2 := sn.cmul (sF t ht)
      show tTup _ [some (.ref f), some (.int n), some (.ref q'), some (.int t.2)] H' S
      repeat walk_at "st"
      refine ⟨sz rfl, fun a na => ?_⟩
      exact k _ _ (same_new na _) ⟨a, q', rfl, upd_same, same_new na _ _ _ pw⟩
    repeat walk_at "st"
    refine ⟨D, vs, scaleT n Fo, m, c, rfl, lstOf e1, tmscale pr, scale_ok okF, by unfold scaleT; rw [List.length_map]; omega, fun r R H2 s2 n2 f2 fm => ?_⟩
    exact q r R H2 (s1.trans s2) (s1.free n2) f2 fm
  ) only [↓Mb.dischW]
theorem ok_taken (F : Fn K mg "taken" s_taken) (G_added : Kn P w K mg base 2 "added" ["form", "other"] (spAdded K)) (G_scaled : Kn P w K mg base 2 "scaled" ["form", "number"] (spScaled K)) : Kn P w K mg base 3 "taken" ["form", "other"] (spTaken K) := by
  refine Mb.ofW ?_
  simp (discharger := with_unfolding_all
    refine F.kn sc_taken (fun vs H Q E h => ?_) (fun f cdv A outer s H vs Q E hr h => ?_) (fun _ _ _ _ _ _ us hl => match us, hl with | [_, _], _ => rfl)
    · obtain ⟨f, g, Fo, Go, m, c, rfl, _⟩ := h
      rfl
    obtain ⟨f, g, Fo, Go, m, c, rfl, hf, hg, okF, okG, lF, lG, sG, q⟩ := h
    refine ⟨_, (pss_one (ps_ret (pe_kn G_added (hr.mono (by decide)) (by rfl) (pa_cons (pv 0) (pa_cons (pe_kn G_scaled (hr.mono (by decide)) (by rfl) (pa_cons (pv 1) (pa_cons (pe_un un_neg pe_int) pa_nil))) pa_nil))))), ?_⟩
    show (_ : TS) _ [some (.ref f), some (.ref g)] _
    repeat walk_at "st"
    refine ⟨g, -1, Go, m, c, rfl, hg, okG, lG, by decide, sG, fun r1 R1 H1 s1 n1 f1 fm1 => ?_⟩
    have l1 := fm1.len
    have ls : (scaleT (-1) Go).length = Go.length := by unfold scaleT; rw [List.length_map]
    repeat walk_at "st"
    refine ⟨f, r1, Fo, R1, m, c, rfl, hf.kt (Kt.same s1), f1, okF, fm1.ok (scale_ok okG), lF, by omega, fun r R H2 s2 n2 f2 fm => ?_⟩
    refine q r R H2 (s1.trans s2) (s1.free n2) f2 (fm.congr fun k => ?_)
    rw [sumK_app, sumK_app, fm1.sum, sumK_scale, sumK_neg]
    omega
  ) only [↓Mb.dischW]
theorem ok_joined (F : Fn K mg "joined" s_joined) : Kn P w K mg base 1 "joined" ["powers", "base"] (spJoined K) := by
  refine Mb.ofW ?_
  simp (discharger := with_unfolding_all
    refine F.kn sc_joined (fun vs H Q E h => ?_) (fun f cdv A outer s H vs Q E hr h => ?_) (fun _ _ _ _ _ _ us hl => match us, hl with | [_, _], _ => rfl)
    · obtain ⟨q0, b, k, rfl, _⟩ := h
      rfl
    obtain ⟨q0, b, k, rfl, pw, b1, b2, lk, dg, q⟩ := h
    refine ⟨_, (pss_cons (ps_set (i := 2) sc_joined.nd rfl (.inl rfl) pe_int)
      (pss_cons (ps_for PassesOwn.never rfl (pi_tup (pv 0)) (pg_name (i := 3) sc_joined.nd rfl (.inl rfl))
      (pss_one (ps_set (i := 2) sc_joined.nd rfl (.inl rfl) (pe_op op_add (pe_op op_mulW (pv 2) (pv 1)) (pv 3)))))
      (pss_one (ps_ret (pv 2))))), ?_⟩
    show (_ : TS) _ [some (.ref q0), some (.int b), none, none] _
    repeat walk_at "st"
    with_reducible refine r_cut (fun σ H' => ∃ y : Option V, σ = [some (.ref q0), some (.int b), some (.int (joinL b 0 k)), y] ∧ H' = H) ?U1 ?V1
    case V1 =>
      intro N J
      refine ⟨.ref q0, rfl, q0, rfl, ⟨_, tupOf pw⟩, ?_⟩
      refine for_tup (xs := k.map V.int) (fun i σ H' => ∃ y : Option V, σ = [some (.ref q0), some (.int b), some (.int (joinL b 0 (k.take i))), y] ∧ H' = H) ⟨_, rfl, rfl⟩ (fun i σ H' _ h => by obtain ⟨_, _, rfl⟩ := h; exact tupOf pw) ?_ ?_
      · rintro i v σ H' hv ⟨y, rfl, rfl⟩
        rw [List.getElem?_map] at hv
        obtain ⟨x, hx, rfl⟩ := Option.map_eq_some_iff.mp hv
        have e1 : k.take (i + 1) = k.take i ++ [x] := by rw [List.take_succ, hx, Option.toList_some]
        have bd := join_bd b1 (k.take i) fun p hp => dg p (List.mem_of_mem_take hp)
        have sm : Sm 64 (joinL b 0 (k.take i)) := small_join b1 b2 (by rw [List.length_take]; omega) bd
        have sb : Sm 64 b := by unfold Sm; omega
        rw [e1, joinL_snoc]
        repeat walk_at "st"
        exact ⟨_, rfl, rfl⟩
      · rintro σ H' ⟨y, rfl, rfl⟩
        rw [List.length_map, List.take_length]
        exact J _ _ ⟨_, rfl, rfl⟩
    rintro σ H' ⟨y, rfl, rfl⟩
    repeat walk_at "st"
    exact q
  ) only [↓Mb.dischW]
theorem ok_packed (F : Fn K mg "packed" s_packed) (G_joined : Kn P w K mg base 1 "joined" ["powers", "base"] (spJoined K)) : Kn P w K mg base 2 "packed" ["form", "base"] (spPacked K) := by
  refine Mb.ofW ?_
  simp (discharger := with_unfolding_all
    refine F.kn sc_packed (fun vs H Q E h => ?_) (fun f cdv A outer s H vs Q E hr h => ?_) (fun _ _ _ _ _ _ us hl => match us, hl with | [_, _], _ => rfl)
    · obtain ⟨f, b, Fo, m, rfl, _⟩ := h
      rfl
    obtain ⟨f, b, Fo, m, rfl, ⟨us, hf, tm⟩, b1, b2, hm, dg, hl, q⟩ := h
    refine ⟨_, (pss_one (ps_ret (pe_lc (own := [("powers", 2), ("number", 3)]) (g := gTup K 2 (gCons (gName 2) (gCons (gName 3) gNil))) (by rfl) sc_packed.nd (pi_tup (pv 0)) (blkOk_by (own := [("powers", 2), ("number", 3)]) (N := ["form", "base", "powers", "number"]) (sc := (defScope s_packed)) (by decide +kernel)) (fun _ _ _ _ _ => pg_tup (by rfl) (pgs_cons (pg_name (i := 2) sc_packed.nd rfl (.inl rfl)) (pgs_cons (pg_name (i := 3) sc_packed.nd rfl (.inl rfl)) pgs_nil))) (fun _ _ _ _ _ => pts_nil) (fun _ _ _ _ _ => (pe_tup (pa_cons (pe_kn G_joined (hr.mono (by decide)) (by rfl) (pa_cons (pv 2) (pa_cons (pv 1) pa_nil))) (pa_cons (pv 3) pa_nil))))))), ?_⟩
    show (_ : TS) _ [some (.ref f), some (.int b), none, none] _
    repeat walk_at "st"
    refine r_lcT ?_
    repeat walk_at "st"
    refine lc_terms (fun H v t => Pk b H v t) (fun k h => Pk.kt k h) hf tm (by omega) (fun _ _ => rfl) (fun t q' H' ht g pw S k => ?_) fun D vs H1 s1 n1 e1 pr => ?_
    · show tTup _ [some (.ref f), some (.int b), some (.ref q'), some (.int t.2)] H' S
      repeat walk_at "st"
      refine ⟨q', b, t.1, rfl, pw, b1, b2, by rw [(dg t ht).1]; exact hm, (dg t ht).2, ?_⟩
      repeat walk_at "st"
      refine ⟨sz rfl, fun a na => ?_⟩
      exact k _ _ (same_new na _) ⟨a, rfl, upd_same⟩
    · exact q D vs H1 s1 n1 e1 pr
  ) only [↓Mb.dischW]
theorem ok_unpacked (F : Fn K mg "unpacked" s_unpacked) (z_range : mg "range" = none) (z_tuple : mg "tuple" = none) : Kn P w K mg base 1 "unpacked" ["key", "base", "many"] (spUnpacked K) := by
  refine Mb.ofW ?_
  simp (discharger := with_unfolding_all
    refine F.kn sc_unpacked (fun vs H Q E h => ?_) (fun f cdv A outer s H vs Q E hr h => ?_) (fun _ _ _ _ _ _ us hl => match us, hl with | [_, _, _], _ => rfl)
    · obtain ⟨k, b, m, rfl, _⟩ := h
      rfl
    obtain ⟨k, b, m, rfl, b1, b2, hm, q⟩ := h
    have sb : Sm 64 b := by unfold Sm; omega
    refine ⟨_, (pss_cons (ps_set (i := 3) sc_unpacked.nd rfl (.inl rfl) (pe_lst pa_nil))
      (pss_cons (ps_for PassesOwn.never rfl (pi_range1 (by rfl) z_range (pa_cons (pv 2) pa_nil)) (pg_name (i := 4) sc_unpacked.nd rfl (.inl rfl))
      (pss_cons (ps_expr (pe_bm PySem.F.plainAttrs_list PySem.F.slot_list_append PySem.F.type_list_append mt_append (pv 3) (pa_cons (pe_op op_mod (pv 0) (pv 1)) pa_nil)))
      (pss_one (ps_set (i := 0) sc_unpacked.nd rfl (.inl rfl) (pe_op op_fdivW (pv 0) (pv 1))))))
      (pss_one (ps_ret (pe_tupleOf (by rfl) z_tuple (pe_revL (pv 3))))))), ?_⟩
    show (_ : TS) _ [some (.int k), some (.int b), some (.int (m : Int)), none, none] _
    repeat walk_at "st"
    refine ⟨sz rfl, fun L nL => ?_⟩
    have sL := same_new nL (.lst [])
    have eL : upd H L (.lst []) L = some (.lst []) := upd_same
    generalize upd H L (.lst []) = H1 at *
    repeat walk_at "st"
    with_reducible refine r_cut (fun σ H' => ∃ y : Option V, σ = [some (.int (k / b ^ m)), some (.int b), some (.int (m : Int)), some (.ref L), y] ∧ Same H H' ∧ H' L = some (.lst ((unp b m k).reverse.map V.int))) ?U1 ?V1
    case V1 =>
      intro N J
      refine ⟨.int (m : Int), rfl, (m : Int), rfl, by omega, by omega, ?_⟩
      rw [show ((m : Int)).toNat = m from by omega]
      refine for_range (n := m) (fun i σ H' => ∃ y : Option V, σ = [some (.int (k / b ^ i)), some (.int b), some (.int (m : Int)), some (.ref L), y] ∧ Same H H' ∧ H' L = some (.lst ((unp b i k).reverse.map V.int))) ⟨_, by rw [Int.pow_zero, Int.ediv_one], sL, eL⟩ ?_ ?_
      · rintro i σ H' hi ⟨y, rfl, g, e⟩
        repeat walk_at "st"
        refine r_bm ?_
        repeat walk_at "st"
        refine ⟨.inl ⟨rfl, _, lstOf e⟩, ?_⟩
        repeat walk_at "st"
        refine ⟨L, _, .int (k / b ^ i % b), rfl, rfl, e, by rw [List.length_map, List.length_reverse, unp_len]; exact Nat.lt_of_le_of_lt (show i ≤ 1000 by omega) (by decide), ?_⟩
        repeat walk_at "st"
        refine ⟨_, _, rfl, rfl, Sm.cdiv (by omega) sb, ?_⟩
        repeat walk_at "st"
        refine ⟨_, by rw [Int.pow_succ, Int.ediv_ediv_of_nonneg (Int.pow_nonneg (by omega))], same_updS g nL, ?_⟩
        rw [upd_same, unp_succ (show 1 ≤ b by omega), List.reverse_append, List.map_append]
        rfl
      · rintro σ H' ⟨y, rfl, g, e⟩
        exact J _ _ ⟨_, rfl, g, e⟩
    rintro σ H' ⟨y, rfl, g, e⟩
    repeat walk_at "st"
    refine r_then ?_
    refine r_rev2 ?_
    repeat walk_at "st"
    refine ⟨L, _, rfl, lstOf e, fun r nr => ?_⟩
    have sr := same_new nr (.lst ((unp b m k).reverse.map V.int).reverse)
    have er : upd H' r (.lst ((unp b m k).reverse.map V.int).reverse) r = some (.lst ((unp b m k).map V.int)) := by rw [upd_same, ← List.map_reverse, List.reverse_reverse]
    generalize upd H' r (.lst ((unp b m k).reverse.map V.int).reverse) = H2 at *
    refine .inl ⟨r, _, rfl, lstOf er, fun p np => ?_⟩
    exact q p _ (g.trans (sr.trans (same_new np _))) ((g.trans sr).free np) upd_same
  ) only [↓Mb.dischW]
theorem ok_multiplied (F : Fn K mg "multiplied" s_multiplied) (G_greatest_power : Kn P w K mg base 1 "greatest_power" ["form"] (spGreatest K)) (G_packed : Kn P w K mg base 2 "packed" ["form", "base"] (spPacked K)) (G_unpacked : Kn P w K mg base 1 "unpacked" ["key", "base", "many"] (spUnpacked K)) (z_len : mg "len" = none) (z_sorted : mg "sorted" = none) (z_tuple : mg "tuple" = none) : Kn P w K mg base 3 "multiplied" ["form", "other"] (spMul K) := by
  refine Mb.ofW ?_
  simp (discharger := with_unfolding_all
    refine F.kn sc_multiplied (fun vs H Q E h => ?_) (fun f cdv A outer s H vs Q E hr h => ?_) (fun _ _ _ _ _ _ us hl => match us, hl with | [_, _], _ => rfl)
    · obtain ⟨f, g, Fo, Go, m, c, rfl, _⟩ := h
      rfl
    obtain ⟨f, g, Fo, Go, m, c, rfl, hf, hg, okF, okG, hc, hc2, hm, lFG, lF, lG, sF, sG, q⟩ := h
    obtain ⟨us, ef, tF⟩ := id hf
    obtain ⟨vs, eg, tG⟩ := id hg
    have l1 := Paired.length tF
    have l2 := Paired.length tG
    refine ⟨_, (pss_cons (ps_if (PW.pt (pw_or (pt_not (pt_truth (pv 0) (by intro _; rfl))) (pw_or1 (pt_not (pt_truth (pv 1) (by intro _; rfl))))))
      (pss_one (ps_ret (pe_tup pa_nil)))
      pss_nil)
      (pss_cons (ps_set (i := 2) sc_multiplied.nd rfl (.inr rfl) (pe_op op_add (pe_op op_add (pe_kn G_greatest_power (hr.mono (by decide)) (by rfl) (pa_cons (pv 0) pa_nil)) (pe_kn G_greatest_power (hr.mono (by decide)) (by rfl) (pa_cons (pv 1) pa_nil))) pe_int))
      (pss_cons (ps_set (i := 3) sc_multiplied.nd rfl (.inl rfl) (pe_kn G_packed (hr.mono (by decide)) (by rfl) (pa_cons (pv 1) (pa_cons (pv 2) pa_nil))))
      (pss_cons (ps_set (i := 4) sc_multiplied.nd rfl (.inr rfl) pe_dnewK)
      (pss_cons (ps_for PassesOwn.never rfl (pi_list (pe_kn G_packed (hr.mono (by decide)) (by rfl) (pa_cons (pv 0) (pa_cons (pv 2) pa_nil)))) (pg_tup (by rfl) (pgs_cons (pg_name (i := 5) sc_multiplied.nd rfl (.inl rfl)) (pgs_cons (pg_name (i := 6) sc_multiplied.nd rfl (.inl rfl)) pgs_nil)))
      (pss_one (ps_for PassesOwn.never rfl (pi_list (pv 3)) (pg_tup (by rfl) (pgs_cons (pg_name (i := 7) sc_multiplied.nd rfl (.inl rfl)) (pgs_cons (pg_name (i := 8) sc_multiplied.nd rfl (.inl rfl)) pgs_nil)))
      (pss_one (ps_dput (u1 hr.units) (pv 4) (pe_op op_add (pv 5) (pv 7)) (pe_op op_add (pe_dget2 (u1 hr.units) (pv 4) (pe_op op_add (pv 5) (pv 7)) pe_int ⟨by rfl, by rfl, by rfl, by rfl⟩) (pe_op op_mulW (pv 6) (pv 8))) (by rfl))))))
      (pss_cons (ps_set (i := 9) sc_multiplied.nd rfl (.inr rfl) (pe_callB call_len_seq (by rfl) z_len (by decide +kernel) (pa_cons (pe_ix ix_tup (pe_ix ix_tup (pv 0) pe_int (fun _ _ => rfl)) pe_int (fun _ _ => rfl)) pa_nil)))
      (pss_one (ps_ret (pe_tupleOf (by rfl) z_tuple (pe_lc (own := [("key", 5)]) (g := gName 5) (by rfl) sc_multiplied.nd (pi_list (pe_callB (cr_sortedDIb (by rfl)) (by rfl) z_sorted (by decide +kernel) (pa_cons (pv 4) pa_nil))) (blkOk_by (own := [("key", 5)]) (N := ["form", "other", "base", "right", "numbers", "key", "one", "other_key", "two", "many"]) (sc := (defScope s_multiplied)) (by decide +kernel)) (fun _ _ _ _ _ => pg_name (i := 5) sc_multiplied.nd rfl (.inl rfl)) (fun _ _ _ _ _ => pts_one (pt_cmpR op_ne (pe_dget (u1 hr.units) (pv 4) (pv 5) (fun _ _ => rfl)) pe_int (nomark _))) (fun _ _ _ _ _ => (pe_tup (pa_cons (pe_kn G_unpacked (hr.mono (by decide)) (by rfl) (pa_cons (pv 5) (pa_cons (pv 2) (pa_cons (pv 9) pa_nil)))) (pa_cons (pe_dget (u1 hr.units) (pv 4) (pv 5) (fun _ _ => rfl)) pa_nil)))))))))))))), ?_⟩
    show (_ : TS) _ [some (.ref f), some (.ref g), none, none, none, none, none, none, none, none] _
    have empty : mulT Fo Go = [] → ∀ p, H p = none → Q (.ref p) (upd H p (.tup [])) := fun e p np => q p [] _ (same_new np _) np ⟨[], upd_same, .nil⟩ (by rw [e]; exact nil_fm)
    repeat walk_at "st"
    refine r_seq ?_
    repeat walk_at "st"
    refine ⟨!us.isEmpty, .inr (.inl ⟨us, tupOf ef, rfl⟩), ?_⟩
    cases hu : us.isEmpty with
    | true =>
      have : Fo = [] := List.eq_nil_of_length_eq_zero (by rw [← l1, List.isEmpty_iff.mp hu]; rfl)
      subst this
      refine r_dT rfl ?_
      repeat walk_at "st"
      exact ⟨sz rfl, fun p np => empty rfl p np⟩
    | false =>
    refine r_dF rfl ?_
    repeat walk_at "st"
    refine ⟨!vs.isEmpty, .inr (.inl ⟨vs, tupOf eg, rfl⟩), ?_⟩
    cases hv : vs.isEmpty with
    | true =>
      have : Go = [] := List.eq_nil_of_length_eq_zero (by rw [← l2, List.isEmpty_iff.mp hv]; rfl)
      subst this
      have e0 : mulT Fo [] = [] := List.eq_nil_of_length_eq_zero (by rw [mul_len]; rfl)
      refine r_dT rfl ?_
      repeat walk_at "st"
      exact ⟨sz rfl, fun p np => empty e0 p np⟩
    | false =>
    clear empty
    refine r_dF rfl ?_
    repeat walk_at "st"
    refine ⟨f, Fo, m, c, rfl, hf, okF, hc, lF, fun g1 H1 s1 g10 g1c g1l => ?_⟩
    repeat walk_at "st"
    refine ⟨g, Go, m, c, rfl, hg.kt (Kt.same s1), okG, hc, lG, fun g2 H2 s2 g20 g2c g2l => ?_⟩
    have s12 := s1.trans s2
    repeat walk_at "st"
    obtain ⟨b, hb⟩ : ∃ b, b = g1 + g2 + 1 := ⟨_, rfl⟩
    rw [← hb]
    have b1 : 1 ≤ b := by omega
    have b4 : b ≤ 400 := by omega
    have dF : ∀ t ∈ Fo, t.1.length = m ∧ Dg b t.1 := fun t ht => ⟨(okF t ht).1, fun p hp => ⟨((okF t ht).2 p hp).1, by have := g1l t ht p hp; omega⟩⟩
    have dG : ∀ t ∈ Go, t.1.length = m ∧ Dg b t.1 := fun t ht => ⟨(okG t ht).1, fun p hp => ⟨((okG t ht).2 p hp).1, by have := g2l t ht p hp; omega⟩⟩
    have dM : ∀ t ∈ mulT Fo Go, t.1.length = m ∧ Dg b t.1 := fun x hx => by
      obtain ⟨t, ht, hx⟩ := List.mem_flatMap.mp hx
      obtain ⟨u, hu, rfl⟩ := List.mem_map.mp hx
      refine ⟨addL_len (okF t ht).1 (okG u hu).1, fun p hp => ?_⟩
      have := addL_in (c := g1) (d := g2) (fun p hp => ⟨((okF t ht).2 p hp).1, g1l t ht p hp⟩) (fun p hp => ⟨((okG u hu).2 p hp).1, g2l u hu p hp⟩) p hp
      omega
    repeat walk_at "st"
    refine ⟨g, b, Go, m, rfl, hg.kt (Kt.same s12), b1, b4, hm, dG, lG, fun R1 rs H3 s3 n3 e3 pR => ?_⟩
    have s13 := s12.trans s3
    repeat walk_at "st"
    refine fun D nD => ?_
    have nD0 := s13.free nD
    have s4 := same_new nD (.dK [])
    have e4 : upd H3 D (.dK []) D = some (.dK (keysI (accOf (packT b [])))) := upd_same
    have nDR : R1 ≠ D := fun e => by rw [e, nD] at e3; cases e3
    have e34 := s4 _ _ e3
    have pR4 := Paired.mapP pR fun _ _ h => Pk.kt (Kt.same s4) h
    have g4 := s13.trans s4
    generalize upd H3 D (.dK []) = H4 at *
    clear s1 s2 s3 s12 s13 s4 nD n3 e3 pR
    repeat walk_at "st"
    with_reducible refine r_cut (fun σ H' => ∃ y5 y6 y7 y8 : Option V, σ = [some (.ref f), some (.ref g), some (.int b), some (.ref R1), some (.ref D), y5, y6, y7, y8, none] ∧ Same H H' ∧ H' D = some (.dK (keysI (accOf (packT b (mulT Fo Go)))))) ?U1 ?V1
    case V1 =>
      intro N J
      refine r_forL ?_
      repeat walk_at "st"
      refine ⟨f, b, Fo, m, rfl, hf.kt (Kt.same g4), b1, b4, hm, dF, lF, fun L1 ls H5 s5 n5 e5 pL => ?_⟩
      have l3 := Paired.length pL
      have nDL : L1 ≠ D := fun e => by rw [e, e4] at n5; cases n5
      have e35 := s5 _ _ e34
      have e45 := s5 _ _ e4
      have pR5 := Paired.mapP pR4 fun _ _ h => Pk.kt (Kt.same s5) h
      have l4 := Paired.length pR5
      refine ⟨L1, rfl, ⟨ls, lstOf e5⟩, ?_⟩
      refine for_list (xs := ls) (fun i σ H' => ∃ y5 y6 y7 y8 : Option V, σ = [some (.ref f), some (.ref g), some (.int b), some (.ref R1), some (.ref D), y5, y6, y7, y8, none] ∧ Same H H' ∧ H' D = some (.dK (keysI (accOf (packT b (mulT (Fo.take i) Go))))) ∧ (H' L1 = some (.lst ls) ∧ H' R1 = some (.lst rs) ∧ Kt H5 H')) ?_ ?_ ?_ ?_
      · exact ⟨_, _, _, _, rfl, g4.trans s5, e45, e5, e35, Kt.refl _⟩
      · rintro i σ H' _ ⟨_, _, _, _, _, _, _, e', _⟩
        exact lstOf e'
      · rintro i v σ H6 hv' ⟨y5, y6, y7, y8, rfl, g6, k6, e6, r6, kt6⟩
        obtain ⟨t, ht, a, rfl, ta⟩ := LiI.paired_get pL hv'
        have htm := List.mem_of_getElem? ht
        have hi : i < Fo.length := (List.getElem?_eq_some_iff.mp ht).1
        refine r_gT (tupOf (kt6 _ _ ta)) rfl ?_
        refine r_g2 ?_
        repeat walk_at "st"
        refine ⟨.ref R1, rfl, R1, rfl, ⟨rs, lstOf r6⟩, ?_⟩
        refine for_list (xs := rs) (fun j σ H' => ∃ y7 y8 : Option V, σ = [some (.ref f), some (.ref g), some (.int b), some (.ref R1), some (.ref D), some (.int (joinL b 0 t.1)), some (.int t.2), y7, y8, none] ∧ Same H H' ∧ H' D = some (.dK (keysI (accOf (packT b (mulT (Fo.take i) Go ++ pr1 t (Go.take j)))))) ∧ (H' L1 = some (.lst ls) ∧ H' R1 = some (.lst rs) ∧ Kt H5 H')) ?_ ?_ ?_ ?_
        · exact ⟨_, _, rfl, g6, by rw [List.take_zero, show pr1 t [] = [] from rfl, List.append_nil]; exact k6, e6, r6, kt6⟩
        · rintro j σ H' _ ⟨_, _, _, _, _, _, r', _⟩
          exact lstOf r'
        · rintro j v σ H7 hv7 ⟨y7', y8', rfl, g7, k7, e7, r7, kt7⟩
          obtain ⟨u, hu', a2, rfl, ta2⟩ := LiI.paired_get pR5 hv7
          have hum := List.mem_of_getElem? hu'
          have hj : j < Go.length := (List.getElem?_eq_some_iff.mp hu').1
          have lsz : (mulT (Fo.take i) Go ++ pr1 t (Go.take j)).length ≤ 9200000 := by
            rw [List.length_append, mul_len, List.length_take]
            unfold pr1
            rw [List.length_map, List.length_take]
            have h1 : min i Fo.length * Go.length ≤ Fo.length * Go.length := Nat.mul_le_mul_right _ (Nat.min_le_right _ _)
            omega
          rw [pr1_take hu', ← List.append_assoc, pack_app]
          have one1 : One (packT b (mulT (Fo.take i) Go ++ pr1 t (Go.take j))) := one_pack
          have lacc : (accOf (packT b (mulT (Fo.take i) Go ++ pr1 t (Go.take j)))).length ≤ _ := accs_len (packT b (mulT (Fo.take i) Go ++ pr1 t (Go.take j))) []
          have lpk : (packT b (mulT (Fo.take i) Go ++ pr1 t (Go.take j))).length = (mulT (Fo.take i) Go ++ pr1 t (Go.take j)).length := by unfold packT; rw [List.length_map]
          simp only [List.length_nil] at lacc
          rw [show packT b [(addL t.1 u.1, t.2 * u.2)] = [([joinL b 0 t.1 + joinL b 0 u.1], t.2 * u.2)] by unfold packT; rw [List.map_cons, List.map_nil, join_add _ _ ((dF t htm).1.trans (dG u hum).1.symm)], acc_snoc]
          have one2 := one_acc one1
          have nd := (acc_ok (packT b (mulT (Fo.take i) Go ++ pr1 t (Go.take j)))).nd
          generalize accOf (packT b (mulT (Fo.take i) Go ++ pr1 t (Go.take j))) = M at *
          refine r_gT (tupOf (kt7 _ _ ta2)) rfl ?_
          refine r_g2 ?_
          have cm : CMulW t.2 u.2 := (sF t htm).cmul (sG u hum) (by decide) (by decide) (by decide)
          repeat walk_at "st"
          refine r_dput ?_
          repeat walk_at "st"
          refine r_dget2 ?_
          repeat walk_at "st"
          refine ⟨D, rfl, .inl ⟨_, .inl k7⟩, ?_⟩
          repeat walk_at "st"
          refine ⟨_, DGet.k (k := .inl (joinL b 0 t.1 + joinL b 0 u.1)) k7, ?_⟩
          rw [keysI_getD one2]
          repeat walk_at "st"
          refine ⟨D, _, rfl, DPut.k (k := .inl (joinL b 0 t.1 + joinL b 0 u.1)) k7 (by unfold keysI; rw [List.length_map]; exact Nat.lt_of_le_of_lt (show M.length ≤ 9200000 by omega) (by decide)), ?_⟩
          rw [keysI_put one2 nd]
          refine ⟨_, _, rfl, same_updS g7 nD0, upd_same, by rw [upd_ne nDL]; exact e7, by rw [upd_ne nDR]; exact r7, kt7.trans fun q0 xs hq0 => ?_⟩
          rw [upd_ne (fun z => by rw [z, k7] at hq0; cases hq0)]
          exact hq0
        · rintro σ H7 ⟨y7', y8', rfl, g7, k7, e7, r7, kt7⟩
          rw [l4, List.take_length, ← mul_take ht] at k7
          exact ⟨_, _, _, _, rfl, g7, k7, e7, r7, kt7⟩
      · rintro σ H6 ⟨y5, y6, y7, y8, rfl, g6, k6, _⟩
        rw [l3, List.take_length] at k6
        exact J _ _ ⟨_, _, _, _, rfl, g6, k6⟩
    rintro σ H6 ⟨y5, y6, y7, y8, rfl, g6, k6⟩
    obtain ⟨v0, vr, rfl⟩ : ∃ v0 vr, us = v0 :: vr := by
      cases us with
      | nil => cases hu
      | cons v0 vr => exact ⟨v0, vr, rfl⟩
    obtain ⟨t0, ht0, a0, q0, hv0, ta0, pw0⟩ := tF.at (i := 0) (v := v0) rfl
    subst hv0
    have lm : t0.1.length = m := (okF t0 (List.mem_of_getElem? ht0)).1
    have ta06 := g6 _ _ ta0
    have pw06 := g6 _ _ pw0
    repeat walk_at "st"
    refine r_ixT0 (tupOf (g6 _ _ ef)) ?_
    repeat walk_at "st"
    refine ⟨q0, _, rfl, .inr (tupOf pw06), ?_⟩
    rw [List.length_map, lm]
    repeat walk_at "st"
    refine r_then ?_
    refine r_lcM ?_
    repeat walk_at "st"
    have one1 : One (packT b (mulT Fo Go)) := one_pack
    obtain ⟨ks0, hk1, hk2⟩ := keysI_keys (one_acc one1)
    refine ⟨D, _, ks0, rfl, k6, hk1, fun ks p hp hs np => ?_⟩
    obtain ⟨H7, e7, s7, k7⟩ := nw np (.lst (ks.map V.int))
    rw [← e7]
    clear e7
    have lk : ks.length ≤ 10000000 := by
      have h1 : (accOf (packT b (mulT Fo Go))).length ≤ _ := accs_len (packT b (mulT Fo Go)) []
      have h2 := congrArg List.length hk2
      simp only [List.length_map, List.length_nil] at h1 h2
      rw [show (packT b (mulT Fo Go)).length = (mulT Fo Go).length by unfold packT; rw [List.length_map], mul_len] at h1
      rw [hp.length_eq]
      omega
    have hpk : (ks.map fun k => [k]).Perm ((accOf (packT b (mulT Fo Go))).map (·.1)) := by
      rw [hk2]
      exact hp.map _
    have val : ∀ k ∈ ks, valV (keysI (accOf (packT b (mulT Fo Go)))) (.inl k : Key) = some (.int (sumK (packT b (mulT Fo Go)) [k])) := fun k hk => keysI_val one1 (hpk.mem_iff.mp (List.mem_map.mpr ⟨k, hk, rfl⟩))
    refine lc_ints (fun H v k => Tm H v (unp b m k, sumK (packT b (mulT Fo Go)) [k])) (fun k h => Tm.kt k h) (fun k => !decide (sumK (packT b (mulT Fo Go)) [k] = 0)) (lstOf k7) lk (fun _ => rfl) (fun k H' hk g' S kk => ?_) (fun k H' hk g' S kk => ?_) fun D2 vs2 H8 s8 n8 e8 pr => ?_
    · have dg := DGet.k (k := .inl k) (g' _ _ (s7 _ _ k6))
      rw [val k hk] at dg
      show tTest _ [some (.ref f), some (.ref g), some (.int b), some (.ref R1), some (.ref D), some (.int k), y6, y7, y8, some (.int (m : Int))] H' S
      repeat walk_at "st"
      refine r_dg ?_
      repeat walk_at "st"
      refine ⟨D, _, rfl, dg, ?_⟩
      repeat walk_at "st"
      exact kk H' (Same.refl _)
    · have dg := DGet.k (k := .inl k) (g' _ _ (s7 _ _ k6))
      rw [val k hk] at dg
      show tTup _ [some (.ref f), some (.ref g), some (.int b), some (.ref R1), some (.ref D), some (.int k), y6, y7, y8, some (.int (m : Int))] H' S
      repeat walk_at "st"
      refine ⟨k, b, m, rfl, b1, b4, hm, fun p9 H9 s9 n9 pw9 => ?_⟩
      repeat walk_at "st"
      refine r_dg ?_
      repeat walk_at "st"
      have dg9 := DGet.k (k := .inl k) (s9 _ _ (g' _ _ (s7 _ _ k6)))
      rw [val k hk] at dg9
      refine ⟨D, _, rfl, dg9, ?_⟩
      repeat walk_at "st"
      refine ⟨sz rfl, fun a9 na9 => ?_⟩
      exact kk _ _ (s9.trans (same_new na9 _)) ⟨a9, p9, rfl, upd_same, same_new na9 _ _ _ pw9⟩
    refine .inl ⟨D2, vs2, rfl, lstOf e8, fun r nr => ?_⟩
    have s9 := same_new nr (.tup vs2)
    have fin := fm_pack b1 dM hpk hs
    have ef2 : (ks.map fun k => (unp b m k, sumK (packT b (mulT Fo Go)) [k])).filter (fun t => !decide (t.2 = 0)) = (ks.filter fun k => !decide (sumK (packT b (mulT Fo Go)) [k] = 0)).map fun k => (unp b m k, sumK (packT b (mulT Fo Go)) [k]) := by
      rw [List.filter_map]
      rfl
    rw [ef2] at fin
    exact q r _ _ (g6.trans (s7.trans (s8.trans s9))) (((g6.trans s7).trans s8).free nr) ⟨vs2, upd_same, (tms_of pr).tmk (Kt.same s9)⟩ fin
  ) only [↓Mb.dischW]
theorem ok_unknown (F : Fn K mg "unknown" s_unknown) : Kn P w K mg base 1 "unknown" ["at", "many"] spUnknownF := by
  refine Mb.ofW ?_
  simp (discharger := with_unfolding_all
    refine F.kn sc_unknown (fun vs H Q E h => ?_) (fun f cdv A0 outer s H vs Q E hr h => ?_) (fun _ _ _ _ _ _ us hl => match us, hl with | [_, _], _ => rfl)
    · obtain ⟨a, m, rfl, _⟩ := h
      rfl
    obtain ⟨a, m, rfl, ha, hm, q⟩ := h
    refine ⟨_, (pss_one (ps_ret (pe_tup (pa_cons (pe_tup (pa_cons (pe_op op_catA (pe_op op_catA (pe_op op_repA (pe_tup (pa_cons pe_int pa_nil)) (pv 0)) (pe_tup (pa_cons pe_int pa_nil))) (pe_op op_repA (pe_tup (pa_cons pe_int pa_nil)) (pe_op op_sub (pe_op op_sub (pv 1) (pv 0)) pe_int))) (pa_cons pe_int pa_nil))) pa_nil)))), ?_⟩
    show (_ : TS) _ [some (.int (a : Int)), some (.int (m : Int))] _
    repeat walk_at "st"
    refine ⟨sz rfl, fun p1 n1 => ?_⟩
    have s1 := same_new n1 (.tup [.int 0])
    have e1 : upd H p1 (.tup [.int 0]) p1 = some (.tup [.int 0]) := upd_same
    generalize upd H p1 (.tup [.int 0]) = H1 at *
    repeat walk_at "st"
    refine r_repR e1 (by omega) (by omega) fun p2 H2 s2 e2 => ?_
    repeat walk_at "st"
    refine ⟨sz rfl, fun p3 n3 => ?_⟩
    have s3 := same_new n3 (.tup [.int 1])
    have e3 : upd H2 p3 (.tup [.int 1]) p3 = some (.tup [.int 1]) := upd_same
    generalize upd H2 p3 (.tup [.int 1]) = H3 at *
    repeat walk_at "st"
    refine r_catA (s3 _ _ e2) e3 (by rw [List.length_replicate]; exact Nat.le_trans (show _ ≤ 100 by simp only [List.length_cons, List.length_nil]; omega) (by decide)) fun p4 H4 s4 e4 => ?_
    repeat walk_at "st"
    refine ⟨sz rfl, fun p5 n5 => ?_⟩
    have s5 := same_new n5 (.tup [.int 0])
    have e5 : upd H4 p5 (.tup [.int 0]) p5 = some (.tup [.int 0]) := upd_same
    generalize upd H4 p5 (.tup [.int 0]) = H5 at *
    repeat walk_at "st"
    refine r_repR e5 (by omega) (by omega) fun p6 H6 s6 e6 => ?_
    repeat walk_at "st"
    refine r_catA (s6 _ _ (s5 _ _ e4)) e6 (by simp only [List.length_append, List.length_replicate, List.length_cons, List.length_nil]; exact Nat.le_trans (show _ ≤ 100 by omega) (by decide)) fun p7 H7 s7 e7 => ?_
    repeat walk_at "st"
    refine ⟨sz rfl, fun p8 n8 => ?_⟩
    have s8 := same_new n8 (.tup [.ref p7, .int 1])
    have e8 : upd H7 p8 (.tup [.ref p7, .int 1]) p8 = some (.tup [.ref p7, .int 1]) := upd_same
    generalize upd H7 p8 (.tup [.ref p7, .int 1]) = H8 at *
    repeat walk_at "st"
    refine ⟨sz rfl, fun p9 n9 => ?_⟩
    have s9 := same_new n9 (.tup [.ref p8])
    have eu : List.replicate ((a : Int)).toNat (V.int 0) ++ [V.int 1] ++ List.replicate ((m : Int) - (a : Int) - 1).toNat (V.int 0) = (unitL a m).map V.int := by
      unfold unitL
      rw [List.map_append, List.map_cons, List.map_replicate, List.map_replicate, List.append_assoc, show ((a : Int)).toNat = a by omega, show ((m : Int) - (a : Int) - 1).toNat = m - a - 1 by omega]
      rfl
    rw [eu] at e7
    refine q _ _ (s1.trans (s2.trans (s3.trans (s4.trans (s5.trans (s6.trans (s7.trans (s8.trans s9)))))))) ?_
    refine (fo_one upd_same (s9 _ _ e8) ((s8.trans s9) _ _ e7) (by decide) (unit_len ha) unit_nn (by rw [unit_sum]; decide) (show Sm 10 1 by decide)).congr fun rs hr => ?_
    subst hr
    show ((1 : Int) : Rat) * _ = _
    rw [rmon_unit ha]
    grind
  ) only [↓Mb.dischW]
theorem ok_free_at (F : Fn K mg "free_at" s_free_at) (G_unknown : Kn P w K mg base 1 "unknown" ["at", "many"] spUnknownF) : Kn P w K mg base 2 "free_at" ["number", "many"] (spFreeAt K) := by
  refine Mb.ofW ?_
  simp (discharger := with_unfolding_all
    refine F.kn sc_free_at (fun vs H Q E h => ?_) (fun f cdv A0 outer s H vs Q E hr h => ?_) (fun _ _ _ _ _ _ us hl => match us, hl with | [_, _], _ => rfl)
    · obtain ⟨k, m, rfl, _⟩ := h
      rfl
    obtain ⟨k, m, rfl, hk, hm, q⟩ := h
    refine ⟨_, (pss_cons (ps_set (i := 2) sc_free_at.nd rfl (.inl rfl) (pe_tup (pa_cons (pe_tup (pa_cons (pe_op op_repA (pe_tup (pa_cons pe_int pa_nil)) (pv 1)) (pa_cons pe_int pa_nil))) pa_nil)))
      (pss_cons (ps_if (pt_cmpR op_eq (pv 0) pe_int (nomark _))
      (pss_one (ps_ret (pe_tup (pa_cons (pe_tup pa_nil) (pa_cons (pe_tup pa_nil) (pa_cons (pv 2) pa_nil))))))
      pss_nil)
      (pss_cons (ps_if (pt_cmpR op_eq (pv 0) pe_int (nomark _))
      (pss_one (ps_ret (pe_tup (pa_cons (pv 2) (pa_cons (pe_tup pa_nil) (pa_cons (pv 2) pa_nil))))))
      pss_nil)
      (pss_one (ps_ret (pe_tup (pa_cons (pe_kn G_unknown (hr.mono (by decide)) (by rfl) (pa_cons (pe_op op_sub (pe_op op_mulW pe_int (pv 0)) pe_int) (pa_cons (pv 1) pa_nil))) (pa_cons (pe_kn G_unknown (hr.mono (by decide)) (by rfl) (pa_cons (pe_op op_sub (pe_op op_mulW pe_int (pv 0)) pe_int) (pa_cons (pv 1) pa_nil))) (pa_cons (pv 2) pa_nil))))))))), ?_⟩
    show (_ : TS) _ [some (.int (k : Int)), some (.int (m : Int)), none] _
    repeat walk_at "st"
    refine ⟨sz rfl, fun p1 n1 => ?_⟩
    have s1 := same_new n1 (.tup [.int 0])
    have e1 : upd H p1 (.tup [.int 0]) p1 = some (.tup [.int 0]) := upd_same
    generalize upd H p1 (.tup [.int 0]) = H1 at *
    repeat walk_at "st"
    refine r_repR e1 (by omega) (by omega) fun p2 H2 s2 e2 => ?_
    repeat walk_at "st"
    refine ⟨sz rfl, fun p3 n3 => ?_⟩
    have s3 := same_new n3 (.tup [.ref p2, .int 1])
    have e3 : upd H2 p3 (.tup [.ref p2, .int 1]) p3 = some (.tup [.ref p2, .int 1]) := upd_same
    generalize upd H2 p3 (.tup [.ref p2, .int 1]) = H3 at *
    repeat walk_at "st"
    refine ⟨sz rfl, fun p4 n4 => ?_⟩
    have s4 := same_new n4 (.tup [.ref p3])
    have e4 : upd H3 p4 (.tup [.ref p3]) p4 = some (.tup [.ref p3]) := upd_same
    generalize upd H3 p4 (.tup [.ref p3]) = H4 at *
    have ez : List.replicate ((m : Int)).toNat (V.int 0) = (List.replicate m (0 : Int)).map V.int := by rw [List.map_replicate, show ((m : Int)).toNat = m by omega]
    rw [ez] at e2
    have one : Fo H4 (.ref p4) m 1 10 (fun _ => 1) := (fo_one e4 (s4 _ _ e3) ((s3.trans s4) _ _ e2) (by decide) (List.length_replicate) rep_nn (by rw [sum_rep]; decide) (show Sm 10 1 by decide)).congr fun rs hr => by
      subst hr
      show ((1 : Int) : Rat) * _ = _
      rw [rmon_zero]
      grind
    have g4 := s1.trans (s2.trans (s3.trans s4))
    clear s1 s2 s3 s4 e1 e2 e3 e4 n1 n3 n4
    refine r_seq ?_
    repeat walk_at "st"
    refine r_ite (c := (k : Int) = 0) (fun c => ?_) (fun c => ?_)
    · repeat walk_at "st"
      refine ⟨sz rfl, fun p5 n5 => ?_⟩
      have s5 := same_new n5 (.tup [])
      have e5 : upd H4 p5 (.tup []) p5 = some (.tup []) := upd_same
      generalize upd H4 p5 (.tup []) = H5 at *
      repeat walk_at "st"
      refine ⟨sz rfl, fun p6 n6 => ?_⟩
      have s6 := same_new n6 (.tup [])
      have e6 : upd H5 p6 (.tup []) p6 = some (.tup []) := upd_same
      generalize upd H5 p6 (.tup []) = H6 at *
      repeat walk_at "st"
      refine ⟨sz rfl, fun p7 n7 => ?_⟩
      have s7 := same_new n7 (.tup [.ref p5, .ref p6, .ref p4])
      have k0 : k = 0 := by omega
      subst k0
      exact q _ _ (g4.trans (s5.trans (s6.trans s7))) (fos3 (tupOf upd_same) (fo_zero ((s6.trans s7) _ _ e5)) (fo_zero (s7 _ _ e6)) (one.same (s5.trans (s6.trans s7))))
    · repeat walk_at "st"
      refine r_seq ?_
      repeat walk_at "st"
      refine r_ite (c := (k : Int) = 1) (fun c1 => ?_) (fun c1 => ?_)
      · repeat walk_at "st"
        refine ⟨sz rfl, fun p6 n6 => ?_⟩
        have s6 := same_new n6 (.tup [])
        have e6 : upd H4 p6 (.tup []) p6 = some (.tup []) := upd_same
        generalize upd H4 p6 (.tup []) = H6 at *
        repeat walk_at "st"
        refine ⟨sz rfl, fun p7 n7 => ?_⟩
        have s7 := same_new n7 (.tup [.ref p4, .ref p6, .ref p4])
        have k0 : k = 1 := by omega
        subst k0
        exact q _ _ (g4.trans (s6.trans s7)) (fos3 (tupOf upd_same) (one.same (s6.trans s7)) (fo_zero (s7 _ _ e6)) (one.same (s6.trans s7)))
      · have k2 : 2 ≤ k := by omega
        have hk2 := hk k2
        repeat walk_at "st"
        refine r_i (cm_small (by decide) (by omega)) ?_
        repeat walk_at "st"
        rw [show (2 : Int) * (k : Int) - 4 = ((2 * k - 4 : Nat) : Int) by omega]
        refine ⟨2 * k - 4, m, rfl, by omega, hm, fun r5 H5 s5 o5 => ?_⟩
        repeat walk_at "st"
        refine r_i (cm_small (by decide) (by omega)) ?_
        repeat walk_at "st"
        rw [show (2 : Int) * (k : Int) - 3 = ((2 * k - 3 : Nat) : Int) by omega]
        refine ⟨2 * k - 3, m, rfl, by omega, hm, fun r6 H6 s6 o6 => ?_⟩
        repeat walk_at "st"
        refine ⟨sz rfl, fun p7 n7 => ?_⟩
        have s7 := same_new n7 (.tup [r5, r6, .ref p4])
        refine q _ _ (g4.trans (s5.trans (s6.trans s7))) (fos3 (tupOf upd_same) ((o5.same (s6.trans s7)).congr fun rs _ => ?_) ((o6.same s7).congr fun rs _ => ?_) (one.same (s5.trans (s6.trans s7))))
        · unfold freeX
          rw [if_neg (by omega), if_neg (by omega)]
        · unfold freeY
          rw [if_neg (by omega), if_neg (by omega)]
  ) only [↓Mb.dischW]
theorem ok_cross (F : Fn K mg "cross" s_cross) (G_taken : Kn P w K mg base 3 "taken" ["form", "other"] spTakeQ) (G_multiplied : Kn P w K mg base 3 "multiplied" ["form", "other"] spMulQ) : Kn P w K mg base 4 "cross" ["one", "other", "at", "to"] (spCross K) := by
  refine Mb.ofW ?_
  simp (discharger := with_unfolding_all
    refine F.kn sc_cross (fun vs H Q E h => ?_) (fun f cdv A0 outer s H vs Q E hr h => ?_) (fun _ _ _ _ _ _ us hl => match us, hl with | [_, _, _, _], _ => rfl)
    · obtain ⟨v, w_, i, j, n, m, d, e, S, T, φ, ψ, rfl, _⟩ := h
      rfl
    obtain ⟨v, w_, i, j, n, m, d, e, S, T, φ, ψ, rfl, hv, hw, hi, hj, hc, hm, hd, hS, q⟩ := h
    refine ⟨_, (pss_one (ps_ret (pe_kn G_taken (hr.mono (by decide)) (by rfl) (pa_cons (pe_kn G_multiplied (hr.mono (by decide)) (by rfl) (pa_cons (pe_ix ix_tup (pv 0) (pv 2) (fun _ _ => rfl)) (pa_cons (pe_ix ix_tup (pv 1) (pv 3) (fun _ _ => rfl)) pa_nil))) (pa_cons (pe_kn G_multiplied (hr.mono (by decide)) (by rfl) (pa_cons (pe_ix ix_tup (pv 0) (pv 3) (fun _ _ => rfl)) (pa_cons (pe_ix ix_tup (pv 1) (pv 2) (fun _ _ => rfl)) pa_nil))) pa_nil))))), ?_⟩
    show (_ : TS) _ [some (v), some (w_), some (.int (i : Int)), some (.int (j : Int))] _
    repeat walk_at "st"
    obtain ⟨v1, o1, x1⟩ := Fos.ix hv i hi
    refine x1 _ ?_
    repeat walk_at "st"
    obtain ⟨v2, o2, x2⟩ := Fos.ix hw j hj
    refine x2 _ ?_
    repeat walk_at "st"
    refine ⟨_, _, m, _, _, _, _, _, _, rfl, o1, o2, cl hc (by omega), cl hc (by omega), hm, by omega, by omega, by omega, by omega, fun r3 H3 s3 o3 => ?_⟩
    repeat walk_at "st"
    obtain ⟨v4, o4, x4⟩ := Fos.ix (hv.same s3) j hj
    refine x4 _ ?_
    repeat walk_at "st"
    obtain ⟨v5, o5, x5⟩ := Fos.ix (hw.same s3) i hi
    refine x5 _ ?_
    repeat walk_at "st"
    refine ⟨_, _, m, _, _, _, _, _, _, rfl, o4, o5, cl hc (by omega), cl hc (by omega), hm, by omega, by omega, by omega, by omega, fun r6 H6 s6 o6 => ?_⟩
    repeat walk_at "st"
    refine ⟨_, _, m, _, _, _, _, _, _, rfl, (o3.same s6), o6, cl hc (by omega), cl hc (by omega), by omega, fun r7 H7 s7 o7 => ?_⟩
    exact q _ _ ((s3.trans s6).trans s7) (o7.mono (by omega) (by omega))
  ) only [↓Mb.dischW]
theorem ok_crossed (F : Fn K mg "crossed" s_crossed) (G_cross : Kn P w K mg base 4 "cross" ["one", "other", "at", "to"] (spCross K)) : Kn P w K mg base 5 "crossed" ["one", "other"] (spCrossed K) := by
  refine Mb.ofW ?_
  simp (discharger := with_unfolding_all
    refine F.kn sc_crossed (fun vs H Q E h => ?_) (fun f cdv A0 outer s H vs Q E hr h => ?_) (fun _ _ _ _ _ _ us hl => match us, hl with | [_, _], _ => rfl)
    · obtain ⟨v, w_, m, d, e, S, T, φ, ψ, rfl, _⟩ := h
      rfl
    obtain ⟨v, w_, m, d, e, S, T, φ, ψ, rfl, hv, hw, hc, hm, hd, hS, q⟩ := h
    refine ⟨_, (pss_one (ps_ret (pe_tup (pa_cons (pe_kn G_cross (hr.mono (by decide)) (by rfl) (pa_cons (pv 0) (pa_cons (pv 1) (pa_cons pe_int (pa_cons pe_int pa_nil))))) (pa_cons (pe_kn G_cross (hr.mono (by decide)) (by rfl) (pa_cons (pv 0) (pa_cons (pv 1) (pa_cons pe_int (pa_cons pe_int pa_nil))))) (pa_cons (pe_kn G_cross (hr.mono (by decide)) (by rfl) (pa_cons (pv 0) (pa_cons (pv 1) (pa_cons pe_int (pa_cons pe_int pa_nil))))) pa_nil)))))), ?_⟩
    show (_ : TS) _ [some (v), some (w_)] _
    repeat walk_at "st"
    refine ⟨_, _, 1, 2, 3, m, _, _, _, _, _, _, rfl, hv, hw, by omega, by omega, cl hc (by omega), hm, by omega, by omega, fun r1 H1 s1 o1 => ?_⟩
    repeat walk_at "st"
    refine ⟨_, _, 2, 0, 3, m, _, _, _, _, _, _, rfl, (hv.same s1), (hw.same s1), by omega, by omega, cl hc (by omega), hm, by omega, by omega, fun r2 H2 s2 o2 => ?_⟩
    repeat walk_at "st"
    refine ⟨_, _, 1, 0, 3, m, _, _, _, _, _, _, rfl, (hv.same (s1.trans s2)), (hw.same (s1.trans s2)), by omega, by omega, cl hc (by omega), hm, by omega, by omega, fun r3 H3 s3 o3 => ?_⟩
    repeat walk_at "st"
    refine ⟨sz rfl, fun p4 n4 => ?_⟩
    refine q _ _ (((s1.trans s2).trans s3).trans (same_new n4 _)) ?_
    refine fos3 (tupOf upd_same) ?_ ?_ ?_
    · refine (((o1.same (s2.trans s3)).same (same_new n4 _)).mono (by omega) (by omega)).congr fun rs _ => ?_
      first | rfl | grind [hingeF, shortF]
    · refine (((o2.same s3).same (same_new n4 _)).mono (by omega) (by omega)).congr fun rs _ => ?_
      first | rfl | grind [hingeF, shortF]
    · refine ((o3.same (same_new n4 _)).mono (by omega) (by omega)).congr fun rs _ => ?_
      first | rfl | grind [hingeF, shortF]
  ) only [↓Mb.dischW]
theorem ok_squared (F : Fn K mg "squared" s_squared) (G_multiplied : Kn P w K mg base 3 "multiplied" ["form", "other"] spMulQ) : Kn P w K mg base 4 "squared" ["form"] spSquared := by
  refine F.kn sc_squared (fun vs H Q E h => ?_) (fun f cdv A0 outer s H vs Q E hr h => ?_) (fun _ _ _ _ _ _ us hl => match us, hl with | [_], _ => rfl)
  · obtain ⟨v, m, d, S, φ, rfl, _⟩ := h
    rfl
  obtain ⟨v, m, d, S, φ, rfl, hv, hc, hm, hd, hS, q⟩ := h
  refine ⟨_, (pss_one (ps_ret (pe_kn G_multiplied (hr.mono (by decide)) (by rfl) (pa_cons (pv 0) (pa_cons (pv 0) pa_nil))))), ?_⟩
  show (_ : TS) _ [some (v)] _
  repeat walk_at "st"
  refine ⟨_, _, m, _, _, _, _, _, _, rfl, hv, hv, cl hc (by omega), cl hc (by omega), hm, by omega, by omega, by omega, by omega, fun r1 H1 s1 o1 => ?_⟩
  exact q _ _ s1 o1
theorem ok_hinge_of_line (F : Fn K mg "hinge_of_line" s_hinge_of_line) (G_added : Kn P w K mg base 2 "added" ["form", "other"] spAddQ) (G_squared : Kn P w K mg base 4 "squared" ["form"] spSquared) : Kn P w K mg base 5 "hinge_of_line" ["line"] (spHinge K) := by
  refine Mb.ofW ?_
  simp (discharger := with_unfolding_all
    refine F.kn sc_hinge_of_line (fun vs H Q E h => ?_) (fun f cdv A0 outer s H vs Q E hr h => ?_) (fun _ _ _ _ _ _ us hl => match us, hl with | [_], _ => rfl)
    · obtain ⟨v, m, d, S, φ, rfl, _⟩ := h
      rfl
    obtain ⟨v, m, d, S, φ, rfl, hv, hc0, hc, hm, hd, hS, q⟩ := h
    refine ⟨_, (pss_one (ps_ret (pe_kn G_added (hr.mono (by decide)) (by rfl) (pa_cons (pe_kn G_squared (hr.mono (by decide)) (by rfl) (pa_cons (pe_ix ix_tup (pv 0) pe_int (fun _ _ => rfl)) pa_nil)) (pa_cons (pe_kn G_squared (hr.mono (by decide)) (by rfl) (pa_cons (pe_ix ix_tup (pv 0) pe_int (fun _ _ => rfl)) pa_nil)) pa_nil))))), ?_⟩
    show (_ : TS) _ [some (v)] _
    repeat walk_at "st"
    obtain ⟨v1, o1, x1⟩ := Fos.ix hv 0 (by omega)
    refine x1 _ ?_
    repeat walk_at "st"
    refine ⟨_, m, _, _, _, rfl, o1, hc0, hm, by omega, by omega, fun r2 H2 s2 o2 => ?_⟩
    repeat walk_at "st"
    obtain ⟨v3, o3, x3⟩ := Fos.ix (hv.same s2) 1 (by omega)
    refine x3 _ ?_
    repeat walk_at "st"
    refine ⟨_, m, _, _, _, rfl, o3, hc0, hm, by omega, by omega, fun r4 H4 s4 o4 => ?_⟩
    repeat walk_at "st"
    refine ⟨_, _, m, _, _, _, _, _, _, rfl, (o2.same s4), o4, cl hc (by omega), cl hc (by omega), fun r5 H5 s5 o5 => ?_⟩
    exact q _ _ ((s2.trans s4).trans s5) (o5.mono (by omega) (by omega))
  ) only [↓Mb.dischW]
theorem ok_line_at (F : Fn K mg "line_at" s_line_at) (G_added : Kn P w K mg base 2 "added" ["form", "other"] spAddQ) (G_multiplied : Kn P w K mg base 3 "multiplied" ["form", "other"] spMulQ) : Kn P w K mg base 4 "line_at" ["p", "a", "b"] (spLineAt K) := by
  refine Mb.ofW ?_
  simp (discharger := with_unfolding_all
    refine F.kn sc_line_at (fun vs H Q E h => ?_) (fun f cdv A0 outer s H vs Q E hr h => ?_) (fun _ _ _ _ _ _ us hl => match us, hl with | [_, _, _], _ => rfl)
    · obtain ⟨v, a, b, m, d, e, S, T, φ, α, β, rfl, _⟩ := h
      rfl
    obtain ⟨v, a, b, m, d, e, S, T, φ, α, β, rfl, hv, ha, hb, hc, hm, hd, hS, q⟩ := h
    refine ⟨_, (pss_one (ps_ret (pe_tup (pa_cons (pe_kn G_multiplied (hr.mono (by decide)) (by rfl) (pa_cons (pv 1) (pa_cons (pe_ix ix_tup (pv 0) pe_int (fun _ _ => rfl)) pa_nil))) (pa_cons (pe_kn G_multiplied (hr.mono (by decide)) (by rfl) (pa_cons (pv 2) (pa_cons (pe_ix ix_tup (pv 0) pe_int (fun _ _ => rfl)) pa_nil))) (pa_cons (pe_kn G_added (hr.mono (by decide)) (by rfl) (pa_cons (pe_kn G_multiplied (hr.mono (by decide)) (by rfl) (pa_cons (pv 1) (pa_cons (pe_ix ix_tup (pv 0) pe_int (fun _ _ => rfl)) pa_nil))) (pa_cons (pe_kn G_multiplied (hr.mono (by decide)) (by rfl) (pa_cons (pv 2) (pa_cons (pe_ix ix_tup (pv 0) pe_int (fun _ _ => rfl)) pa_nil))) pa_nil))) pa_nil)))))), ?_⟩
    show (_ : TS) _ [some (v), some (a), some (b)] _
    repeat walk_at "st"
    obtain ⟨v1, o1, x1⟩ := Fos.ix hv 2 (by omega)
    refine x1 _ ?_
    repeat walk_at "st"
    refine ⟨_, _, m, _, _, _, _, _, _, rfl, ha, o1, cl hc (by omega), cl hc (by omega), hm, by omega, by omega, by omega, by omega, fun r2 H2 s2 o2 => ?_⟩
    repeat walk_at "st"
    obtain ⟨v3, o3, x3⟩ := Fos.ix (hv.same s2) 2 (by omega)
    refine x3 _ ?_
    repeat walk_at "st"
    refine ⟨_, _, m, _, _, _, _, _, _, rfl, (hb.same s2), o3, cl hc (by omega), cl hc (by omega), hm, by omega, by omega, by omega, by omega, fun r4 H4 s4 o4 => ?_⟩
    repeat walk_at "st"
    obtain ⟨v5, o5, x5⟩ := Fos.ix (hv.same (s2.trans s4)) 0 (by omega)
    refine x5 _ ?_
    repeat walk_at "st"
    refine ⟨_, _, m, _, _, _, _, _, _, rfl, (ha.same (s2.trans s4)), o5, cl hc (by omega), cl hc (by omega), hm, by omega, by omega, by omega, by omega, fun r6 H6 s6 o6 => ?_⟩
    repeat walk_at "st"
    obtain ⟨v7, o7, x7⟩ := Fos.ix (hv.same ((s2.trans s4).trans s6)) 1 (by omega)
    refine x7 _ ?_
    repeat walk_at "st"
    refine ⟨_, _, m, _, _, _, _, _, _, rfl, (hb.same ((s2.trans s4).trans s6)), o7, cl hc (by omega), cl hc (by omega), hm, by omega, by omega, by omega, by omega, fun r8 H8 s8 o8 => ?_⟩
    repeat walk_at "st"
    refine ⟨_, _, m, _, _, _, _, _, _, rfl, (o6.same s8), o8, cl hc (by omega), cl hc (by omega), fun r9 H9 s9 o9 => ?_⟩
    repeat walk_at "st"
    refine ⟨sz rfl, fun p10 n10 => ?_⟩
    refine q _ _ (((((s2.trans s4).trans s6).trans s8).trans s9).trans (same_new n10 _)) ?_
    refine fos3 (tupOf upd_same) ?_ ?_ ?_
    · refine (((o2.same (((s4.trans s6).trans s8).trans s9)).same (same_new n10 _)).mono (by omega) (by omega)).congr fun rs _ => ?_
      first | rfl | grind [hingeF, shortF]
    · refine (((o4.same ((s6.trans s8).trans s9)).same (same_new n10 _)).mono (by omega) (by omega)).congr fun rs _ => ?_
      first | rfl | grind [hingeF, shortF]
    · refine ((o9.same (same_new n10 _)).mono (by omega) (by omega)).congr fun rs _ => ?_
      first | rfl | grind [hingeF, shortF]
  ) only [↓Mb.dischW]
theorem ok_toward (F : Fn K mg "toward" s_toward) (G_added : Kn P w K mg base 2 "added" ["form", "other"] spAddQ) (G_hinge_of_line : Kn P w K mg base 5 "hinge_of_line" ["line"] (spHinge K)) (G_multiplied : Kn P w K mg base 3 "multiplied" ["form", "other"] spMulQ) (G_scaled : Kn P w K mg base 2 "scaled" ["form", "number"] spScaleQ) (G_taken : Kn P w K mg base 3 "taken" ["form", "other"] spTakeQ) : Kn P w K mg base 6 "toward" ["p", "line", "times"] (spToward K) := by
  refine Mb.ofW ?_
  simp (discharger := with_unfolding_all
    refine F.kn sc_toward (fun vs H Q E h => ?_) (fun f cdv A0 outer s H vs Q E hr h => ?_) (fun _ _ _ _ _ _ us hl => match us, hl with | [_, _, _], _ => rfl)
    · obtain ⟨v, w_, k, m, d, e, S, T, φ, ψ, rfl, _⟩ := h
      rfl
    obtain ⟨v, w_, k, m, d, e, S, T, φ, ψ, rfl, sk, hv, hw, hc, hm, hd, hS, q⟩ := h
    refine ⟨_, (pss_cons (ps_asg (pv 1) (pg_tup (by rfl) (pgs_cons (pg_name (i := 3) sc_toward.nd rfl (.inl rfl)) (pgs_cons (pg_name (i := 4) sc_toward.nd rfl (.inl rfl)) (pgs_cons (pg_name (i := 5) sc_toward.nd rfl (.inl rfl)) pgs_nil)))))
      (pss_cons (ps_set (i := 6) sc_toward.nd rfl (.inl rfl) (pe_kn G_hinge_of_line (hr.mono (by decide)) (by rfl) (pa_cons (pv 1) pa_nil)))
      (pss_cons (ps_set (i := 7) sc_toward.nd rfl (.inl rfl) (pe_kn G_scaled (hr.mono (by decide)) (by rfl) (pa_cons (pe_kn G_taken (hr.mono (by decide)) (by rfl) (pa_cons (pe_kn G_multiplied (hr.mono (by decide)) (by rfl) (pa_cons (pv 5) (pa_cons (pe_ix ix_tup (pv 0) pe_int (fun _ _ => rfl)) pa_nil))) (pa_cons (pe_kn G_added (hr.mono (by decide)) (by rfl) (pa_cons (pe_kn G_multiplied (hr.mono (by decide)) (by rfl) (pa_cons (pv 3) (pa_cons (pe_ix ix_tup (pv 0) pe_int (fun _ _ => rfl)) pa_nil))) (pa_cons (pe_kn G_multiplied (hr.mono (by decide)) (by rfl) (pa_cons (pv 4) (pa_cons (pe_ix ix_tup (pv 0) pe_int (fun _ _ => rfl)) pa_nil))) pa_nil))) pa_nil))) (pa_cons (pv 2) pa_nil))))
      (pss_cons (ps_set (i := 8) sc_toward.nd rfl (.inl rfl) (pe_kn G_added (hr.mono (by decide)) (by rfl) (pa_cons (pe_kn G_multiplied (hr.mono (by decide)) (by rfl) (pa_cons (pe_ix ix_tup (pv 0) pe_int (fun _ _ => rfl)) (pa_cons (pv 6) pa_nil))) (pa_cons (pe_kn G_multiplied (hr.mono (by decide)) (by rfl) (pa_cons (pv 3) (pa_cons (pv 7) pa_nil))) pa_nil))))
      (pss_cons (ps_set (i := 9) sc_toward.nd rfl (.inl rfl) (pe_kn G_added (hr.mono (by decide)) (by rfl) (pa_cons (pe_kn G_multiplied (hr.mono (by decide)) (by rfl) (pa_cons (pe_ix ix_tup (pv 0) pe_int (fun _ _ => rfl)) (pa_cons (pv 6) pa_nil))) (pa_cons (pe_kn G_multiplied (hr.mono (by decide)) (by rfl) (pa_cons (pv 4) (pa_cons (pv 7) pa_nil))) pa_nil))))
      (pss_one (ps_ret (pe_tup (pa_cons (pv 8) (pa_cons (pv 9) (pa_cons (pe_kn G_multiplied (hr.mono (by decide)) (by rfl) (pa_cons (pe_ix ix_tup (pv 0) pe_int (fun _ _ => rfl)) (pa_cons (pv 6) pa_nil))) pa_nil))))))))))), ?_⟩
    show (_ : TS) _ [some (v), some (w_), some (.int k), none, none, none, none, none, none, none] _
    repeat walk_at "st"
    obtain ⟨a1, fs, rfl, ta, lf, fa⟩ := id hw
    obtain ⟨c0, c1, c2, rfl⟩ : ∃ c0 c1 c2 : V, fs = [c0, c1, c2] := by
      match fs, lf with
      | [x, y, z], _ => exact ⟨x, y, z, rfl⟩
    have l0 := fa 0 c0 rfl
    have l1 := fa 1 c1 rfl
    have l2 := fa 2 c2 rfl
    refine r_gT ta rfl ?_
    refine r_g3 ?_
    repeat walk_at "st"
    refine ⟨_, m, _, _, _, rfl, hw, cl hc (by omega), cl hc (by omega), hm, by omega, by omega, fun r1 H1 s1 o1 => ?_⟩
    repeat walk_at "st"
    obtain ⟨v2, o2, x2⟩ := Fos.ix (hv.same s1) 2 (by omega)
    refine x2 _ ?_
    repeat walk_at "st"
    refine ⟨_, _, m, _, _, _, _, _, _, rfl, (l2.same s1), o2, cl hc (by omega), cl hc (by omega), hm, by omega, by omega, by omega, by omega, fun r3 H3 s3 o3 => ?_⟩
    repeat walk_at "st"
    obtain ⟨v4, o4, x4⟩ := Fos.ix (hv.same (s1.trans s3)) 0 (by omega)
    refine x4 _ ?_
    repeat walk_at "st"
    refine ⟨_, _, m, _, _, _, _, _, _, rfl, (l0.same (s1.trans s3)), o4, cl hc (by omega), cl hc (by omega), hm, by omega, by omega, by omega, by omega, fun r5 H5 s5 o5 => ?_⟩
    repeat walk_at "st"
    obtain ⟨v6, o6, x6⟩ := Fos.ix (hv.same ((s1.trans s3).trans s5)) 1 (by omega)
    refine x6 _ ?_
    repeat walk_at "st"
    refine ⟨_, _, m, _, _, _, _, _, _, rfl, (l1.same ((s1.trans s3).trans s5)), o6, cl hc (by omega), cl hc (by omega), hm, by omega, by omega, by omega, by omega, fun r7 H7 s7 o7 => ?_⟩
    repeat walk_at "st"
    refine ⟨_, _, m, _, _, _, _, _, _, rfl, (o5.same s7), o7, cl hc (by omega), cl hc (by omega), fun r8 H8 s8 o8 => ?_⟩
    repeat walk_at "st"
    refine ⟨_, _, m, _, _, _, _, _, _, rfl, (o3.same ((s5.trans s7).trans s8)), o8, cl hc (by omega), cl hc (by omega), by omega, fun r9 H9 s9 o9 => ?_⟩
    repeat walk_at "st"
    refine ⟨_, _, m, _, _, _, _, rfl, o9, sk, by decide, cl hc (by omega), by omega, fun r10 H10 s10 o10 => ?_⟩
    repeat walk_at "st"
    obtain ⟨v11, o11, x11⟩ := Fos.ix (hv.same ((((((s1.trans s3).trans s5).trans s7).trans s8).trans s9).trans s10)) 0 (by omega)
    refine x11 _ ?_
    repeat walk_at "st"
    refine ⟨_, _, m, _, _, _, _, _, _, rfl, o11, (o1.same (((((s3.trans s5).trans s7).trans s8).trans s9).trans s10)), cl hc (by omega), cl hc (by omega), hm, by omega, by omega, by omega, by omega, fun r12 H12 s12 o12 => ?_⟩
    repeat walk_at "st"
    refine ⟨_, _, m, _, _, _, _, _, _, rfl, (l0.same (((((((s1.trans s3).trans s5).trans s7).trans s8).trans s9).trans s10).trans s12)), (o10.same s12), cl hc (by omega), cl hc (by omega), hm, by omega, by omega, by omega, by omega, fun r13 H13 s13 o13 => ?_⟩
    repeat walk_at "st"
    refine ⟨_, _, m, _, _, _, _, _, _, rfl, (o12.same s13), o13, cl hc (by omega), cl hc (by omega), fun r14 H14 s14 o14 => ?_⟩
    repeat walk_at "st"
    obtain ⟨v15, o15, x15⟩ := Fos.ix (hv.same (((((((((s1.trans s3).trans s5).trans s7).trans s8).trans s9).trans s10).trans s12).trans s13).trans s14)) 1 (by omega)
    refine x15 _ ?_
    repeat walk_at "st"
    refine ⟨_, _, m, _, _, _, _, _, _, rfl, o15, (o1.same ((((((((s3.trans s5).trans s7).trans s8).trans s9).trans s10).trans s12).trans s13).trans s14)), cl hc (by omega), cl hc (by omega), hm, by omega, by omega, by omega, by omega, fun r16 H16 s16 o16 => ?_⟩
    repeat walk_at "st"
    refine ⟨_, _, m, _, _, _, _, _, _, rfl, (l1.same ((((((((((s1.trans s3).trans s5).trans s7).trans s8).trans s9).trans s10).trans s12).trans s13).trans s14).trans s16)), (o10.same (((s12.trans s13).trans s14).trans s16)), cl hc (by omega), cl hc (by omega), hm, by omega, by omega, by omega, by omega, fun r17 H17 s17 o17 => ?_⟩
    repeat walk_at "st"
    refine ⟨_, _, m, _, _, _, _, _, _, rfl, (o16.same s17), o17, cl hc (by omega), cl hc (by omega), fun r18 H18 s18 o18 => ?_⟩
    repeat walk_at "st"
    obtain ⟨v19, o19, x19⟩ := Fos.ix (hv.same ((((((((((((s1.trans s3).trans s5).trans s7).trans s8).trans s9).trans s10).trans s12).trans s13).trans s14).trans s16).trans s17).trans s18)) 2 (by omega)
    refine x19 _ ?_
    repeat walk_at "st"
    refine ⟨_, _, m, _, _, _, _, _, _, rfl, o19, (o1.same (((((((((((s3.trans s5).trans s7).trans s8).trans s9).trans s10).trans s12).trans s13).trans s14).trans s16).trans s17).trans s18)), cl hc (by omega), cl hc (by omega), hm, by omega, by omega, by omega, by omega, fun r20 H20 s20 o20 => ?_⟩
    repeat walk_at "st"
    refine ⟨sz rfl, fun p21 n21 => ?_⟩
    refine q _ _ ((((((((((((((s1.trans s3).trans s5).trans s7).trans s8).trans s9).trans s10).trans s12).trans s13).trans s14).trans s16).trans s17).trans s18).trans s20).trans (same_new n21 _)) ?_
    refine fos3 (tupOf upd_same) ?_ ?_ ?_
    · refine (((o14.same (((s16.trans s17).trans s18).trans s20)).same (same_new n21 _)).mono (by omega) (by omega)).congr fun rs _ => ?_
      first | rfl | grind [hingeF, shortF]
    · refine (((o18.same s20).same (same_new n21 _)).mono (by omega) (by omega)).congr fun rs _ => ?_
      first | rfl | grind [hingeF, shortF]
    · refine ((o20.same (same_new n21 _)).mono (by omega) (by omega)).congr fun rs _ => ?_
      first | rfl | grind [hingeF, shortF]
  ) only [↓Mb.dischW]
theorem ok_turned_about (F : Fn K mg "turned_about" s_turned_about) (G_added : Kn P w K mg base 2 "added" ["form", "other"] spAddQ) (G_multiplied : Kn P w K mg base 3 "multiplied" ["form", "other"] spMulQ) (G_taken : Kn P w K mg base 3 "taken" ["form", "other"] spTakeQ) : Kn P w K mg base 4 "turned_about" ["p", "q"] (spTurnF K) := by
  refine Mb.ofW ?_
  simp (discharger := with_unfolding_all
    refine F.kn sc_turned_about (fun vs H Q E h => ?_) (fun f cdv A0 outer s H vs Q E hr h => ?_) (fun _ _ _ _ _ _ us hl => match us, hl with | [_, _], _ => rfl)
    · obtain ⟨v, w_, m, d, e, S, T, φ, ψ, rfl, _⟩ := h
      rfl
    obtain ⟨v, w_, m, d, e, S, T, φ, ψ, rfl, hv, hw, hc, hm, hd, hS, q⟩ := h
    refine ⟨_, (pss_cons (ps_set (i := 2) sc_turned_about.nd rfl (.inl rfl) (pe_kn G_taken (hr.mono (by decide)) (by rfl) (pa_cons (pe_kn G_multiplied (hr.mono (by decide)) (by rfl) (pa_cons (pe_kn G_added (hr.mono (by decide)) (by rfl) (pa_cons (pe_ix ix_tup (pv 1) pe_int (fun _ _ => rfl)) (pa_cons (pe_ix ix_tup (pv 1) pe_int (fun _ _ => rfl)) pa_nil))) (pa_cons (pe_ix ix_tup (pv 0) pe_int (fun _ _ => rfl)) pa_nil))) (pa_cons (pe_kn G_multiplied (hr.mono (by decide)) (by rfl) (pa_cons (pe_ix ix_tup (pv 0) pe_int (fun _ _ => rfl)) (pa_cons (pe_ix ix_tup (pv 1) pe_int (fun _ _ => rfl)) pa_nil))) pa_nil))))
      (pss_cons (ps_set (i := 3) sc_turned_about.nd rfl (.inl rfl) (pe_kn G_added (hr.mono (by decide)) (by rfl) (pa_cons (pe_kn G_multiplied (hr.mono (by decide)) (by rfl) (pa_cons (pe_kn G_taken (hr.mono (by decide)) (by rfl) (pa_cons (pe_ix ix_tup (pv 1) pe_int (fun _ _ => rfl)) (pa_cons (pe_ix ix_tup (pv 1) pe_int (fun _ _ => rfl)) pa_nil))) (pa_cons (pe_ix ix_tup (pv 0) pe_int (fun _ _ => rfl)) pa_nil))) (pa_cons (pe_kn G_multiplied (hr.mono (by decide)) (by rfl) (pa_cons (pe_ix ix_tup (pv 0) pe_int (fun _ _ => rfl)) (pa_cons (pe_ix ix_tup (pv 1) pe_int (fun _ _ => rfl)) pa_nil))) pa_nil))))
      (pss_one (ps_ret (pe_tup (pa_cons (pv 2) (pa_cons (pv 3) (pa_cons (pe_kn G_multiplied (hr.mono (by decide)) (by rfl) (pa_cons (pe_ix ix_tup (pv 0) pe_int (fun _ _ => rfl)) (pa_cons (pe_ix ix_tup (pv 1) pe_int (fun _ _ => rfl)) pa_nil))) pa_nil)))))))), ?_⟩
    show (_ : TS) _ [some (v), some (w_), none, none] _
    repeat walk_at "st"
    obtain ⟨v1, o1, x1⟩ := Fos.ix hw 0 (by omega)
    refine x1 _ ?_
    repeat walk_at "st"
    obtain ⟨v2, o2, x2⟩ := Fos.ix hw 1 (by omega)
    refine x2 _ ?_
    repeat walk_at "st"
    refine ⟨_, _, m, _, _, _, _, _, _, rfl, o1, o2, cl hc (by omega), cl hc (by omega), fun r3 H3 s3 o3 => ?_⟩
    repeat walk_at "st"
    obtain ⟨v4, o4, x4⟩ := Fos.ix (hv.same s3) 2 (by omega)
    refine x4 _ ?_
    repeat walk_at "st"
    refine ⟨_, _, m, _, _, _, _, _, _, rfl, o3, o4, cl hc (by omega), cl hc (by omega), hm, by omega, by omega, by omega, by omega, fun r5 H5 s5 o5 => ?_⟩
    repeat walk_at "st"
    obtain ⟨v6, o6, x6⟩ := Fos.ix (hv.same (s3.trans s5)) 1 (by omega)
    refine x6 _ ?_
    repeat walk_at "st"
    obtain ⟨v7, o7, x7⟩ := Fos.ix (hw.same (s3.trans s5)) 2 (by omega)
    refine x7 _ ?_
    repeat walk_at "st"
    refine ⟨_, _, m, _, _, _, _, _, _, rfl, o6, o7, cl hc (by omega), cl hc (by omega), hm, by omega, by omega, by omega, by omega, fun r8 H8 s8 o8 => ?_⟩
    repeat walk_at "st"
    refine ⟨_, _, m, _, _, _, _, _, _, rfl, (o5.same s8), o8, cl hc (by omega), cl hc (by omega), by omega, fun r9 H9 s9 o9 => ?_⟩
    repeat walk_at "st"
    obtain ⟨v10, o10, x10⟩ := Fos.ix (hw.same (((s3.trans s5).trans s8).trans s9)) 1 (by omega)
    refine x10 _ ?_
    repeat walk_at "st"
    obtain ⟨v11, o11, x11⟩ := Fos.ix (hw.same (((s3.trans s5).trans s8).trans s9)) 0 (by omega)
    refine x11 _ ?_
    repeat walk_at "st"
    refine ⟨_, _, m, _, _, _, _, _, _, rfl, o10, o11, cl hc (by omega), cl hc (by omega), by omega, fun r12 H12 s12 o12 => ?_⟩
    repeat walk_at "st"
    obtain ⟨v13, o13, x13⟩ := Fos.ix (hv.same ((((s3.trans s5).trans s8).trans s9).trans s12)) 2 (by omega)
    refine x13 _ ?_
    repeat walk_at "st"
    refine ⟨_, _, m, _, _, _, _, _, _, rfl, o12, o13, cl hc (by omega), cl hc (by omega), hm, by omega, by omega, by omega, by omega, fun r14 H14 s14 o14 => ?_⟩
    repeat walk_at "st"
    obtain ⟨v15, o15, x15⟩ := Fos.ix (hv.same (((((s3.trans s5).trans s8).trans s9).trans s12).trans s14)) 0 (by omega)
    refine x15 _ ?_
    repeat walk_at "st"
    obtain ⟨v16, o16, x16⟩ := Fos.ix (hw.same (((((s3.trans s5).trans s8).trans s9).trans s12).trans s14)) 2 (by omega)
    refine x16 _ ?_
    repeat walk_at "st"
    refine ⟨_, _, m, _, _, _, _, _, _, rfl, o15, o16, cl hc (by omega), cl hc (by omega), hm, by omega, by omega, by omega, by omega, fun r17 H17 s17 o17 => ?_⟩
    repeat walk_at "st"
    refine ⟨_, _, m, _, _, _, _, _, _, rfl, (o14.same s17), o17, cl hc (by omega), cl hc (by omega), fun r18 H18 s18 o18 => ?_⟩
    repeat walk_at "st"
    obtain ⟨v19, o19, x19⟩ := Fos.ix (hv.same (((((((s3.trans s5).trans s8).trans s9).trans s12).trans s14).trans s17).trans s18)) 2 (by omega)
    refine x19 _ ?_
    repeat walk_at "st"
    obtain ⟨v20, o20, x20⟩ := Fos.ix (hw.same (((((((s3.trans s5).trans s8).trans s9).trans s12).trans s14).trans s17).trans s18)) 2 (by omega)
    refine x20 _ ?_
    repeat walk_at "st"
    refine ⟨_, _, m, _, _, _, _, _, _, rfl, o19, o20, cl hc (by omega), cl hc (by omega), hm, by omega, by omega, by omega, by omega, fun r21 H21 s21 o21 => ?_⟩
    repeat walk_at "st"
    refine ⟨sz rfl, fun p22 n22 => ?_⟩
    refine q _ _ (((((((((s3.trans s5).trans s8).trans s9).trans s12).trans s14).trans s17).trans s18).trans s21).trans (same_new n22 _)) ?_
    refine fos3 (tupOf upd_same) ?_ ?_ ?_
    · refine (((o9.same ((((s12.trans s14).trans s17).trans s18).trans s21)).same (same_new n22 _)).mono (by omega) (by omega)).congr fun rs _ => ?_
      first | rfl | grind [hingeF, shortF]
    · refine (((o18.same s21).same (same_new n22 _)).mono (by omega) (by omega)).congr fun rs _ => ?_
      first | rfl | grind [hingeF, shortF]
    · refine ((o21.same (same_new n22 _)).mono (by omega) (by omega)).congr fun rs _ => ?_
      first | rfl | grind [hingeF, shortF]
  ) only [↓Mb.dischW]
theorem ok_shared_out (F : Fn K mg "shared_out" s_shared_out) (G_added : Kn P w K mg base 2 "added" ["form", "other"] spAddQ) (G_multiplied : Kn P w K mg base 3 "multiplied" ["form", "other"] spMulQ) (G_scaled : Kn P w K mg base 2 "scaled" ["form", "number"] spScaleQ) : Kn P w K mg base 4 "shared_out" ["p", "q", "t"] (spShareF K) := by
  refine Mb.ofW ?_
  simp (discharger := with_unfolding_all
    refine F.kn sc_shared_out (fun vs H Q E h => ?_) (fun f cdv A0 outer s H vs Q E hr h => ?_) (fun _ _ _ _ _ _ us hl => match us, hl with | [_, _, _], _ => rfl)
    · obtain ⟨v, w_, p, t, b, m, d, e, S, T, φ, ψ, rfl, _⟩ := h
      rfl
    obtain ⟨v, w_, p, t, b, m, d, e, S, T, φ, ψ, rfl, tp, st, sb, hv, hw, hc, hm, hd, hS, q⟩ := h
    refine ⟨_, (pss_cons (ps_asg (pv 2) (pg_tup (by rfl) (pgs_cons (pg_name (i := 3) sc_shared_out.nd rfl (.inl rfl)) (pgs_cons (pg_name (i := 4) sc_shared_out.nd rfl (.inl rfl)) pgs_nil))))
      (pss_cons (ps_set (i := 5) sc_shared_out.nd rfl (.inl rfl) (pe_kn G_added (hr.mono (by decide)) (by rfl) (pa_cons (pe_kn G_scaled (hr.mono (by decide)) (by rfl) (pa_cons (pe_kn G_multiplied (hr.mono (by decide)) (by rfl) (pa_cons (pe_ix ix_tup (pv 0) pe_int (fun _ _ => rfl)) (pa_cons (pe_ix ix_tup (pv 1) pe_int (fun _ _ => rfl)) pa_nil))) (pa_cons (pe_op op_sub (pv 4) (pv 3)) pa_nil))) (pa_cons (pe_kn G_scaled (hr.mono (by decide)) (by rfl) (pa_cons (pe_kn G_multiplied (hr.mono (by decide)) (by rfl) (pa_cons (pe_ix ix_tup (pv 1) pe_int (fun _ _ => rfl)) (pa_cons (pe_ix ix_tup (pv 0) pe_int (fun _ _ => rfl)) pa_nil))) (pa_cons (pv 3) pa_nil))) pa_nil))))
      (pss_cons (ps_set (i := 6) sc_shared_out.nd rfl (.inl rfl) (pe_kn G_added (hr.mono (by decide)) (by rfl) (pa_cons (pe_kn G_scaled (hr.mono (by decide)) (by rfl) (pa_cons (pe_kn G_multiplied (hr.mono (by decide)) (by rfl) (pa_cons (pe_ix ix_tup (pv 0) pe_int (fun _ _ => rfl)) (pa_cons (pe_ix ix_tup (pv 1) pe_int (fun _ _ => rfl)) pa_nil))) (pa_cons (pe_op op_sub (pv 4) (pv 3)) pa_nil))) (pa_cons (pe_kn G_scaled (hr.mono (by decide)) (by rfl) (pa_cons (pe_kn G_multiplied (hr.mono (by decide)) (by rfl) (pa_cons (pe_ix ix_tup (pv 1) pe_int (fun _ _ => rfl)) (pa_cons (pe_ix ix_tup (pv 0) pe_int (fun _ _ => rfl)) pa_nil))) (pa_cons (pv 3) pa_nil))) pa_nil))))
      (pss_one (ps_ret (pe_tup (pa_cons (pv 5) (pa_cons (pv 6) (pa_cons (pe_kn G_scaled (hr.mono (by decide)) (by rfl) (pa_cons (pe_kn G_multiplied (hr.mono (by decide)) (by rfl) (pa_cons (pe_ix ix_tup (pv 0) pe_int (fun _ _ => rfl)) (pa_cons (pe_ix ix_tup (pv 1) pe_int (fun _ _ => rfl)) pa_nil))) (pa_cons (pv 4) pa_nil))) pa_nil))))))))), ?_⟩
    show (_ : TS) _ [some (v), some (w_), some (.ref p), none, none, none, none] _
    repeat walk_at "st"
    refine r_gT tp rfl ?_
    refine r_g2 ?_
    have sbt : Sm 21 (b - t) := Sm.sub sb st
    repeat walk_at "st"
    obtain ⟨v1, o1, x1⟩ := Fos.ix hv 0 (by omega)
    refine x1 _ ?_
    repeat walk_at "st"
    obtain ⟨v2, o2, x2⟩ := Fos.ix hw 2 (by omega)
    refine x2 _ ?_
    repeat walk_at "st"
    refine ⟨_, _, m, _, _, _, _, _, _, rfl, o1, o2, cl hc (by omega), cl hc (by omega), hm, by omega, by omega, by omega, by omega, fun r3 H3 s3 o3 => ?_⟩
    repeat walk_at "st"
    refine ⟨_, _, m, _, _, _, _, rfl, o3, sbt, by decide, cl hc (by omega), by omega, fun r4 H4 s4 o4 => ?_⟩
    repeat walk_at "st"
    obtain ⟨v5, o5, x5⟩ := Fos.ix (hw.same (s3.trans s4)) 0 (by omega)
    refine x5 _ ?_
    repeat walk_at "st"
    obtain ⟨v6, o6, x6⟩ := Fos.ix (hv.same (s3.trans s4)) 2 (by omega)
    refine x6 _ ?_
    repeat walk_at "st"
    refine ⟨_, _, m, _, _, _, _, _, _, rfl, o5, o6, cl hc (by omega), cl hc (by omega), hm, by omega, by omega, by omega, by omega, fun r7 H7 s7 o7 => ?_⟩
    repeat walk_at "st"
    refine ⟨_, _, m, _, _, _, _, rfl, o7, st, by decide, cl hc (by omega), by omega, fun r8 H8 s8 o8 => ?_⟩
    repeat walk_at "st"
    refine ⟨_, _, m, _, _, _, _, _, _, rfl, (o4.same (s7.trans s8)), o8, cl hc (by omega), cl hc (by omega), fun r9 H9 s9 o9 => ?_⟩
    repeat walk_at "st"
    obtain ⟨v10, o10, x10⟩ := Fos.ix (hv.same ((((s3.trans s4).trans s7).trans s8).trans s9)) 1 (by omega)
    refine x10 _ ?_
    repeat walk_at "st"
    obtain ⟨v11, o11, x11⟩ := Fos.ix (hw.same ((((s3.trans s4).trans s7).trans s8).trans s9)) 2 (by omega)
    refine x11 _ ?_
    repeat walk_at "st"
    refine ⟨_, _, m, _, _, _, _, _, _, rfl, o10, o11, cl hc (by omega), cl hc (by omega), hm, by omega, by omega, by omega, by omega, fun r12 H12 s12 o12 => ?_⟩
    repeat walk_at "st"
    refine ⟨_, _, m, _, _, _, _, rfl, o12, sbt, by decide, cl hc (by omega), by omega, fun r13 H13 s13 o13 => ?_⟩
    repeat walk_at "st"
    obtain ⟨v14, o14, x14⟩ := Fos.ix (hw.same ((((((s3.trans s4).trans s7).trans s8).trans s9).trans s12).trans s13)) 1 (by omega)
    refine x14 _ ?_
    repeat walk_at "st"
    obtain ⟨v15, o15, x15⟩ := Fos.ix (hv.same ((((((s3.trans s4).trans s7).trans s8).trans s9).trans s12).trans s13)) 2 (by omega)
    refine x15 _ ?_
    repeat walk_at "st"
    refine ⟨_, _, m, _, _, _, _, _, _, rfl, o14, o15, cl hc (by omega), cl hc (by omega), hm, by omega, by omega, by omega, by omega, fun r16 H16 s16 o16 => ?_⟩
    repeat walk_at "st"
    refine ⟨_, _, m, _, _, _, _, rfl, o16, st, by decide, cl hc (by omega), by omega, fun r17 H17 s17 o17 => ?_⟩
    repeat walk_at "st"
    refine ⟨_, _, m, _, _, _, _, _, _, rfl, (o13.same (s16.trans s17)), o17, cl hc (by omega), cl hc (by omega), fun r18 H18 s18 o18 => ?_⟩
    repeat walk_at "st"
    obtain ⟨v19, o19, x19⟩ := Fos.ix (hv.same (((((((((s3.trans s4).trans s7).trans s8).trans s9).trans s12).trans s13).trans s16).trans s17).trans s18)) 2 (by omega)
    refine x19 _ ?_
    repeat walk_at "st"
    obtain ⟨v20, o20, x20⟩ := Fos.ix (hw.same (((((((((s3.trans s4).trans s7).trans s8).trans s9).trans s12).trans s13).trans s16).trans s17).trans s18)) 2 (by omega)
    refine x20 _ ?_
    repeat walk_at "st"
    refine ⟨_, _, m, _, _, _, _, _, _, rfl, o19, o20, cl hc (by omega), cl hc (by omega), hm, by omega, by omega, by omega, by omega, fun r21 H21 s21 o21 => ?_⟩
    repeat walk_at "st"
    refine ⟨_, _, m, _, _, _, _, rfl, o21, sb, by decide, cl hc (by omega), by omega, fun r22 H22 s22 o22 => ?_⟩
    repeat walk_at "st"
    refine ⟨sz rfl, fun p23 n23 => ?_⟩
    refine q _ _ ((((((((((((s3.trans s4).trans s7).trans s8).trans s9).trans s12).trans s13).trans s16).trans s17).trans s18).trans s21).trans s22).trans (same_new n23 _)) ?_
    refine fos3 (tupOf upd_same) ?_ ?_ ?_
    · refine (((o9.same ((((((s12.trans s13).trans s16).trans s17).trans s18).trans s21).trans s22)).same (same_new n23 _)).mono (by omega) (by omega)).congr fun rs _ => ?_
      first | rfl | grind [Rat.intCast_sub]
    · refine (((o18.same (s21.trans s22)).same (same_new n23 _)).mono (by omega) (by omega)).congr fun rs _ => ?_
      first | rfl | grind [Rat.intCast_sub]
    · refine ((o22.same (same_new n23 _)).mono (by omega) (by omega)).congr fun rs _ => ?_
      first | rfl | grind [Rat.intCast_sub]
  ) only [↓Mb.dischW]
theorem ok_figure_forms (F : Fn K mg "figure_forms" s_figure_forms) (G_scaled : Kn P w K mg base 2 "scaled" ["form", "number"] spScaleQ) (G_shared_out : Kn P w K mg base 4 "shared_out" ["p", "q", "t"] (spShareF K)) (G_turned_about : Kn P w K mg base 4 "turned_about" ["p", "q"] (spTurnF K)) (G_toward : Kn P w K mg base 6 "toward" ["p", "line", "times"] (spToward K)) (G_crossed : Kn P w K mg base 5 "crossed" ["one", "other"] (spCrossed K)) (G_line_at : Kn P w K mg base 4 "line_at" ["p", "a", "b"] (spLineAt K)) : Kn P w K mg base 7 "figure_forms" ["making", "one", "other"] (spFigF K) := by
  refine Mb.ofW ?_
  simp (discharger := with_unfolding_all
    refine F.kn sc_figure_forms (fun vs H Q E h => ?_) (fun f cdv A0 outer s H vs Q E hr h => ?_) (fun _ _ _ _ _ _ us hl => match us, hl with | [_, _, _], _ => rfl)
    · obtain ⟨m, x, tl, t, b, v, w_, n, d, e, S, T, φ, ψ, rfl, _⟩ := h
      rfl
    obtain ⟨m, x, tl, t, b, v, w_, n, d, e, S, T, φ, ψ, rfl, tm, xw, sh, hv, hw, hc, hn, hd, hS, q⟩ := h
    refine ⟨_, (pss_one (ps_match (pe_ix ix_tup (pv 0) pe_int (fun _ _ => rfl)) (pm_str pe_str (pss_one (ps_ret (pe_kn G_shared_out (hr.mono (by decide)) (by rfl) (pa_cons (pv 1) (pa_cons (pv 2) (pa_cons (pe_tup (pa_cons pe_int (pa_cons pe_int pa_nil))) pa_nil)))))) (pm_str pe_str (pss_one (ps_ret (pe_kn G_shared_out (hr.mono (by decide)) (by rfl) (pa_cons (pv 1) (pa_cons (pv 2) (pa_cons (pe_tup (pa_cons pe_int (pa_cons pe_int pa_nil))) pa_nil)))))) (pm_str pe_str (pss_one (ps_ret (pe_kn G_shared_out (hr.mono (by decide)) (by rfl) (pa_cons (pv 1) (pa_cons (pv 2) (pa_cons (pe_ix ix_tup (pv 0) pe_int (fun _ _ => rfl)) pa_nil)))))) (pm_str pe_str (pss_one (ps_ret (pe_kn G_turned_about (hr.mono (by decide)) (by rfl) (pa_cons (pv 1) (pa_cons (pv 2) pa_nil))))) (pm_str pe_str (pss_one (ps_ret (pe_kn G_toward (hr.mono (by decide)) (by rfl) (pa_cons (pv 1) (pa_cons (pv 2) (pa_cons pe_int pa_nil)))))) (pm_str pe_str (pss_one (ps_ret (pe_kn G_toward (hr.mono (by decide)) (by rfl) (pa_cons (pv 1) (pa_cons (pv 2) (pa_cons pe_int pa_nil)))))) (pm_or2 pe_str pe_str (pss_one (ps_ret (pe_kn G_crossed (hr.mono (by decide)) (by rfl) (pa_cons (pv 1) (pa_cons (pv 2) pa_nil))))) (pm_str pe_str (pss_one (ps_ret (pe_kn G_line_at (hr.mono (by decide)) (by rfl) (pa_cons (pv 1) (pa_cons (pe_ix ix_tup (pv 2) pe_int (fun _ _ => rfl)) (pa_cons (pe_ix ix_tup (pv 2) pe_int (fun _ _ => rfl)) pa_nil)))))) (pm_str pe_str (pss_one (ps_ret (pe_kn G_line_at (hr.mono (by decide)) (by rfl) (pa_cons (pv 1) (pa_cons (pe_ix ix_tup (pv 2) pe_int (fun _ _ => rfl)) (pa_cons (pe_kn G_scaled (hr.mono (by decide)) (by rfl) (pa_cons (pe_ix ix_tup (pv 2) pe_int (fun _ _ => rfl)) (pa_cons (pe_un un_neg pe_int) pa_nil))) pa_nil)))))) pm_nil))))))))))), ?_⟩
    show (_ : TS) _ [some (.ref m), some v, some w_] _
    repeat walk_at "st"
    refine r_match ?_
    repeat walk_at "st"
    refine r_ixT0 tm ?_
    unfold figW at xw
    simp only [List.mem_cons, List.not_mem_nil, or_false] at xw
    rcases xw with rfl | rfl | rfl | rfl | rfl | rfl | rfl | rfl | rfl | rfl
    · skip
      refine r_caseY ?_
      repeat walk_at "st"
      have hD : figD "middle" d e = d + e := rfl
      rw [hD] at hc hd q
      rw [show figS "middle" S T = S + T + 200 from rfl] at q
      refine ⟨sz rfl, fun p np => ?_⟩
      have s1 := same_new np (.tup [V.int 1, .int 2])
      repeat walk_at "st"
      refine ⟨v, w_, p, 1, 2, n, d, e, S, T, φ, ψ, rfl, tupOf upd_same, by decide, by decide, hv.same s1, hw.same s1, hc, hn, hd, by omega, fun r H2 s2 fr => ?_⟩
      exact q _ _ (s1.trans s2) ((fr.mono (Nat.le_refl _) (by omega)).congr fun i hi rs hr => rfl)
    · skip
      refine r_caseN (by decide) ?_
      refine r_caseY ?_
      repeat walk_at "st"
      have hD : figD "next" d e = d + e := rfl
      rw [hD] at hc hd q
      rw [show figS "next" S T = S + T + 200 from rfl] at q
      refine ⟨sz rfl, fun p np => ?_⟩
      have s1 := same_new np (.tup [V.int 2, .int 1])
      repeat walk_at "st"
      refine ⟨v, w_, p, 2, 1, n, d, e, S, T, φ, ψ, rfl, tupOf upd_same, by decide, by decide, hv.same s1, hw.same s1, hc, hn, hd, by omega, fun r H2 s2 fr => ?_⟩
      exact q _ _ (s1.trans s2) ((fr.mono (Nat.le_refl _) (by omega)).congr fun i hi rs hr => rfl)
    · skip
      refine r_caseN (by decide) ?_
      refine r_caseN (by decide) ?_
      refine r_caseY ?_
      repeat walk_at "st"
      have hD : figD "share" d e = d + e := rfl
      rw [hD] at hc hd q
      rw [show figS "share" S T = S + T + 200 from rfl] at q
      obtain ⟨y, z, p, rfl, tp, st, sb⟩ := sh rfl
      refine r_ixT (v := .ref p) tm rfl ?_
      repeat walk_at "st"
      refine ⟨v, w_, p, t, b, n, d, e, S, T, φ, ψ, rfl, tp, st, sb, hv, hw, hc, hn, hd, by omega, fun r H2 s2 fr => ?_⟩
      exact q _ _ s2 ((fr.mono (Nat.le_refl _) (by omega)).congr fun i hi rs hr => rfl)
    · skip
      refine r_caseN (by decide) ?_
      refine r_caseN (by decide) ?_
      refine r_caseN (by decide) ?_
      refine r_caseY ?_
      repeat walk_at "st"
      have hD : figD "turn" d e = d + e := rfl
      rw [hD] at hc hd q
      rw [show figS "turn" S T = S + T + 200 from rfl] at q
      refine ⟨v, w_, n, d, e, S, T, φ, ψ, rfl, hv, hw, hc, hn, hd, by omega, fun r H2 s2 fr => ?_⟩
      exact q _ _ s2 ((fr.mono (Nat.le_refl _) (by omega)).congr fun i hi rs hr => rfl)
    · skip
      refine r_caseN (by decide) ?_
      refine r_caseN (by decide) ?_
      refine r_caseN (by decide) ?_
      refine r_caseN (by decide) ?_
      refine r_caseY ?_
      repeat walk_at "st"
      have hD : figD "foot" d e = d + (e + e) := rfl
      rw [hD] at hc hd q
      rw [show figS "foot" S T = S + T + T + 200 from rfl] at q
      refine ⟨v, w_, 1, n, d, e, S, T, φ, ψ, rfl, by decide, hv, hw, hc, hn, hd, by omega, fun r H2 s2 fr => ?_⟩
      exact q _ _ s2 ((fr.mono (Nat.le_refl _) (by omega)).congr fun i hi rs hr => rfl)
    · skip
      refine r_caseN (by decide) ?_
      refine r_caseN (by decide) ?_
      refine r_caseN (by decide) ?_
      refine r_caseN (by decide) ?_
      refine r_caseN (by decide) ?_
      refine r_caseY ?_
      repeat walk_at "st"
      have hD : figD "mirror" d e = d + (e + e) := rfl
      rw [hD] at hc hd q
      rw [show figS "mirror" S T = S + T + T + 200 from rfl] at q
      refine ⟨v, w_, 2, n, d, e, S, T, φ, ψ, rfl, by decide, hv, hw, hc, hn, hd, by omega, fun r H2 s2 fr => ?_⟩
      exact q _ _ s2 ((fr.mono (Nat.le_refl _) (by omega)).congr fun i hi rs hr => rfl)
    · skip
      refine r_caseN (by decide) ?_
      refine r_caseN (by decide) ?_
      refine r_caseN (by decide) ?_
      refine r_caseN (by decide) ?_
      refine r_caseN (by decide) ?_
      refine r_caseN (by decide) ?_
      refine r_or2Y ?_
      repeat walk_at "st"
      have hD : figD "meet" d e = d + e := rfl
      rw [hD] at hc hd q
      rw [show figS "meet" S T = S + T + 200 from rfl] at q
      refine ⟨v, w_, n, d, e, S, T, φ, ψ, rfl, hv, hw, hc, hn, hd, by omega, fun r H2 s2 fr => ?_⟩
      exact q _ _ s2 ((fr.mono (Nat.le_refl _) (by omega)).congr fun i hi rs hr => rfl)
    · skip
      refine r_caseN (by decide) ?_
      refine r_caseN (by decide) ?_
      refine r_caseN (by decide) ?_
      refine r_caseN (by decide) ?_
      refine r_caseN (by decide) ?_
      refine r_caseN (by decide) ?_
      refine r_or2Z (by decide) ?_
      repeat walk_at "st"
      have hD : figD "line" d e = d + e := rfl
      rw [hD] at hc hd q
      rw [show figS "line" S T = S + T + 200 from rfl] at q
      refine ⟨v, w_, n, d, e, S, T, φ, ψ, rfl, hv, hw, hc, hn, hd, by omega, fun r H2 s2 fr => ?_⟩
      exact q _ _ s2 ((fr.mono (Nat.le_refl _) (by omega)).congr fun i hi rs hr => rfl)
    · skip
      refine r_caseN (by decide) ?_
      refine r_caseN (by decide) ?_
      refine r_caseN (by decide) ?_
      refine r_caseN (by decide) ?_
      refine r_caseN (by decide) ?_
      refine r_caseN (by decide) ?_
      refine r_or2N (by decide) (by decide) ?_
      refine r_caseY ?_
      repeat walk_at "st"
      have hD : figD "along" d e = d + e := rfl
      rw [hD] at hc hd q
      rw [show figS "along" S T = S + T + 200 from rfl] at q
      rw [Nat.add_comm d e] at hc hd
      obtain ⟨l0, o0, x0⟩ := hw.ix 0 (by decide)
      obtain ⟨l1, o1, x1⟩ := hw.ix 1 (by decide)
      refine x0 _ ?_
      repeat walk_at "st"
      refine x1 _ ?_
      repeat walk_at "st"
      refine ⟨v, l0, l1, n, d, e, S, T, φ, _, _, rfl, hv, o0, o1, hc, hn, hd, by omega, fun r H2 s2 fr => ?_⟩
      exact q _ _ s2 ((fr.mono (by omega) (by omega)).congr fun i hi rs hr => rfl)
    · skip
      refine r_caseN (by decide) ?_
      refine r_caseN (by decide) ?_
      refine r_caseN (by decide) ?_
      refine r_caseN (by decide) ?_
      refine r_caseN (by decide) ?_
      refine r_caseN (by decide) ?_
      refine r_or2N (by decide) (by decide) ?_
      refine r_caseN (by decide) ?_
      refine r_caseY ?_
      repeat walk_at "st"
      have hD : figD "upright" d e = d + e := rfl
      rw [hD] at hc hd q
      rw [show figS "upright" S T = S + T + 200 from rfl] at q
      rw [Nat.add_comm d e] at hc hd
      obtain ⟨l0, o0, x0⟩ := hw.ix 0 (by decide)
      obtain ⟨l1, o1, x1⟩ := hw.ix 1 (by decide)
      refine x1 _ ?_
      repeat walk_at "st"
      refine x0 _ ?_
      repeat walk_at "st"
      refine ⟨l0, -1, n, e, T, 1, _, rfl, o0, by decide, by decide, Nat.le_trans (cnt_mono (Nat.le_add_right e d)) (Nat.le_trans hc (by decide)), by omega, fun r1 H1 s1 f1 => ?_⟩
      repeat walk_at "st"
      refine ⟨v, l1, r1, n, d, e, S, T + 1 + 17, φ, _, _, rfl, hv.same s1, (o1.same s1).mono (Nat.le_refl _) (by omega), f1, hc, hn, hd, by omega, fun r H2 s2 fr => ?_⟩
      exact q _ _ (s1.trans s2) ((fr.mono (by omega) (by omega)).congr fun i hi rs hr => rfl)
  ) only [↓Mb.dischW]
theorem ok_unknowns (F : Fn K mg "unknowns" s_unknowns) (G_frees : Kn P w K mg base 1 "frees" ["own"] (spFrees K)) (z_len : mg "len" = none) (z_max : mg "max" = none) : Kn P w K mg base 2 "unknowns" ["own"] (spUnknowns K) := by
  refine Mb.ofW ?_
  simp (discharger := with_unfolding_all
    refine F.kn sc_unknowns (fun vs H Q E h => ?_) (fun f cdv A outer s H vs Q E hr h => ?_) (fun _ _ _ _ _ _ us hl => match us, hl with | [_], _ => rfl)
    · obtain ⟨l, us, ts, rfl, _⟩ := h
      rfl
    obtain ⟨l, us, ts, rfl, hl, rw_, hn, q⟩ := h
    have ln := rw_.len
    refine ⟨_, (pss_one (ps_ret (pe_op op_mulW pe_int (pe_callB (call_max2 (by rfl)) (by rfl) z_max (by decide +kernel) (pa_cons (pe_op op_sub (pe_callB call_len_seq (by rfl) z_len (by decide +kernel) (pa_cons (pe_kn G_frees (hr.mono (by decide)) (by rfl) (pa_cons (pv 0) pa_nil)) pa_nil)) pe_int) (pa_cons pe_int pa_nil)))))), ?_⟩
    show (_ : TS) _ [some (.ref l)] _
    repeat walk_at "st"
    refine ⟨l, us, ts.map thOf, rfl, hl, rw_.rws, by omega, fun D H1 s1 nD eD => ?_⟩
    repeat walk_at "st"
    refine ⟨D, _, rfl, .inl (lstOf eD), ?_⟩
    repeat walk_at "st"
    have few : frN ts ≤ 60 := by
      unfold frN
      exact Nat.le_trans (List.length_filter_le _ _) (by rw [List.length_map]; exact hn)
    rw [List.length_map, List.length_map]
    refine ⟨_, _, rfl, ?_⟩
    repeat walk_at "st"
    have few : frN ts ≤ 60 := by
      unfold frN
      exact Nat.le_trans (List.length_filter_le _ _) (by rw [List.length_map]; exact hn)
    have e : (if (0 : Int) > (((ts.map thOf).filter freeB).length : Int) - 2 then 0 else (((ts.map thOf).filter freeB).length : Int) - 2) = ((frN ts - 2 : Nat) : Int) := by
      show (if (0 : Int) > ((frN ts : Nat) : Int) - 2 then 0 else ((frN ts : Nat) : Int) - 2) = _
      split <;> omega
    rw [e]
    refine ⟨2, _, rfl, rfl, ?_, ?_⟩
    · have h2 : ((frN ts - 2 : Nat) : Int).natAbs.log2 < 64 := by
        have : ((frN ts - 2 : Nat) : Int).natAbs < 2 ^ 64 := by omega
        by_cases z : ((frN ts - 2 : Nat) : Int).natAbs = 0
        · rw [z]; decide
        · exact (Nat.log2_lt z).mpr this
      show (2 : Int).natAbs.log2 + _ < 1000000
      rw [show (2 : Int).natAbs.log2 = 1 by decide]
      omega
    · show Q (.int (2 * ((frN ts - 2 : Nat) : Int))) H1
      rw [show (2 : Int) * ((frN ts - 2 : Nat) : Int) = ((manyN ts : Nat) : Int) by unfold manyN; omega]
      exact q H1 s1
  ) only [↓Mb.dischW]
theorem ok_forms_of (F : Fn K mg "forms_of" s_forms_of) (G_unknowns : Kn P w K mg base 2 "unknowns" ["own"] (spUnknowns K)) (G_frees : Kn P w K mg base 1 "frees" ["own"] (spFrees K)) (G_free_at : Kn P w K mg base 2 "free_at" ["number", "many"] (spFreeAt K)) (G_sort_of : Kn P w K mg base 1 "sort_of" ["making"] (spSort K)) (G_grounds : Kn P w K mg base 2 "grounds" ["making"] (spGrounds K)) (G_figure_forms : Kn P w K mg base 7 "figure_forms" ["making", "one", "other"] (spFigF K)) : Kn P w K mg base 8 "forms_of" ["own"] (spFormsOf K) := by
  refine Mb.ofW ?_
  simp (discharger := with_unfolding_all
    refine F.kn sc_forms_of (fun vs H Q E h => ?_) (fun f cdv A outer s H vs Q E hr h => ?_) (fun _ _ _ _ _ _ us hl => match us, hl with | [_], _ => rfl)
    · obtain ⟨l, us, ts, W, rfl, _⟩ := h
      rfl
    obtain ⟨l, us, ts, W, rfl, hl, rw_, hn, ok, m6, hc, w1, w24, q⟩ := h
    have ln := rw_.len
    refine ⟨_, (pss_cons (ps_set (i := 1) sc_forms_of.nd rfl (.inl rfl) (pe_kn G_unknowns (hr.mono (by decide)) (by rfl) (pa_cons (pv 0) pa_nil)))
      (pss_cons (ps_set (i := 2) sc_forms_of.nd rfl (.inl rfl) (pe_kn G_frees (hr.mono (by decide)) (by rfl) (pa_cons (pv 0) pa_nil)))
      (pss_cons (ps_set (i := 3) sc_forms_of.nd rfl (.inr rfl) pe_dnewK)
      (pss_cons (ps_for PassesOwn.never rfl (pi_list (pv 0)) (pg_tup (by rfl) (pgs_cons (pg_name (i := 4) sc_forms_of.nd rfl (.inl rfl)) (pgs_cons (pg_name (i := 5) sc_forms_of.nd rfl (.inl rfl)) pgs_nil)))
      (pss_one (ps_if (pt_cmpR op_eq (pe_ix ix_tup (pv 5) pe_int (fun _ _ => rfl)) pe_str (nomark _))
      (pss_one (ps_dput (u1 hr.units) (pv 3) (pv 4) (pe_kn G_free_at (hr.mono (by decide)) (by rfl) (pa_cons (pe_bm PySem.F.plainAttrs_list PySem.F.slot_list_index PySem.F.type_list_index (mt_indexD (u65 hr)) (pv 2) (pa_cons (pv 4) pa_nil)) (pa_cons (pv 1) pa_nil))) (by rfl)))
      (pss_one (ps_if (pt_cmpR op_ne (pe_kn G_sort_of (hr.mono (by decide)) (by rfl) (pa_cons (pv 5) pa_nil)) pe_str (nomark _))
      (pss_cons (ps_asg (pe_lc (own := [("ground", 8)]) (g := gName 8) (by rfl) sc_forms_of.nd (pi_list (pe_kn G_grounds (hr.mono (by decide)) (by rfl) (pa_cons (pv 5) pa_nil))) (blkOk_by (own := [("ground", 8)]) (N := ["own", "many", "order", "forms", "name", "making", "one", "other", "ground"]) (sc := (defScope s_forms_of)) (by decide +kernel)) (fun _ _ _ _ _ => pg_name (i := 8) sc_forms_of.nd rfl (.inl rfl)) (fun _ _ _ _ _ => pts_nil) (fun _ _ _ _ _ => (pe_dget (u1 hr.units) (pv 3) (pv 8) (fun _ _ => rfl)))) (pg_lst (by rfl) (pgs_cons (pg_name (i := 6) sc_forms_of.nd rfl (.inl rfl)) (pgs_cons (pg_name (i := 7) sc_forms_of.nd rfl (.inl rfl)) pgs_nil))))
      (pss_one (ps_dput (u1 hr.units) (pv 3) (pv 4) (pe_kn G_figure_forms (hr.mono (by decide)) (by rfl) (pa_cons (pv 5) (pa_cons (pv 6) (pa_cons (pv 7) pa_nil)))) (by rfl))))
      pss_nil)))))
      (pss_one (ps_ret (pv 3))))))), ?_⟩
    show (_ : TS) _ [some (.ref l), none, none, none, none, none, none, none, none] _
    repeat walk_at "st"
    refine ⟨l, us, ts, rfl, hl, rw_, hn, fun H1 s1 => ?_⟩
    have hl1 := s1.seq hl
    have rw1 := rw_.kp (Kp.same s1)
    repeat walk_at "st"
    refine ⟨l, us, ts.map thOf, rfl, hl1, rw1.rws, by omega, fun O H2 s2 nO eO => ?_⟩
    have hl2 := s2.seq hl1
    have rw2 := rw1.kp (Kp.same s2)
    repeat walk_at "st"
    refine fun D nD => ?_
    have s3 := same_new nD (.dK [])
    have eD : upd H2 D (.dK []) D = some (.dK (formD [])) := upd_same
    have nD0 := (s1.trans s2).free nD
    have g0 := (s1.trans s2).trans s3
    have hl3 := s3.seq hl2
    have rw3 := rw2.kp (Kp.same s3)
    have hO3 : SqL K (upd H2 D (.dK [])) O ((((ts.map thOf).filter freeB).map (·.1)).map V.str) := s3.seq (lstOf eO)
    have neDO : D ≠ O := fun z => by rw [z, eO] at nD; cases nD
    have eO3 := s3 _ _ eO
    generalize upd H2 D (.dK []) = H0 at *
    clear hl2 rw2 hl1 rw1 s1 s2 s3 nO nD eO
    repeat walk_at "st"
    with_reducible refine r_cut (fun σ H' => ∃ (y4 y5 y6 y7 : Option V) (tv : List (Str × V)), σ = [some (.ref l), some (.int (manyN ts : Nat)), some (.ref O), some (.ref D), y4, y5, y6, y7, none] ∧ Same H H' ∧ H' D = some (.dK (formD tv)) ∧ Fes K H' (manyN ts) W tv (fGo 0 [] ts)) ?U1 ?V1
    case V1 =>
      intro N J
      refine ⟨.ref l, rfl, l, rfl, ⟨us, hl3⟩, ?_⟩
      refine for_list (xs := us) (fun i σ H' => ∃ (y4 y5 y6 y7 : Option V) (tv : List (Str × V)), σ = [some (.ref l), some (.int (manyN ts : Nat)), some (.ref O), some (.ref D), y4, y5, y6, y7, none] ∧ Same H H' ∧ H' D = some (.dK (formD tv)) ∧ H' O = some (.lst ((((ts.map thOf).filter freeB).map (·.1)).map V.str)) ∧ SqL K H' l us ∧ Rwq K H' us ts ∧ Fes K H' (manyN ts) W tv (fGo 0 [] (ts.take i))) ?_ ?_ ?_ ?_
      · exact ⟨_, _, _, _, [], rfl, g0, eD, eO3, hl3, rw3, by rw [List.take_zero]; exact .nil⟩
      · rintro i σ H' _ ⟨_, _, _, _, _, _, _, _, _, hl', _⟩
        exact hl'
      · rintro i v σ H2 hv ⟨y4, y5, y6, y7, tv, rfl, gw, hD, hO, hl', rw', fe⟩
        obtain ⟨t, ht, a, m, rfl, ta, mk⟩ := rw'.at hv
        have hi := (List.getElem?_eq_some_iff.mp ht).1
        have e1 : ts.take (i + 1) = ts.take i ++ [t] := by rw [List.take_succ, ht, Option.toList_some]
        have ez : fGo 0 [] (ts.take (i + 1)) = fStep (frQ (ts.take i)) (fGo 0 [] (ts.take i)) t := by rw [e1, fGo_snoc, Nat.zero_add]
        have nz : t.1 ∉ tv.map (·.1) := by rw [fe.nms]; exact ok.new i t ht
        have ltv : tv.length ≤ 60 := by
          have h1 := Paired.length fe
          have h2 := fGo_len (ts.take i) 0 []
          rw [List.length_take, List.length_nil] at h2
          omega
        obtain ⟨sk, s, g, tx, lg⟩ := ok.okm i t ht
        refine r_gT ta rfl ?_
        refine r_g2 ?_
        repeat walk_at "st"
        obtain ⟨r, tm, tl⟩ := id mk
        refine r_ixT0 tm ?_
        repeat walk_at "st"
        refine r_ite (fun c => ?_) (fun c => ?_)
        · have fq : freeQ t = true := decide_eq_true c
          have fi := frees_idx ht fq
          have flt := frees_lt ht fq
          refine r_dput ?_
          repeat walk_at "st"
          refine r_bm ?_
          repeat walk_at "st"
          refine ⟨.inl ⟨rfl, _, lstOf hO⟩, ?_⟩
          repeat walk_at "st"
          refine ⟨O, .str t.1, .str t.1, _, frQ (ts.take i), .str t.1, rfl, rfl, dp_strs (lstOf hO), .str _, sh_strs (fun z hz => ?_), sh_str1 sk, by rw [List.getElem?_map, fi]; rfl, eqv_str1, fun m' z' hm' hz' => frees_no ok.nd ht fq hm' hz', ?_⟩
          · exact frees_sok ok.okm hz
          repeat walk_at "st"
          refine ⟨frQ (ts.take i), manyN ts, rfl, fun h2 => by unfold manyN; omega, by omega, fun r1 H3 s3 fo => ?_⟩
          repeat walk_at "st"
          have hD3 := s3 _ _ hD
          refine ⟨D, _, rfl, DPut.k (k := .inr t.1) hD3 (by unfold formD; rw [List.length_map]; exact Nat.lt_of_le_of_lt ltv (by decide)), ?_⟩
          rw [form_put nz]
          have gd : Gw K H2 (upd H3 D (.dK (formD (tv ++ [(t.1, r1)])))) := (Gw.same s3).trans (Gw.dict hD3)
          have gS := same_updS (o := .dK (formD (tv ++ [(t.1, r1)]))) (gw.trans s3) nD0
          refine ⟨_, _, _, _, tv ++ [(t.1, r1)], rfl, gS, upd_same, by rw [upd_ne (fun z => neDO z.symm)]; exact s3 _ _ hO, gS.seq hl, rw_.kp (Kp.same gS), ?_⟩
          rw [ez]
          unfold fStep
          rw [if_pos c]
          exact paired_snocT (fe.gw gd) ⟨rfl, fo.gw (Gw.dict hD3), Nat.le_refl 1, w1⟩
        · repeat walk_at "st"
          refine ⟨m, t.2.1, s, g, _, rfl, tm, tx, ?_⟩
          repeat walk_at "st"
          refine r_neX ?_
          repeat walk_at "st"
          by_cases cl : s = "claim"
          · rw [if_neg (by rw [decide_eq_true cl]; decide)]
            repeat walk_at "st"
            refine ⟨_, _, _, _, tv, rfl, gw, hD, hO, hl', rw', ?_⟩
            rw [ez]
            unfold fStep
            rw [if_neg c, if_pos (by rw [sOf_eq tx]; exact cl)]
            exact fe
          rw [if_pos (by rw [decide_eq_false cl]; rfl)]
          obtain ⟨fw, eg, g0m, g1m, dW⟩ := ok.gr i t ht c (by rw [sOf_eq tx]; exact cl)
          obtain ⟨_, fa⟩ := fe.look g0m
          obtain ⟨_, fb⟩ := fe.look g1m
          repeat walk_at "st"
          refine r_lcM ?_
          repeat walk_at "st"
          refine ⟨m, t.2.1, s, g, t.2.2.1, r, rfl, tm, tx, lg, fun G H3 s3 nG eG => ?_⟩
          rw [eg] at eG
          refine lc_map (fun v => match v with | .str z => lookV tv z | _ => .non) (lstOf eG) (by simp) (fun _ => rfl) (fun k x H4 hx s4 R kk => ?_) fun G2 H4 s4 n4 e4 => ?_
          · have hx2 : ∃ z, x = .str z ∧ z ∈ (fGo 0 [] (ts.take i)).map (·.1) := by
              match k, hx with
              | 0, hx => exact ⟨_, (Option.some.inj hx).symm, g0m⟩
              | 1, hx => exact ⟨_, (Option.some.inj hx).symm, g1m⟩
              | (k + 2), hx => cases hx
            obtain ⟨z, rfl, hz⟩ := hx2
            repeat walk_at "st"
            refine r_dg ?_
            repeat walk_at "st"
            exact ⟨D, _, rfl, get_form (s4 _ _ (s3 _ _ hD)) fe hz, kk _ (Same.refl _)⟩
          have s34 := s3.trans s4
          have e4' : SqL K H4 G2 [lookV tv (gnd t 0), lookV tv (gnd t 1)] := lstOf e4
          refine r_gLst e4' rfl ?_
          refine r_g2 ?_
          refine r_dput ?_
          repeat walk_at "st"
          obtain ⟨fa1, fa2, fa3⟩ := fa
          obtain ⟨fb1, fb2, fb3⟩ := fb
          have fa3' : (fLk (fGo 0 [] (ts.take i)) (gnd t 0)).1 ≤ W := fa3
          have fb3' : (fLk (fGo 0 [] (ts.take i)) (gnd t 1)).1 ≤ W := fb3
          have fa2' : 1 ≤ (fLk (fGo 0 [] (ts.take i)) (gnd t 0)).1 := fa2
          have fb2' : 1 ≤ (fLk (fGo 0 [] (ts.take i)) (gnd t 1)).1 := fb2
          refine ⟨m, t.2.1, _, shI t.2.2.2, shJ t.2.2.2, _, _, manyN ts, _, _, _, _, _, _, rfl, s34.tp tm, fw, fun es => ?_, fa1.same s34, fb1.same s34, Nat.le_trans (cnt_mono dW) hc, by omega, Nat.le_trans dW (by omega), ?_, fun r1 H5 s5 fo => ?_⟩
          · cases hd2 : t.2.2.2 with
            | sh q1 =>
              rw [hd2] at tl
              obtain ⟨_, u, rfl, p, rfl, tp⟩ := tl
              rw [eg]
              obtain ⟨k1, k2⟩ := ok.sh i t q1 ht hd2
              exact ⟨_, _, p, rfl, s34.tp tp, k1, k2⟩
            | fr p1 p2 => rw [hd2] at tl; exact absurd tl.1 c
            | ct n1 => rw [hd2] at tl; exact absurd (es.symm.trans tl.1) (by decide)
            | no => rw [hd2] at tl; exact absurd es tl.2.1
          · show 210 * (fLk (fGo 0 [] (ts.take i)) (gnd t 0)).1 - 200 + (210 * (fLk (fGo 0 [] (ts.take i)) (gnd t 1)).1 - 200) + (210 * (fLk (fGo 0 [] (ts.take i)) (gnd t 1)).1 - 200) ≤ 19000
            omega
          repeat walk_at "st"
          have hD5 := (s34.trans s5) _ _ hD
          refine ⟨D, _, rfl, DPut.k (k := .inr t.1) hD5 (by unfold formD; rw [List.length_map]; exact Nat.lt_of_le_of_lt ltv (by decide)), ?_⟩
          rw [form_put nz]
          have gd : Gw K H2 (upd H5 D (.dK (formD (tv ++ [(t.1, r1)])))) := (Gw.same (s34.trans s5)).trans (Gw.dict hD5)
          have gS := same_updS (o := .dK (formD (tv ++ [(t.1, r1)]))) (gw.trans (s34.trans s5)) nD0
          refine ⟨_, _, _, _, tv ++ [(t.1, r1)], rfl, gS, upd_same, by rw [upd_ne (fun z => neDO z.symm)]; exact (s34.trans s5) _ _ hO, gS.seq hl, rw_.kp (Kp.same gS), ?_⟩
          rw [ez]
          unfold fStep
          rw [if_neg c, if_neg (by rw [sOf_eq tx]; exact cl)]
          have sz := fig_sz (x := t.2.1) fa2' fb2'
          exact paired_snocT (fe.gw gd) ⟨rfl, (fo.gw (Gw.dict hD5)).mono (Nat.le_refl _) sz.2, sz.1, dW⟩
      · rintro σ H2 ⟨y4, y5, y6, y7, tv, rfl, gw, hD, hO, hl', rw', fe⟩
        rw [ln, List.take_length] at fe
        exact J _ _ ⟨_, _, _, _, tv, rfl, gw, hD, fe⟩
    rintro σ H2 ⟨y4, y5, y6, y7, tv, rfl, gw, hD, fe⟩
    repeat walk_at "st"
    exact q tv D H2 gw nD0 hD fe
  ) only [↓Mb.dischW]
theorem ok_asked {A_WIDEST : Addr} (F : Fn K mg "asked" s_asked) (g_WIDEST : mg "WIDEST" = some (.ref A_WIDEST)) (W_WIDEST : KI K A_WIDEST wideL) (G_rooted_in : Kn P w K mg base 6 "rooted_in" ["row", "name"] (spRootedN K)) (G_sort_of : Kn P w K mg base 1 "sort_of" ["making"] (spSort K)) (G_weights : Kn P w K mg base 5 "weights" ["row"] (spWeights K)) (G_frees : Kn P w K mg base 1 "frees" ["own"] (spFrees K)) (z_len : mg "len" = none) : Kn P w K mg base 7 "asked" ["row", "name", "sorts"] (spAskedN K) := by
  refine Mb.ofW ?_
  simp (discharger := with_unfolding_all
    refine F.kn sc_asked (fun vs H Q E h => ?_) (fun f cdv A0 outer s H vs Q E hr h => ?_) (fun _ _ _ _ _ _ us hl => match us, hl with | [_, _, _], _ => rfl)
    · obtain ⟨l, sp, z, us, ts, ss, rfl, _⟩ := h
      rfl
    obtain ⟨l, sp, z, us, ts, ss, rfl, hl, rw_, vr, hn, hz, hm, tss, ask, q⟩ := h
    refine ⟨_, (pss_cons (ps_set (i := 3) sc_asked.nd rfl (.inl rfl) (pe_kn G_rooted_in (hr.mono (by decide)) (by rfl) (pa_cons (pv 0) (pa_cons (pv 1) pa_nil))))
      (pss_cons (ps_if (pt_cmpR op_notIn_seq (pe_kn G_sort_of (hr.mono (by decide)) (by rfl) (pa_cons (pe_ix ix_tup (pe_ix ix_list (pv 3) (pe_un un_neg pe_int) (fun _ _ => rfl)) pe_int (fun _ _ => rfl)) pa_nil)) (pv 2) (by rfl))
      (pss_one ps_never)
      pss_nil)
      (pss_cons (ps_for PassesOwn.never rfl (pi_list (pv 3)) (pg_tup (by rfl) (pgs_cons (pg_name (i := 4) sc_asked.nd rfl (.inl rfl)) (pgs_cons (pg_name (i := 5) sc_asked.nd rfl (.inl rfl)) pgs_nil)))
      (pss_one (ps_if (pt_cmpR op_eq (pe_ix ix_tup (pv 5) pe_int (fun _ _ => rfl)) pe_str (nomark _))
      (pss_one ps_never)
      pss_nil)))
      (pss_cons (ps_if (pt_cmpR op_gt (pe_ix ix_list (pe_kn G_weights (hr.mono (by decide)) (by rfl) (pa_cons (pv 3) pa_nil)) (pe_un un_neg pe_int) (fun _ _ => rfl)) (pe_iget2 (pe_glob (v := .ref A_WIDEST) (by rfl) g_WIDEST rfl) (pe_callB call_len_seq (by rfl) z_len (by decide +kernel) (pa_cons (pe_kn G_frees (hr.mono (by decide)) (by rfl) (pa_cons (pv 3) pa_nil)) pa_nil)) pe_int ⟨by rfl, by rfl, by rfl, by rfl⟩) (nomark _))
      (pss_one ps_never)
      pss_nil)
      (pss_one (ps_ret (pv 3))))))), ?_⟩
    show (_ : TS) _ [some (.ref l), some (.str z), some (.ref sp), none, none, none] _
    repeat walk_at "st"
    refine ⟨l, z, us, ts, rfl, hl, rw_, vr, hn, hz, hm, fun D vs H1 s1 nD eD rwD => ?_⟩
    have eD1 : SqL K H1 D vs := lstOf eD
    have tss1 := s1.tp tss
    have lv := rwD.len
    have lr : (rootQ z ts).length ≤ 60 := Nat.le_trans (List.length_filter_le _ _) hn
    obtain ⟨a, t, ea, hs⟩ := ask.last
    have la : vs.length = a.length + 1 := by rw [lv, ea, List.length_append]; rfl
    obtain ⟨v, hv⟩ : ∃ v, vs[a.length]? = some v := ⟨_, List.getElem?_eq_getElem (by omega)⟩
    obtain ⟨t', ht, b, m, rfl, tb, mk⟩ := rwD.at hv
    obtain rfl : t = t' := by rw [ea, List.getElem?_append_right (Nat.le_refl _), Nat.sub_self] at ht; exact Option.some.inj ht
    have ht2 : ((rootQ z ts).map thOf)[a.length]? = some (thOf t) := by rw [List.getElem?_map, ht]; rfl
    obtain ⟨so, g, tx, _⟩ := ask.vr.okm ht2
    obtain ⟨r, tm, tl⟩ := id mk
    have ev : vs = vs.take a.length ++ [.ref b] := by
      have h1 : vs.take (a.length + 1) = vs.take a.length ++ [.ref b] := by rw [List.take_succ, hv]; rfl
      rw [← h1, ← la, List.take_length]
    refine r_seq ?_
    repeat walk_at "st"
    refine r_ixL (v := .ref b) eD1 (by rw [ev]; exact at_last) ?_
    repeat walk_at "st"
    refine ⟨m, t.2.1, so, g, _, rfl, tm, tx, ?_⟩
    repeat walk_at "st"
    have hso : so ∈ ss := by rw [← sOf_eq tx]; exact hs
    refine r_notInT tss1 ?_
    repeat walk_at "st"
    refine r_iteN (fun c => absurd hso c) (fun _ => ?_)
    repeat walk_at "st"
    with_reducible refine r_cut (fun σ H' => ∃ (y4 y5 : Option V), σ = [some (.ref l), some (.str z), some (.ref sp), some (.ref D), y4, y5] ∧ H' = H1) ?U1 ?V1
    case V1 =>
      intro N J
      refine ⟨.ref D, rfl, D, rfl, ⟨vs, eD1⟩, ?_⟩
      refine for_list (xs := vs) (fun i σ H' => ∃ (y4 y5 : Option V), σ = [some (.ref l), some (.str z), some (.ref sp), some (.ref D), y4, y5] ∧ H' = H1) ⟨_, _, rfl, rfl⟩ ?_ ?_ ?_
      · rintro i σ H' _ ⟨_, _, _, rfl⟩
        exact eD1
      · rintro i v σ H2 hv2 ⟨y4, y5, rfl, rfl⟩
        obtain ⟨u, hu, a2, m2, rfl, ta2, mk2⟩ := rwD.at hv2
        obtain ⟨r2, tm2, tl2⟩ := id mk2
        have nc := ask.nocut u (List.mem_of_getElem? hu)
        refine r_gT ta2 rfl ?_
        refine r_g2 ?_
        repeat walk_at "st"
        refine r_ixT0 tm2 ?_
        repeat walk_at "st"
        refine r_ite (fun c => absurd c nc) (fun c => ?_)
        repeat walk_at "st"
        exact ⟨_, _, rfl, rfl⟩
      · rintro σ H2 ⟨y4, y5, rfl, rfl⟩
        exact J _ _ ⟨_, _, rfl, rfl⟩
    rintro σ H2 ⟨y4, y5, rfl, rfl⟩
    repeat walk_at "st"
    obtain ⟨L0, e0, eL⟩ := env_last (ts := (rootQ z ts).map thOf) (by rw [ea]; simp)
    have lt := ask.light e0.2.2 (by rw [eL, List.getLast?_concat]; rfl)
    refine r_seq ?_
    repeat walk_at "st"
    refine ⟨D, vs, (rootQ z ts).map thOf, rfl, eD1, rwD.rws, ask.vr, by rw [List.length_map]; exact lr, fun p H2 s2 np ep => ?_⟩
    repeat walk_at "st"
    refine r_ixL (v := .int e0.2.2) (lstOf ep) (by rw [eL]; unfold weightsOf; rw [List.map_append]; exact at_last) ?_
    repeat walk_at "st"
    refine r_iget2 ?_
    repeat walk_at "st"
    refine ⟨A_WIDEST, wideL, rfl, W_WIDEST, ?_⟩
    repeat walk_at "st"
    refine ⟨D, vs, (rootQ z ts).map thOf, rfl, s2.seq eD1, (rwD.kp (Kp.same s2)).rws, by omega, fun Fd H3 s3 nF eF => ?_⟩
    repeat walk_at "st"
    refine ⟨Fd, _, rfl, .inl (lstOf eF), ?_⟩
    repeat walk_at "st"
    rw [List.length_map, List.length_map, wide_match]
    refine ⟨_, _, rfl, rfl, _, rfl, ?_⟩
    rw [if_neg (fun c => by
      have c2 : wideN (frN (rootQ z ts)) < e0.2.2 := of_decide_eq_true c
      omega)]
    repeat walk_at "st"
    exact q D vs H3 (s1.trans (s2.trans s3)) nD (s3 _ _ (s2 _ _ eD)) (rwD.kp (Kp.same (s2.trans s3)))
  ) only [↓Mb.dischW]
theorem ok_worked (F : Fn K mg "worked" s_worked) (G_asked : Kn P w K mg base 7 "asked" ["row", "name", "sorts"] (spAskedN K)) (G_forms_of : Kn P w K mg base 8 "forms_of" ["own"] (spFormsOf K)) : Kn P w K mg base 9 "worked" ["row", "name"] (spWorked K) := by
  refine Mb.ofW ?_
  simp (discharger := with_unfolding_all
    refine F.kn sc_worked (fun vs H Q E h => ?_) (fun f cdv A0 outer s H vs Q E hr h => ?_) (fun _ _ _ _ _ _ us hl => match us, hl with | [_, _], _ => rfl)
    · obtain ⟨l, z, us, ts, W, rfl, _⟩ := h
      rfl
    obtain ⟨l, z, us, ts, W, rfl, hl, rw_, vr, hn, hz, hm, ask, ok, m6, hc, w1, w24, hZ, q⟩ := h
    refine ⟨_, (pss_cons (ps_set (i := 2) sc_worked.nd rfl (.inl rfl) (pe_kn G_asked (hr.mono (by decide)) (by rfl) (pa_cons (pv 0) (pa_cons (pv 1) (pa_cons (pe_tup (pa_cons pe_str (pa_cons pe_str pa_nil))) pa_nil)))))
      (pss_one (ps_ret (pe_dget (u1 hr.units) (pe_kn G_forms_of (hr.mono (by decide)) (by rfl) (pa_cons (pv 2) pa_nil)) (pv 1) (fun _ _ => rfl))))), ?_⟩
    show (_ : TS) _ [some (.ref l), some (.str z), none] _
    have lr : (rootQ z ts).length ≤ 60 := Nat.le_trans (List.length_filter_le _ _) hn
    repeat walk_at "st"
    refine ⟨sz rfl, fun S nS => ?_⟩
    have s0 := same_new nS (.tup [V.str "point", .str "line"])
    refine ⟨l, S, z, us, ts, ["point", "line"], rfl, s0.seq hl, rw_.kp (Kp.same s0), vr, hn, hz, hm, tupOf upd_same, ask, fun D vs H1 s1 nD eD rwD => ?_⟩
    repeat walk_at "st"
    refine r_dg ?_
    repeat walk_at "st"
    refine ⟨D, vs, rootQ z ts, W, rfl, lstOf eD, rwD, lr, ok, m6, hc, w1, w24, fun tv O H2 s2 nO eO fe => ?_⟩
    repeat walk_at "st"
    exact ⟨O, _, rfl, get_form eO fe hZ, q _ _ (s0.trans (s1.trans s2)) (fe.look hZ).2⟩
  ) only [↓Mb.dischW]
theorem ok_pool (F : Fn K mg "_law_pool" s_pool) (z_len : mg "len" = none) : Kn P w K mg base 1 "_law_pool" ["_law_script", "_law_at"] (spPool K) := by
  refine Mb.ofW ?_
  simp (discharger := with_unfolding_all
    refine F.kn sc_pool (fun vs H Q E h => ?_) (fun f cdv A outer s H vs Q E hr h => ?_) (fun _ _ _ _ _ _ us hl => match us, hl with | [_, _], _ => rfl)
    · obtain ⟨a, ns, i, rfl, _⟩ := h
      rfl
    obtain ⟨a, ns, i, rfl, hS, hl, h0, h1, q⟩ := h
    refine ⟨_, (pss_cons (ps_set (i := 2) sc_pool.nd rfl (.inl rfl) pe_int)
      (pss_cons (ps_if (pt_cmpR op_gt (pe_callB call_len_seq (by rfl) z_len (by decide +kernel) (pa_cons (pv 0) pa_nil)) pe_int (nomark _))
      (pss_one (ps_set (i := 2) sc_pool.nd rfl (.inl rfl) (pe_ix ix_list (pv 0) (pe_op op_mod (pv 1) (pe_callB call_len_seq (by rfl) z_len (by decide +kernel) (pa_cons (pv 0) pa_nil))) (fun _ _ => rfl))))
      pss_nil)
      (pss_cons (ps_set (i := 3) sc_pool.nd rfl (.inl rfl) pe_int)
      (pss_cons (ps_if (PW.pt (pw_and (pt_cmpR op_ge (pv 2) (pe_op op_pow pe_int pe_int) (nomark _)) (pw_and1 (pt_cmpR op_lt (pv 1) (pe_callB call_len_seq (by rfl) z_len (by decide +kernel) (pa_cons (pv 0) pa_nil)) (nomark _)))))
      (pss_one (ps_set (i := 3) sc_pool.nd rfl (.inl rfl) (pv 2)))
      pss_nil)
      (pss_one (ps_ret (pe_lst (pa_cons (pv 3) (pa_cons (pe_op op_mulW pe_int (pv 1)) (pa_cons (pv 2) pa_nil)))))))))), ?_⟩
    show (_ : TS) _ [some (.ref a), some (.int i), none, none] _
    have hz : (ns.map V.int).length = ns.length := List.length_map _
    have si : Sm 64 i := by unfold Sm; omega
    have e18 : ((10 : Int) ^ (18 : Int).toNat) = 1000000000000000000 := by decide
    repeat walk_at "st"
    refine r_cut (fun σ H' => ∃ z : Int, σ = [some (.ref a), some (.int i), some (.int z), none] ∧ H' = H) ?_ (fun N J => ?_)
    · rintro σ H' ⟨z, rfl, rfl⟩
      repeat walk_at "st"
      refine r_cut (fun σ H2 => ∃ x : Int, σ = [some (.ref a), some (.int i), some (.int z), some (.int x)] ∧ H2 = H') ?_ (fun N J => ?_)
      · rintro σ H2 ⟨x, rfl, rfl⟩
        repeat walk_at "st"
        refine ⟨sz rfl, fun p hp => ?_⟩
        exact q p _ (same_new hp _) hp ⟨x, 1000 * i, z, upd_same, by omega, by omega⟩
      · repeat walk_at "st"
        refine r_ite (fun c => ?_) (fun c => ?_)
        · repeat walk_at "st"
          refine ⟨a, _, rfl, .inl hS, ?_⟩
          repeat walk_at "st"
          refine r_ite (fun c => ?_) (fun c => ?_)
          · repeat walk_at "st"
            exact J _ _ ⟨_, rfl, rfl⟩
          · repeat walk_at "st"
            exact J _ _ ⟨_, rfl, rfl⟩
        · repeat walk_at "st"
          exact J _ _ ⟨_, rfl, rfl⟩
    · repeat walk_at "st"
      refine ⟨a, _, rfl, .inl hS, ?_⟩
      repeat walk_at "st"
      refine r_ite (fun c => ?_) (fun c => ?_)
      · repeat walk_at "st"
        refine ⟨a, _, rfl, .inl hS, ?_⟩
        rw [hz] at c
        refine r_i (show (0 : Int) < _ by rw [hz]; omega) ?_
        have hk : (i % ((ns.map V.int).length : Int)).toNat < ns.length := by
          rw [hz]
          have := Int.emod_lt_of_pos i (show (0 : Int) < ns.length by omega)
          omega
        have e : i % ((ns.map V.int).length : Int) = (((i % ((ns.map V.int).length : Int)).toNat : Nat) : Int) := by
          rw [hz]
          have := Int.emod_nonneg i (show (ns.length : Int) ≠ 0 by omega)
          omega
        refine r_ixL hS (at_of e (by rw [List.getElem?_map, List.getElem?_eq_getElem hk]; rfl)) ?_
        repeat walk_at "st"
        exact J _ _ ⟨_, rfl, rfl⟩
      · repeat walk_at "st"
        exact J _ _ ⟨_, rfl, rfl⟩
  ) only [↓Mb.dischW]
theorem ok_take (F : Fn K mg "_law_take" s_take) : Kn P w K mg base 1 "_law_take" ["_law_pool_here", "_law_wide"] spTake := by
  refine Mb.ofW ?_
  simp (discharger := with_unfolding_all
    refine F.kn sc_take (fun vs H Q E h => ?_) (fun f cdv A outer s H vs Q E hr h => ?_) (fun _ _ _ _ _ _ us hl => match us, hl with | [_, _], _ => rfl)
    · obtain ⟨p, k, b, rfl, _⟩ := h
      rfl
    obtain ⟨p, k, b, rfl, ⟨x, y, z, hp, y0, y1⟩, hb, hk, hk2, q⟩ := h
    refine ⟨_, (pss_cons (ps_if (pt_cmpR op_gt (pe_ix ix_list (pv 0) pe_int (fun _ _ => rfl)) pe_int (nomark _))
      (pss_cons (ps_set (i := 2) sc_take.nd rfl (.inl rfl) (pe_op op_mod (pe_ix ix_list (pv 0) pe_int (fun _ _ => rfl)) (pv 1)))
      (pss_cons (ps_asg (pe_op op_fdivW (pe_ix ix_list (pv 0) pe_int (fun _ _ => rfl)) (pv 1)) (pg_sub (pv 0) pe_int set_list))
      (pss_one (ps_ret (pv 2)))))
      pss_nil)
      (pss_cons (ps_asg (pe_op op_add (pe_ix ix_list (pv 0) pe_int (fun _ _ => rfl)) pe_int) (pg_sub (pv 0) pe_int set_list))
      (pss_cons (ps_set (i := 3) sc_take.nd rfl (.inl rfl) (pe_op op_mod (pe_op op_pow (pe_op op_add (pe_op op_mod (pe_ix ix_list (pv 0) pe_int (fun _ _ => rfl)) pe_int) (pe_op op_mulW pe_int (pe_ix ix_list (pv 0) pe_int (fun _ _ => rfl)))) pe_int) pe_int))
      (pss_cons (ps_set (i := 3) sc_take.nd rfl (.inl rfl) (pe_op op_add (pe_op op_mulW (pv 3) pe_int) (pe_op op_mulW (pe_op op_mulW (pe_ix ix_list (pv 0) pe_int (fun _ _ => rfl)) (pe_ix ix_list (pv 0) pe_int (fun _ _ => rfl))) pe_int)))
      (pss_one (ps_ret (pe_op op_mod (pe_op op_fdivW (pe_op op_mod (pe_op op_add (pv 3) (pe_op op_fdivW (pe_ix ix_list (pv 0) pe_int (fun _ _ => rfl)) pe_int)) pe_int) pe_int) (pv 1)))))))), ?_⟩
    show (_ : TS) _ [some (.ref p), some (.int k), none, none] _
    have sk : Sm 64 k := by unfold Sm; omega
    have sy : Sm 64 (y + 1) := by unfold Sm; omega
    have m0 : ∀ i : Int, 0 ≤ i % k := fun i => Int.emod_nonneg i (by omega)
    have m1 : ∀ i : Int, i % k < k := fun i => Int.emod_lt_of_pos i (by omega)
    refine r_seq ?_
    repeat walk_at "st"
    refine r_ite (fun c => ?_) (fun c => ?_)
    · repeat walk_at "st"
      refine r_i (Sm.cdiv (by omega) sk) ?_
      repeat walk_at "st"
      refine r_setL hp rfl ?_
      repeat walk_at "st"
      exact q _ _ (But.upd _ _ _) ⟨_, y, z, upd_same, y0, by omega⟩ (m0 _) (m1 _)
    · repeat walk_at "st"
      refine r_setL hp rfl ?_
      dsimp only [List.set]
      have hp2 : (upd H p (.lst [.int x, .int (y + 1), .int z])) p = some (.lst [.int x, .int (y + 1), .int z]) := upd_same
      have e1 := Int.emod_nonneg z (show (2147483647 : Int) ≠ 0 by decide)
      have e2 := Int.emod_lt_of_pos z (show (0 : Int) < 2147483647 by decide)
      generalize hz : z % 2147483647 = z' at e1 e2
      repeat walk_at "st"
      rw [hz]
      refine r_i ⟨by decide, by decide, by omega⟩ ?_
      repeat walk_at "st"
      generalize hs : (z' + 40503 * (y + 1)) ^ Int.toNat 5 % 2147483647 = sd
      have e3 : 0 ≤ sd := by rw [← hs]; exact Int.emod_nonneg _ (by decide)
      have e4 : sd < 2147483647 := by rw [← hs]; exact Int.emod_lt_of_pos _ (by decide)
      have ss : Sm 64 sd := by unfold Sm; omega
      repeat walk_at "st"
      exact q _ _ (But.upd _ _ _) ⟨x, y + 1, z, upd_same, by omega, by omega⟩ (m0 _) (m1 _)
  ) only [↓Mb.dischW]
theorem ok_gcd (F : Fn K mg "_law_gcd" s_gcd) (z_abs : mg "abs" = none) : Kn P w K mg base 1 "_law_gcd" ["_law_one", "_law_other"] spGcd := by
  refine Mb.ofW ?_
  simp (discharger := with_unfolding_all
    refine F.kn sc_gcd (fun vs H Q E h => ?_) (fun f cdv A outer s H vs Q E hr h => ?_) (fun _ _ _ _ _ _ us hl => match us, hl with | [_, _], _ => rfl)
    · obtain ⟨a, b, rfl, _⟩ := h
      rfl
    obtain ⟨a, b, rfl, q⟩ := h
    refine ⟨_, (pss_cons (ps_set (i := 0) sc_gcd.nd rfl (.inl rfl) (pe_callB call_abs (by rfl) z_abs (by decide +kernel) (pa_cons (pv 0) pa_nil)))
      (pss_cons (ps_set (i := 1) sc_gcd.nd rfl (.inl rfl) (pe_callB call_abs (by rfl) z_abs (by decide +kernel) (pa_cons (pv 1) pa_nil)))
      (pss_cons (ps_while PassesOwn.never (pt_cmpR op_gt (pv 1) pe_int (nomark _))
      (pss_one (ps_par (by rfl) sc_gcd.nd (i := 0) (j := 1) rfl rfl (by decide) rfl rfl (pa_cons (pv 1) (pa_cons (pe_op op_mod (pv 0) (pv 1)) pa_nil)) (by rfl))))
      (pss_one (ps_ret (pv 0)))))), ?_⟩
    show (_ : TS) _ [some (.int a), some (.int b)] _
    repeat walk_at "st"
    refine ⟨a, rfl, ?_⟩
    repeat walk_at "st"
    refine ⟨b, rfl, ?_⟩
    repeat walk_at "st"
    refine r_seq ?_
    refine r_while (fun σ H' => H' = H ∧ ∃ x y : Int, σ = [some (.int x), some (.int y)] ∧ 0 ≤ x ∧ 0 ≤ y ∧ Int.gcd x y = Int.gcd a b) (fun σ _ => match σ with | [_, some (.int y)] => y.toNat | _ => 0) ?_ ?_
    · refine ⟨rfl, _, _, rfl, ?_, ?_, ?_⟩
      · split <;> omega
      · split <;> omega
      · split <;> split <;> simp only [Int.neg_gcd, Int.gcd_neg]
    · rintro σ H' ⟨rfl, x, y, rfl, hx, hy, hg⟩
      repeat walk_at "st"
      refine r_ite (fun c => ?_) (fun c => ?_)
      · refine r_turn ?_
        repeat walk_at "st"
        have e1 := Int.emod_nonneg x (show y ≠ 0 by omega)
        have e2 := Int.emod_lt_of_pos x (show 0 < y by omega)
        refine ⟨⟨rfl, y, x % y, rfl, hy, e1, by rw [gcd_step hx c, hg]⟩, ?_⟩
        show (x % y).toNat < y.toNat
        omega
      · have e : y = 0 := by omega
        subst e
        repeat walk_at "st"
        have g : (Int.gcd x 0 : Int) = x := by rw [Int.gcd_zero]; omega
        rw [hg] at g
        show Q (.int x) _
        rw [← g]
        exact q
  ) only [↓Mb.dischW]
theorem ok_low (F : Fn K mg "_law_low" s_low) (G_gcd : Kn P w K mg base 1 "_law_gcd" ["_law_one", "_law_other"] spGcd) : Kn P w K mg base 2 "_law_low" ["_law_top", "_law_bottom"] spLow := by
  refine Mb.ofW ?_
  simp (discharger := with_unfolding_all
    refine F.kn sc_low (fun vs H Q E h => ?_) (fun f cdv A outer s H vs Q E hr h => ?_) (fun _ _ _ _ _ _ us hl => match us, hl with | [_, _], _ => rfl)
    · obtain ⟨t, b, rfl, _⟩ := h
      rfl
    obtain ⟨t, b, rfl, hb, sb, q⟩ := h
    refine ⟨_, (pss_cons (ps_if (pt_cmpR op_lt (pv 1) pe_int (nomark _))
      (pss_one (ps_par (by rfl) sc_low.nd (i := 0) (j := 1) rfl rfl (by decide) rfl rfl (pa_cons (pe_un un_neg (pv 0)) (pa_cons (pe_un un_neg (pv 1)) pa_nil)) (by rfl)))
      pss_nil)
      (pss_cons (ps_set (i := 2) sc_low.nd rfl (.inl rfl) (pe_kn G_gcd (hr.mono (by decide)) (by rfl) (pa_cons (pv 0) (pa_cons (pv 1) pa_nil))))
      (pss_one (ps_ret (pe_tup (pa_cons (pe_op op_fdivW (pv 0) (pv 2)) (pa_cons (pe_op op_fdivW (pv 1) (pv 2)) pa_nil))))))), ?_⟩
    show (_ : TS) _ [some (.int t), some (.int b), none] _
    have g0 := gcd_pos (t := t) hb
    have gs : Sm 8000 (Int.gcd t b : Int) := sb.le (by
      have : (Int.gcd t b : Int) ∣ b := Int.gcd_dvd_right t b
      have := Int.le_of_dvd (show 0 < (b.natAbs : Int) by omega) (Int.dvd_natAbs.mpr this)
      omega)
    refine r_cut (fun σ H' => σ = [some (.int (if b < 0 then -t else t)), some (.int (if b < 0 then -b else b)), none] ∧ H' = H) ?_ (fun N J => ?_)
    · rintro σ H' ⟨rfl, rfl⟩
      repeat walk_at "st"
      refine ⟨_, _, rfl, ?_⟩
      have e : Int.gcd (if b < 0 then -t else t) (if b < 0 then -b else b) = Int.gcd t b := by
        split
        · rw [Int.neg_gcd, Int.gcd_neg]
        · rfl
      rw [e]
      repeat walk_at "st"
      refine r_i (Sm.cdiv g0 gs) ?_
      repeat walk_at "st"
      refine r_i (Sm.cdiv g0 gs) ?_
      repeat walk_at "st"
      refine ⟨sz rfl, fun p hp => ?_⟩
      exact q p _ (same_new hp _) hp upd_same
    · repeat walk_at "st"
      refine r_ite (fun c => ?_) (fun c => ?_)
      · repeat walk_at "st"
        exact J _ _ ⟨by rw [if_pos c, if_pos c], rfl⟩
      · repeat walk_at "st"
        exact J _ _ ⟨by rw [if_neg c, if_neg c], rfl⟩
  ) only [↓Mb.dischW]
theorem ok_whole (F : Fn K mg "_law_whole" s_whole) (z_isinstance : mg "isinstance" = none) (z_int : mg "int" = none) (z_bool : mg "bool" = none) : Kn P w K mg base 1 "_law_whole" ["_law_found"] spWhole := by
  refine Mb.ofW ?_
  simp (discharger := with_unfolding_all
    refine F.kn sc_whole (fun vs H Q E h => ?_) (fun f cdv A outer s H vs Q E hr h => ?_) (fun _ _ _ _ _ _ us hl => match us, hl with | [_], _ => rfl)
    · obtain ⟨i, rfl, _⟩ := h
      rfl
    obtain ⟨i, rfl, q⟩ := h
    refine ⟨_, (pss_one (ps_ret (pe_and (pe_callB call_isi (by rfl) z_isinstance (by decide +kernel) (pa_cons (pv 0) (pa_cons (pe_bltn (v := .ty "int") (by rfl) z_int (by decide +kernel) rfl) pa_nil))) (pe_one (pe_not (pe_callB call_isi (by rfl) z_isinstance (by decide +kernel) (pa_cons (pv 0) (pa_cons (pe_bltn (v := .ty "bool") (by rfl) z_bool (by decide +kernel) rfl) pa_nil)))))))), ?_⟩
    show (_ : TS) _ [some (.int i)] _
    repeat walk_at "st"
    refine r_isi (r := true) (.base (.int _)) (by decide +kernel) ?_
    repeat walk_at "st"
    refine r_isi (r := false) (.base (.int _)) (by decide +kernel) ?_
    repeat walk_at "st"
    exact q
  ) only [↓Mb.dischW]
theorem ok_frac (F : Fn K mg "_law_frac" s_frac) (G_take : Kn P w K mg base 1 "_law_take" ["_law_pool_here", "_law_wide"] spTake) (G_low : Kn P w K mg base 2 "_law_low" ["_law_top", "_law_bottom"] spLow) : Kn P w K mg base 3 "_law_frac" ["_law_pool_here"] spFracB := by
  refine F.kn sc_frac (fun vs H Q E h => ?_) (fun f cdv A outer s H vs Q E hr h => ?_) (fun _ _ _ _ _ _ us hl => match us, hl with | [_], _ => rfl)
  · obtain ⟨p, b, rfl, _⟩ := h
    rfl
  obtain ⟨p, b, rfl, hp, hb, q⟩ := h
  refine ⟨_, (pss_cons (ps_set (i := 1) sc_frac.nd rfl (.inl rfl) (pe_kn G_take (hr.mono (by decide)) (by rfl) (pa_cons (pv 0) (pa_cons pe_int pa_nil))))
    (pss_cons (ps_if (pt_cmpR op_lt (pv 1) pe_int (nomark _))
    (pss_one (ps_ret (pe_tup (pa_cons (pe_op op_sub (pe_kn G_take (hr.mono (by decide)) (by rfl) (pa_cons (pv 0) (pa_cons pe_int pa_nil))) pe_int) (pa_cons pe_int pa_nil)))))
    pss_nil)
    (pss_cons (ps_if (pt_cmpR op_lt (pv 1) pe_int (nomark _))
    (pss_one (ps_ret (pe_kn G_low (hr.mono (by decide)) (by rfl) (pa_cons (pe_op op_sub (pe_kn G_take (hr.mono (by decide)) (by rfl) (pa_cons (pv 0) (pa_cons pe_int pa_nil))) pe_int) (pa_cons (pe_op op_add pe_int (pe_kn G_take (hr.mono (by decide)) (by rfl) (pa_cons (pv 0) (pa_cons pe_int pa_nil)))) pa_nil)))))
    pss_nil)
    (pss_cons (ps_if (pt_cmpR op_eq (pv 1) pe_int (nomark _))
    (pss_one (ps_ret (pe_tup (pa_cons (pe_op op_sub (pe_kn G_take (hr.mono (by decide)) (by rfl) (pa_cons (pv 0) (pa_cons pe_int pa_nil))) pe_int) (pa_cons pe_int pa_nil)))))
    pss_nil)
    (pss_cons (ps_set (i := 2) sc_frac.nd rfl (.inl rfl) (pe_kn G_take (hr.mono (by decide)) (by rfl) (pa_cons (pv 0) (pa_cons pe_int pa_nil))))
    (pss_cons (ps_if (pt_cmpR op_lt (pv 2) pe_int (nomark _))
    (pss_one (ps_ret (pe_ix ix_list (pe_lst (pa_cons (pe_tup (pa_cons pe_int (pa_cons pe_int pa_nil))) (pa_cons (pe_tup (pa_cons (pe_un un_neg pe_int) (pa_cons pe_int pa_nil))) (pa_cons (pe_tup (pa_cons pe_int (pa_cons pe_int pa_nil))) (pa_cons (pe_tup (pa_cons (pe_un un_neg pe_int) (pa_cons pe_int pa_nil))) pa_nil))))) (pv 2) (fun _ _ => rfl))))
    pss_nil)
    (pss_cons (ps_set (i := 3) sc_frac.nd rfl (.inl rfl) (pe_op op_add (pe_op op_mulW (pe_kn G_take (hr.mono (by decide)) (by rfl) (pa_cons (pv 0) (pa_cons pe_int pa_nil))) pe_int) (pe_kn G_take (hr.mono (by decide)) (by rfl) (pa_cons (pv 0) (pa_cons pe_int pa_nil)))))
    (pss_cons (ps_set (i := 4) sc_frac.nd rfl (.inl rfl) (pe_op op_add (pe_op op_mulW (pe_kn G_take (hr.mono (by decide)) (by rfl) (pa_cons (pv 0) (pa_cons pe_int pa_nil))) pe_int) (pe_kn G_take (hr.mono (by decide)) (by rfl) (pa_cons (pv 0) (pa_cons pe_int pa_nil)))))
    (pss_one (ps_ret (pe_kn G_low (hr.mono (by decide)) (by rfl) (pa_cons (pe_op op_sub (pe_op op_mod (pv 3) pe_int) pe_int) (pa_cons (pe_op op_add pe_int (pe_op op_mod (pv 4) pe_int)) pa_nil))))))))))))), ?_⟩
  show (_ : TS) _ [some (.ref p), none, none, none, none] _
  repeat walk_at "st"
  refine ⟨p, _, b, rfl, hp, by omega, by decide, by decide, fun w1 H1 b1 hp1 l1 u1 => ?_⟩
  repeat walk_at "st"
  refine r_seq ?_
  repeat walk_at "st"
  refine r_ite (fun c => ?_) (fun c => ?_)
  · repeat walk_at "st"
    refine ⟨p, _, _, rfl, hp1, by omega, by decide, by decide, fun r2 H2 b2 hp2 l2 u2 => ?_⟩
    repeat walk_at "st"
    refine ⟨sz rfl, fun o ho => ?_⟩
    have sn := same_new ho (.tup [.int (r2 - 4), .int 1])
    exact q o _ _ _ ((b1.trans b2).trans (But.same sn)) ((hp2.same sn).mono (by omega)) upd_same (fb_int (by omega))
  repeat walk_at "st"
  refine r_seq ?_
  repeat walk_at "st"
  refine r_ite (fun c => ?_) (fun c => ?_)
  · repeat walk_at "st"
    refine ⟨p, _, _, rfl, hp1, by omega, by decide, by decide, fun r2 H2 b2 hp2 l2 u2 => ?_⟩
    repeat walk_at "st"
    refine ⟨p, _, _, rfl, hp2, by omega, by decide, by decide, fun r3 H3 b3 hp3 l3 u3 => ?_⟩
    repeat walk_at "st"
    refine ⟨_, _, rfl, by omega, (show Sm 64 (1 + r3) by unfold Sm; omega).mono (by decide), fun o H4 g4 n4 e4 => ?_⟩
    exact q o _ _ _ (((b1.trans b2).trans b3).trans (But.same g4)) ((hp3.same g4).mono (by omega)) e4 (fb_low (by omega) (by omega) (by omega))
  repeat walk_at "st"
  refine r_seq ?_
  repeat walk_at "st"
  refine r_ite (fun c => ?_) (fun c => ?_)
  · repeat walk_at "st"
    refine ⟨p, _, _, rfl, hp1, by omega, by decide, by decide, fun r2 H2 b2 hp2 l2 u2 => ?_⟩
    repeat walk_at "st"
    refine ⟨sz rfl, fun o ho => ?_⟩
    have sn := same_new ho (.tup [.int (r2 - 1000), .int 1])
    exact q o _ _ _ ((b1.trans b2).trans (But.same sn)) ((hp2.same sn).mono (by omega)) upd_same (fb_int (by omega))
  repeat walk_at "st"
  refine ⟨p, _, _, rfl, hp1, by omega, by decide, by decide, fun r2 H2 b2 hp2 l2 u2 => ?_⟩
  have bb := b1.trans b2
  clear b1 b2 hp1 hp
  repeat walk_at "st"
  refine r_seq ?_
  repeat walk_at "st"
  refine r_ite (fun c => ?_) (fun c => ?_)
  · repeat walk_at "st"
    refine ⟨sz rfl, fun o1 n1 => ?_⟩
    have s1 := same_new n1 (.tup [.int 999999999, .int 1])
    have k1 : (upd H2 o1 (.tup [.int 999999999, .int 1])) o1 = some (.tup [.int 999999999, .int 1]) := upd_same
    generalize upd H2 o1 (.tup [.int 999999999, .int 1]) = J1 at *
    repeat walk_at "st"
    refine ⟨sz rfl, fun o2 n2 => ?_⟩
    have s2 := same_new n2 (.tup [.int (-999999999), .int 1])
    have k2 : (upd J1 o2 (.tup [.int (-999999999), .int 1])) o2 = some (.tup [.int (-999999999), .int 1]) := upd_same
    generalize upd J1 o2 (.tup [.int (-999999999), .int 1]) = J2 at *
    repeat walk_at "st"
    refine ⟨sz rfl, fun o3 n3 => ?_⟩
    have s3 := same_new n3 (.tup [.int 1, .int 999999999])
    have k3 : (upd J2 o3 (.tup [.int 1, .int 999999999])) o3 = some (.tup [.int 1, .int 999999999]) := upd_same
    generalize upd J2 o3 (.tup [.int 1, .int 999999999]) = J3 at *
    repeat walk_at "st"
    refine ⟨sz rfl, fun o4 n4 => ?_⟩
    have s4 := same_new n4 (.tup [.int (-999999998), .int 999999999])
    have k4 : (upd J3 o4 (.tup [.int (-999999998), .int 999999999])) o4 = some (.tup [.int (-999999998), .int 999999999]) := upd_same
    generalize upd J3 o4 (.tup [.int (-999999998), .int 999999999]) = J4 at *
    repeat walk_at "st"
    refine ⟨sz rfl, fun o5 n5 => ?_⟩
    have s5 := same_new n5 (.lst [.ref o1, .ref o2, .ref o3, .ref o4])
    have k5 : (upd J4 o5 (.lst [.ref o1, .ref o2, .ref o3, .ref o4])) o5 = some (.lst [.ref o1, .ref o2, .ref o3, .ref o4]) := upd_same
    generalize upd J4 o5 (.lst [.ref o1, .ref o2, .ref o3, .ref o4]) = J5 at *
    have gg : Same H2 J5 := (((s1.trans s2).trans s3).trans s4).trans s5
    have b5 := bb.trans (But.same gg)
    have hp5 : Pl J5 p (b + 10) := (hp2.same gg).mono (by omega)
    have hr : r2 = 0 ∨ r2 = 1 ∨ r2 = 2 ∨ r2 = 3 := by omega
    rcases hr with rfl | rfl | rfl | rfl
    · repeat walk_at "st"
      exact q _ _ _ _ b5 hp5 (s5 _ _ (s4 _ _ (s3 _ _ (s2 _ _ k1)))) ⟨by decide, by decide +kernel, by decide, by decide⟩
    · repeat walk_at "st"
      exact q _ _ _ _ b5 hp5 (s5 _ _ (s4 _ _ (s3 _ _ k2))) ⟨by decide, by decide +kernel, by decide, by decide⟩
    · repeat walk_at "st"
      exact q _ _ _ _ b5 hp5 (s5 _ _ (s4 _ _ k3)) ⟨by decide, by decide +kernel, by decide, by decide⟩
    · repeat walk_at "st"
      exact q _ _ _ _ b5 hp5 (s5 _ _ k4) ⟨by decide, by decide +kernel, by decide, by decide⟩
  repeat walk_at "st"
  refine ⟨p, _, _, rfl, hp2, by omega, by decide, by decide, fun r3 H3 b3 hp3 l3 u3 => ?_⟩
  have q3 : Sm 20 r3 := by unfold Sm; omega
  repeat walk_at "st"
  refine ⟨p, _, _, rfl, hp3, by omega, by decide, by decide, fun r4 H4 b4 hp4 l4 u4 => ?_⟩
  repeat walk_at "st"
  refine ⟨p, _, _, rfl, hp4, by omega, by decide, by decide, fun r5 H5 b5 hp5 l5 u5 => ?_⟩
  have q5 : Sm 20 r5 := by unfold Sm; omega
  repeat walk_at "st"
  refine ⟨p, _, _, rfl, hp5, by omega, by decide, by decide, fun r6 H6 b6 hp6 l6 u6 => ?_⟩
  repeat walk_at "st"
  have m1 := Int.emod_nonneg (r3 * 44721 + r4) (show (1999999999 : Int) ≠ 0 by decide)
  have m2 := Int.emod_lt_of_pos (r3 * 44721 + r4) (show (0 : Int) < 1999999999 by decide)
  have m3 := Int.emod_nonneg (r5 * 31623 + r6) (show (999999999 : Int) ≠ 0 by decide)
  have m4 := Int.emod_lt_of_pos (r5 * 31623 + r6) (show (0 : Int) < 999999999 by decide)
  refine ⟨_, _, rfl, by omega, (show Sm 64 (1 + (r5 * 31623 + r6) % 999999999) by unfold Sm; omega).mono (by decide), fun o H7 g7 n7 e7 => ?_⟩
  refine q o _ _ _ (((((bb.trans b3).trans b4).trans b5).trans b6).trans (But.same g7)) ((hp6.same g7).mono (by omega)) e7 (fb_low (by omega) (by omega) (by omega))
theorem ok_place (F : Fn K mg "_law_place" s_place) (G_frac : Kn P w K mg base 3 "_law_frac" ["_law_pool_here"] spFracB) : Kn P w K mg base 4 "_law_place" ["_law_pool_here"] (spPlaceB K) := by
  refine Mb.ofW ?_
  simp (discharger := with_unfolding_all
    refine F.kn sc_place (fun vs H Q E h => ?_) (fun f cdv A outer s H vs Q E hr h => ?_) (fun _ _ _ _ _ _ us hl => match us, hl with | [_], _ => rfl)
    · obtain ⟨p, b, rfl, _⟩ := h
      rfl
    obtain ⟨p, b, rfl, hp, hb, q⟩ := h
    refine ⟨_, (pss_cons (ps_set (i := 1) sc_place.nd rfl (.inl rfl) (pe_kn G_frac (hr.mono (by decide)) (by rfl) (pa_cons (pv 0) pa_nil)))
      (pss_one (ps_ret (pe_tup (pa_cons (pv 1) (pa_cons (pe_kn G_frac (hr.mono (by decide)) (by rfl) (pa_cons (pv 0) pa_nil)) pa_nil)))))), ?_⟩
    show (_ : TS) _ [some (.ref p), none] _
    repeat walk_at "st"
    refine ⟨p, _, rfl, hp, by omega, fun o t u H1 b1 hp1 e1 f1 => ?_⟩
    repeat walk_at "st"
    refine ⟨p, _, rfl, hp1, by omega, fun o2 r s H2 b2 hp2 e2 f2 => ?_⟩
    repeat walk_at "st"
    refine ⟨sz rfl, fun a ha => ?_⟩
    have sn := same_new ha (.tup [.ref o, .ref o2])
    exact q a o o2 t u r s _ ((b1.trans b2).trans (But.same sn)) ((hp2.same sn).mono (by omega)) upd_same (sn.tp (hp1.tup b2 (tupOf e1))) (sn.tp (tupOf e2)) f1 f2
  ) only [↓Mb.dischW]
theorem ok_name (F : Fn K mg "_law_name" s_name) (G_take : Kn P w K mg base 1 "_law_take" ["_law_pool_here", "_law_wide"] spTake) (z_len : mg "len" = none) (z_range : mg "range" = none) (z_str : mg "str" = none) : Kn P w K mg base 2 "_law_name" ["_law_pool_here", "_law_had"] (spNameR K) := by
  refine Mb.ofW ?_
  simp (discharger := with_unfolding_all
    refine F.kn sc_name (fun vs H Q E h => ?_) (fun f cdv A outer s H vs Q E hr h => ?_) (fun _ _ _ _ _ _ us hl => match us, hl with | [_, _], _ => rfl)
    · obtain ⟨p, h, b, zs, rfl, _⟩ := h
      rfl
    obtain ⟨p, h, b, zs, rfl, hp, hb, hS, nph, hzs, q⟩ := h
    refine ⟨_, (pss_cons (ps_set (i := 2) sc_name.nd rfl (.inl rfl) (pe_lst (pa_cons pe_str (pa_cons pe_str (pa_cons pe_str (pa_cons pe_str (pa_cons pe_str (pa_cons pe_str (pa_cons pe_str (pa_cons pe_str pa_nil))))))))))
      (pss_cons (ps_set (i := 2) sc_name.nd rfl (.inl rfl) (pe_op op_cat (pv 2) (pe_lst (pa_cons pe_str (pa_cons pe_str (pa_cons pe_str (pa_cons pe_str (pa_cons pe_str pa_nil))))))))
      (pss_cons (ps_if (pt_cmpR op_eq (pe_kn G_take (hr.mono (by decide)) (by rfl) (pa_cons (pv 0) (pa_cons pe_int pa_nil))) pe_int (nomark _))
      (pss_one (ps_set (i := 3) sc_name.nd rfl (.inl rfl) (pe_ix ix_list (pv 2) (pe_kn G_take (hr.mono (by decide)) (by rfl) (pa_cons (pv 0) (pa_cons pe_int pa_nil))) (fun _ _ => rfl))))
      (pss_cons (ps_set (i := 3) sc_name.nd rfl (.inl rfl) (pe_ix ix_str pe_str (pe_kn G_take (hr.mono (by decide)) (by rfl) (pa_cons (pv 0) (pa_cons pe_int pa_nil))) (fun _ _ => rfl)))
      (pss_one (ps_for PassesOwn.never rfl (pi_range1 (by rfl) z_range (pa_cons (pe_ix ix_list (pe_lst (pa_cons pe_int (pa_cons pe_int (pa_cons pe_int (pa_cons pe_int (pa_cons pe_int (pa_cons pe_int (pa_cons pe_int (pa_cons pe_int pa_nil))))))))) (pe_kn G_take (hr.mono (by decide)) (by rfl) (pa_cons (pv 0) (pa_cons pe_int pa_nil))) (fun _ _ => rfl)) pa_nil)) (pg_name (i := 4) sc_name.nd rfl (.inl rfl))
      (pss_one (ps_set (i := 3) sc_name.nd rfl (.inl rfl) (pe_op op_add_str (pv 3) (pe_ix ix_str pe_str (pe_kn G_take (hr.mono (by decide)) (by rfl) (pa_cons (pv 0) (pa_cons pe_int pa_nil))) (fun _ _ => rfl)))))))))
      (pss_cons (ps_if (pt_cmpR op_notIn_seq (pv 3) (pv 1) (by rfl))
      (pss_one (ps_ret (pv 3)))
      pss_nil)
      (pss_cons (ps_for PassesOwn.never rfl (pi_range1 (by rfl) z_range (pa_cons (pe_op op_add (pe_callB call_len_seq (by rfl) z_len (by decide +kernel) (pa_cons (pv 1) pa_nil)) pe_int) pa_nil)) (pg_name (i := 4) sc_name.nd rfl (.inl rfl))
      (pss_one (ps_if (pt_cmpR op_notIn_seq (pe_op op_add_str (pe_slice sl_str (pv 3) po_none (po_some pe_int)) (pe_callTy call_str_int (by rfl) z_str (by decide +kernel) (pa_cons (pv 4) pa_nil))) (pv 1) (by rfl))
      (pss_one (ps_ret (pe_op op_add_str (pe_slice sl_str (pv 3) po_none (po_some pe_int)) (pe_callTy call_str_int (by rfl) z_str (by decide +kernel) (pa_cons (pv 4) pa_nil)))))
      pss_nil)))
      (pss_one (ps_ret (pv 3)))))))), ?_⟩
    show (_ : TS) _ [some (.ref p), some (.ref h), none, none, none] _
    repeat walk_at "st"
    refine ⟨sz rfl, fun l1 n1 => ?_⟩
    obtain ⟨J1, e1, s1, k1⟩ := nw n1 (.lst [V.str "free", .str "gone", .str "kept", .str "line", .str "cut", .str "put", .str "all", .str "at"])
    rw [← e1]
    repeat walk_at "st"
    refine ⟨sz rfl, fun l2 n2 => ?_⟩
    obtain ⟨J2, e2, s2, k2⟩ := nw n2 (.lst [V.str "same", .str "take", .str "lock", .str "group", .str "watch"])
    rw [← e2]
    repeat walk_at "st"
    refine ⟨l1, l2, _, _, rfl, rfl, s2 _ _ k1, k2, sz rfl, fun l3 n3 => ?_⟩
    obtain ⟨J3, e3, s3, k3⟩ := nw n3 (.lst ([V.str "free", .str "gone", .str "kept", .str "line", .str "cut", .str "put", .str "all", .str "at"] ++ [V.str "same", .str "take", .str "lock", .str "group", .str "watch"]))
    rw [← e3]
    have sJ : Same H J3 := s1.trans (s2.trans s3)
    have hS3 := sJ.seq hS
    have hp3 := hp.same sJ
    clear e1 e2 e3
    repeat walk_at "st"
    have stay : ∀ {H1 H2 : Hp}, But p H1 H2 → SqL K H1 h (zs.map V.str) → SqL K H2 h (zs.map V.str) := fun b1 hs => by
      rcases hs with (hs | ⟨o, hs⟩) | hs
      · exact .inl (.inl (b1 _ _ nph hs))
      · exact .inl (.inr ⟨o, b1 _ _ nph hs⟩)
      · exact .inr hs
    have one : ∀ c : Nat, (⟨#[c]⟩ : Str).length = 1 := fun _ => rfl
    refine r_cut (fun σ H' => ∃ (z : Str) (y : Option V), σ = [some (.ref p), some (.ref h), some (.ref l3), some (.str z), y] ∧ But p H H' ∧ Pl H' p (b + 20) ∧ SqL K H' h (zs.map V.str) ∧ (z.length ≤ 12 ∧ Gd z) ∧ PyData.strOk z = true) ?_ (fun N J => ?_)
    · rintro σ H4 ⟨z, y, rfl, b4, hp4, hS4, ⟨hz, gz⟩, oz⟩
      have hz2 : z.length ≤ sizeLine := Nat.le_trans hz (by decide)
      refine r_seq ?_
      repeat walk_at "st"
      refine ⟨h, _, rfl, .inl hS4, rfl, by rw [List.all_map]; exact List.all_eq_true.mpr (fun _ _ => rfl), ?_⟩
      repeat walk_at "st"
      have out : ∀ (x : Str), x.length ≤ 12 → Gd x → PyData.strOk x = true → x ∉ zs → Q (.str x) H4 := fun x hx gx ox nx => q x H4 b4 (hp4.mono (by omega)) ⟨⟨hx, gx⟩, ox⟩ nx
      rw [inV_str]
      cases iz : decide (z ∈ zs) with
      | false =>
        refine r_dT rfl ?_
        repeat walk_at "st"
        exact out z (by omega) gz oz (of_decide_eq_false iz)
      | true =>
        refine r_dF rfl ?_
        repeat walk_at "st"
        refine r_seq ?_
        refine ⟨_, rfl, h, _, rfl, .inl hS4, _, _, rfl, rfl, _, rfl, ?_, ?_, ?_⟩
        · rw [List.length_map]; omega
        · rw [List.length_map]; omega
        have en : ((((zs.map V.str).length : Nat) : Int) + 1).toNat = zs.length + 1 := by rw [List.length_map]; omega
        rw [en]
        refine for_range (n := zs.length + 1) (fun i σ H1 => H1 = H4 ∧ (∀ j : Nat, j < i → cutS z none (some 9) ++ Str.ofString (toString (0 + (j : Int))) ∈ zs) ∧ ∃ y, σ = [some (.ref p), some (.ref h), some (.ref l3), some (.str z), y]) ⟨rfl, fun j hj => absurd hj (Nat.not_lt_zero j), _, rfl⟩ ?_ ?_
        · rintro i σ H1 hi ⟨rfl, had, y, rfl⟩
          have hc : (cutS z none (some 9)).length ≤ 9 := cut9_len
          obtain ⟨ht, ho, hl⟩ := num_short i (by omega)
          have hcat : (cutS z none (some 9)).length + (Str.ofString (toString (0 + (i : Int)))).length ≤ sizeLine := Nat.le_trans (show _ ≤ 1000 by omega) (by decide)
          repeat walk_at "st"
          refine ⟨.str z, rfl, 9, rfl, z, rfl, hz2, ?_⟩
          repeat walk_at "st"
          refine ⟨_, rfl, hl, ?_⟩
          refine ⟨_, _, rfl, rfl, hcat, ?_⟩
          repeat walk_at "st"
          refine ⟨h, _, rfl, .inl hS4, rfl, by rw [List.all_map]; exact List.all_eq_true.mpr (fun _ _ => rfl), ?_⟩
          repeat walk_at "st"
          rw [inV_str]
          cases iz' : decide (cutS z none (some 9) ++ Str.ofString (toString (0 + (i : Int))) ∈ zs) with
          | false =>
            refine r_dT rfl ?_
            repeat walk_at "st"
            refine ⟨.str z, rfl, 9, rfl, z, rfl, hz2, ?_⟩
            repeat walk_at "st"
            refine ⟨_, rfl, hl, ?_⟩
            refine ⟨_, _, rfl, rfl, hcat, ?_⟩
            exact out _ (by rw [cat_len]; omega) (gz.cut9.cat (num_figs i (by omega))) (strOk_cat (strOk_cut oz) ho) (of_decide_eq_false iz')
          | true =>
            refine r_dF rfl ?_
            repeat walk_at "st"
            refine ⟨rfl, fun j hj => ?_, _, rfl⟩
            rcases Nat.lt_succ_iff_lt_or_eq.mp hj with h | rfl
            · exact had j h
            · exact of_decide_eq_true iz'
        · rintro σ H1 ⟨rfl, had, y, rfl⟩
          have bad := pigeon (zs.length + 1) zs (fun i j hi hj e => num_apart i (by omega) j (by omega) (cat_inj e)) had
          omega
    · repeat walk_at "st"
      refine ⟨p, _, b, rfl, hp3, by omega, by decide, by decide, fun r4 H4 b4 hp4 r40 r41 => ?_⟩
      have b4' : But p H H4 := (But.same sJ).trans b4
      have nl3 : l3 ≠ p := fun z => by
        obtain ⟨_, _, _, h1, _⟩ := (hp.same s1).same s2
        rw [z, h1] at n3
        cases n3
      repeat walk_at "st"
      refine r_ite (fun c => ?_) (fun c => ?_)
      · repeat walk_at "st"
        refine ⟨p, _, _, rfl, hp4, by omega, by decide, by decide, fun r5 H5 b5 hp5 r50 r51 => ?_⟩
        obtain ⟨m, am, hm⟩ : ∃ m : Str, atI ([V.str "free", .str "gone", .str "kept", .str "line", .str "cut", .str "put", .str "all", .str "at"] ++ [V.str "same", .str "take", .str "lock", .str "group", .str "watch"]) r5 = some (.str m) ∧ (m.length ≤ 12 ∧ Gd m) ∧ PyData.strOk m = true := by
          have : r5 = 0 ∨ r5 = 1 ∨ r5 = 2 ∨ r5 = 3 ∨ r5 = 4 ∨ r5 = 5 ∨ r5 = 6 ∨ r5 = 7 ∨ r5 = 8 ∨ r5 = 9 ∨ r5 = 10 ∨ r5 = 11 ∨ r5 = 12 := by omega
          rcases this with rfl | rfl | rfl | rfl | rfl | rfl | rfl | rfl | rfl | rfl | rfl | rfl | rfl
          all_goals exact ⟨_, rfl, ⟨by decide +kernel, show gdL _ = true by decide +kernel⟩, by decide +kernel⟩
        refine r_ixL (lstOf (b5 _ _ nl3 (b4 _ _ nl3 k3))) am ?_
        repeat walk_at "st"
        exact J _ _ ⟨m, _, rfl, b4'.trans b5, hp5.mono (by omega), stay b5 (stay b4 hS3), hm⟩
      · repeat walk_at "st"
        refine ⟨p, _, _, rfl, hp4, by omega, by decide, by decide, fun r5 H5 b5 hp5 r50 r51 => ?_⟩
        obtain ⟨c5, hc5⟩ := at_strK (z := "abcdefghijklmnopqrstuvwxyz") (n := 26) (by decide +kernel) r50 r51
        refine ⟨_, r5, c5, rfl, rfl, by decide +kernel, hc5, ?_⟩
        repeat walk_at "st"
        refine ⟨sz rfl, fun l6 n6 => ?_⟩
        have s6 := same_new n6 (.lst [V.int 0, .int 0, .int 1, .int 1, .int 2, .int 3, .int 6, .int 11])
        repeat walk_at "st"
        refine ⟨p, _, _, rfl, hp5.same s6, by omega, by decide, by decide, fun r6 H6 b6 hp6 r60 r61 => ?_⟩
        have nl6 : l6 ≠ p := fun z => by
          obtain ⟨_, _, _, h1, _⟩ := hp5
          rw [z, h1] at n6
          cases n6
        obtain ⟨m, am, m0, m1⟩ : ∃ m : Int, atI [V.int 0, .int 0, .int 1, .int 1, .int 2, .int 3, .int 6, .int 11] r6 = some (.int m) ∧ 0 ≤ m ∧ m ≤ 11 := by
          have : r6 = 0 ∨ r6 = 1 ∨ r6 = 2 ∨ r6 = 3 ∨ r6 = 4 ∨ r6 = 5 ∨ r6 = 6 ∨ r6 = 7 := by omega
          rcases this with rfl | rfl | rfl | rfl | rfl | rfl | rfl | rfl
          all_goals exact ⟨_, rfl, by decide, by decide⟩
        refine r_ixL (lstOf (b6 _ _ nl6 upd_same)) am ?_
        repeat walk_at "st"
        have b6' : But p H H6 := b4'.trans (b5.trans ((But.same s6).trans b6))
        have hS6 := stay b6 (s6.seq (stay b5 (stay b4 hS3)))
        refine ⟨_, rfl, by omega, by omega, for_range (n := m.toNat) (fun i σ H1 => But p H H1 ∧ Pl H1 p (b + 3 + i) ∧ SqL K H1 h (zs.map V.str) ∧ ∃ (z : Str) (y : Option V), σ = [some (.ref p), some (.ref h), some (.ref l3), some (.str z), y] ∧ (z.length ≤ 1 + i ∧ Gd z) ∧ PyData.strOk z = true) ⟨b6', hp6.mono (by omega), hS6, _, _, rfl, ⟨by rw [one]; omega, gd1 hc5⟩, strOk_one (by decide +kernel) hc5⟩ ?_ ?_⟩
        · rintro i σ H7 hi ⟨b7, hp7, hS7, z, y, rfl, ⟨hz, gz⟩, oz⟩
          repeat walk_at "st"
          refine ⟨p, _, _, rfl, hp7, by omega, by decide, by decide, fun r8 H8 b8 hp8 r80 r81 => ?_⟩
          obtain ⟨c8, hc8⟩ := at_strK (z := "abcdefghijklmnopqrstuvwxyz0123456789") (n := 36) (by decide +kernel) r80 r81
          refine ⟨_, r8, c8, rfl, rfl, by decide +kernel, hc8, ?_⟩
          refine ⟨_, _, rfl, rfl, Nat.le_trans (show _ ≤ 1000 by rw [one]; omega) (by decide), ?_⟩
          repeat walk_at "st"
          exact ⟨b7.trans b8, hp8.mono (by omega), stay b8 hS7, _, _, rfl, ⟨by rw [cat_len, one]; omega, gz.cat (by show (isLf c8 && true) = true; rw [all_one (f := isLf) (by decide +kernel) hc8]; rfl)⟩, strOk_cat oz (strOk_one (by decide +kernel) hc8)⟩
        · rintro σ H7 ⟨b7, hp7, hS7, z, y, rfl, ⟨hz, gz⟩, oz⟩
          repeat walk_at "st"
          exact J _ _ ⟨z, y, rfl, b7, hp7.mono (by omega), hS7, ⟨by omega, gz⟩, oz⟩
  ) only [↓Mb.dischW]
theorem ok_l_grounds (F : Fn K mg "_law_grounds" s_l_grounds) (z_list : mg "list" = none) : Kn P w K mg base 1 "_law_grounds" ["_law_making"] (spGroundsL K) := by
  refine Mb.ofW ?_
  simp (discharger := with_unfolding_all
    refine F.kn sc_l_grounds (fun vs H Q E h => ?_) (fun f cdv A outer s H vs Q E hr h => ?_) (fun _ _ _ _ _ _ us hl => match us, hl with | [_], _ => rfl)
    · obtain ⟨m, x, ns, L, rfl, _⟩ := h
      rfl
    obtain ⟨m, x, ns, L, rfl, ⟨r, tm, tl⟩, ⟨⟨so, g, tx, hn⟩, hz⟩, q⟩ := h
    refine ⟨_, (pss_cons (ps_if (pt_cmpR op_eq (pe_ix ix_tup (pv 0) pe_int (fun _ _ => rfl)) pe_str (nomark _))
      (pss_one (ps_ret (pe_lst pa_nil)))
      pss_nil)
      (pss_cons (ps_if (PW.pt (pw_or (pt_cmpR op_eq (pe_ix ix_tup (pv 0) pe_int (fun _ _ => rfl)) pe_str (nomark _)) (pw_or1 (pt_cmpR op_eq (pe_ix ix_tup (pv 0) pe_int (fun _ _ => rfl)) pe_str (nomark _)))))
      (pss_one (ps_ret (pe_lst (pa_cons (pe_ix ix_tup (pv 0) pe_int (fun _ _ => rfl)) (pa_cons (pe_ix ix_tup (pv 0) pe_int (fun _ _ => rfl)) pa_nil)))))
      pss_nil)
      (pss_one (ps_ret (pe_callTy call_list_of (by rfl) z_list (by decide +kernel) (pa_cons (pe_slice sl_tup (pv 0) (po_some pe_int) po_none) pa_nil)))))), ?_⟩
    show (_ : TS) _ [some (.ref m)] _
    repeat walk_at "st"
    refine r_seq ?_
    repeat walk_at "st"
    refine r_ixT0 tm ?_
    repeat walk_at "st"
    refine r_ite (fun c => ?_) (fun c => ?_)
    · repeat walk_at "st"
      refine ⟨sz rfl, fun l nl => ?_⟩
      have : ns = [] := List.eq_nil_of_length_eq_zero (by rw [hn]; exact (many_of tx).1 c)
      subst this
      exact q l _ (same_new nl _) nl upd_same
    repeat walk_at "st"
    have two : x = "share" ∨ x = "cut" → (tLst (tCons (tOp (rIxT K) (tVar 0) (tC (.int 1))) (tCons (tOp (rIxT K) (tVar 0) (tC (.int 2))) tNil))) [some (.ref m)] H Q := by
      intro c2
      obtain ⟨a, b, rfl⟩ := pair_of (by rw [hn]; exact two_of tx (c2.elim .inl fun h => .inr (.inl h)))
      repeat walk_at "st"
      refine r_ixT tm at_1 ?_
      repeat walk_at "st"
      refine r_ixT tm at_2 ?_
      repeat walk_at "st"
      refine ⟨sz rfl, fun l nl => ?_⟩
      exact q l _ (same_new nl _) nl upd_same
    refine r_seq ?_
    repeat walk_at "st"
    refine r_ixT0 tm ?_
    repeat walk_at "st"
    refine r_ite (fun c2 => ?_) (fun c2 => ?_)
    · exact two (.inl c2)
    repeat walk_at "st"
    refine r_ixT0 tm ?_
    repeat walk_at "st"
    refine r_ite (fun c3 => ?_) (fun c3 => ?_)
    · exact two (.inr c3)
    have := tl.nil c c2 c3
    subst this
    rw [List.append_nil] at tm
    repeat walk_at "st"
    refine r_slR ?_
    repeat walk_at "st"
    refine r_partR ?_
    repeat walk_at "st"
    refine ⟨m, _, rfl, tm, cut_part, fun p hp => ?_⟩
    rw [cut_tail]
    repeat walk_at "st"
    have s1 := same_new hp (.tup (ns.map V.str))
    refine ⟨p, _, rfl, .inr (tupOf upd_same), fun l hl => ?_⟩
    have s2 := same_new hl (.lst (ns.map V.str))
    exact q l _ (s1.trans s2) (s1.free hl) upd_same
  ) only [↓Mb.dischW]
theorem ok_sort (F : Fn K mg "_law_sort" s_sort) : Kn P w K mg base 1 "_law_sort" ["_law_making"] (spSortL K) := by
  refine Mb.ofW ?_
  simp (discharger := with_unfolding_all
    refine F.kn sc_sort (fun vs H Q E h => ?_) (fun f cdv A outer s H vs Q E hr h => ?_) (fun _ _ _ _ _ _ us hl => match us, hl with | [_], _ => rfl)
    · obtain ⟨m, x, ns, L, rfl, _⟩ := h
      rfl
    obtain ⟨m, x, ns, L, rfl, ⟨r, tm, tl⟩, ⟨⟨so, g, tx, hn⟩, hz⟩, q⟩ := h
    rw [sOf_eq tx] at q
    obtain ⟨s1, s2, s3, s4⟩ := sorts_of tx
    refine ⟨_, (pss_cons (ps_if (pt_cmpR op_in_seq (pe_ix ix_tup (pv 0) pe_int (fun _ _ => rfl)) (pe_lst (pa_cons pe_str (pa_cons pe_str (pa_cons pe_str pa_nil)))) (by rfl))
      (pss_one (ps_ret pe_str))
      pss_nil)
      (pss_cons (ps_if (pt_cmpR op_in_seq (pe_ix ix_tup (pv 0) pe_int (fun _ _ => rfl)) (pe_lst (pa_cons pe_str (pa_cons pe_str (pa_cons pe_str (pa_cons pe_str (pa_cons pe_str pa_nil)))))) (by rfl))
      (pss_one (ps_ret pe_str))
      pss_nil)
      (pss_cons (ps_if (pt_cmpR op_eq (pe_ix ix_tup (pv 0) pe_int (fun _ _ => rfl)) pe_str (nomark _))
      (pss_one (ps_ret pe_str))
      pss_nil)
      (pss_one (ps_ret pe_str))))), ?_⟩
    show (_ : TS) _ [some (.ref m)] _
    repeat walk_at "st"
    refine r_seq ?_
    repeat walk_at "st"
    refine r_ixT0 tm ?_
    repeat walk_at "st"
    refine ⟨sz rfl, fun l1 n1 => ?_⟩
    obtain ⟨H1, e1, g1, k1⟩ := nw n1 (.lst ((["line", "along", "upright"] : List Str).map V.str))
    refine r_inSL (zs := ["line", "along", "upright"]) (lstOf upd_same) ?_
    rw [show upd H l1 (.lst [V.str "line", .str "along", .str "upright"]) = H1 from e1.symm]
    repeat walk_at "st"
    refine r_ite (fun c => ?_) (fun c => ?_)
    · repeat walk_at "st"
      rw [s1 c] at q
      exact q _ g1
    repeat walk_at "st"
    refine r_seq ?_
    repeat walk_at "st"
    refine r_ixT0 (g1.tp tm) ?_
    repeat walk_at "st"
    refine ⟨sz rfl, fun l2 n2 => ?_⟩
    obtain ⟨H2, e2, g2, k2⟩ := nw n2 (.lst ((["inline", "round", "alike", "beside", "square"] : List Str).map V.str))
    refine r_inSL (zs := ["inline", "round", "alike", "beside", "square"]) (lstOf upd_same) ?_
    rw [show upd H1 l2 (.lst [V.str "inline", .str "round", .str "alike", .str "beside", .str "square"]) = H2 from e2.symm]
    have g12 := g1.trans g2
    repeat walk_at "st"
    refine r_ite (fun c2 => ?_) (fun c2 => ?_)
    · repeat walk_at "st"
      rw [s2 c2] at q
      exact q _ g12
    repeat walk_at "st"
    refine r_seq ?_
    repeat walk_at "st"
    refine r_ixT0 (g12.tp tm) ?_
    repeat walk_at "st"
    refine r_ite (fun c3 => ?_) (fun c3 => ?_)
    · repeat walk_at "st"
      rw [s3 c3] at q
      exact q _ g12
    repeat walk_at "st"
    rw [s4 c c2 c3] at q
    exact q _ g12
  ) only [↓Mb.dischW]
theorem ok_l_weight (F : Fn K mg "_law_weight" s_l_weight) (G_l_grounds : Kn P w K mg base 1 "_law_grounds" ["_law_making"] (spGroundsL K)) (z_sum : mg "sum" = none) : Kn P w K mg base 2 "_law_weight" ["_law_making", "_law_sorts", "_law_heavy_here"] (spWeightP K) := by
  refine Mb.ofW ?_
  simp (discharger := with_unfolding_all
    refine F.kn sc_l_weight (fun vs H Q E h => ?_) (fun f cdv A outer s H vs Q E hr h => ?_) (fun _ _ _ _ _ _ us hl => match us, hl with | [_, _, _], _ => rfl)
    · obtain ⟨m, S, W, x, ns, L, rfl, _⟩ := h
      rfl
    obtain ⟨m, S, W, x, ns, L, rfl, hm, ok, nc, hw, hl0, q⟩ := h
    have hm' := hm
    have ok' := ok
    obtain ⟨r, tm, tl⟩ := hm'
    obtain ⟨⟨so, g, tx, hn⟩, hz⟩ := ok'
    refine ⟨_, (pss_cons (ps_setLc (i := 3) (own := [("_law_name_here", 4)]) (g := gName 4) (by rfl) sc_l_weight.nd rfl rfl (sw_true rfl rfl rfl (by decide +kernel)) (pi_list (pe_kn G_l_grounds (hr.mono (by decide)) (by rfl) (pa_cons (pv 0) pa_nil))) (blkOk_by (own := [("_law_name_here", 4)]) (N := ["_law_making", "_law_sorts", "_law_heavy_here", "_law_each", "_law_name_here"]) (sc := (defScope s_l_weight)) (by decide +kernel)) (fun _ _ _ _ _ => pg_name (i := 4) sc_l_weight.nd rfl (.inl rfl)) (fun _ _ _ _ _ => pts_nil) (fun _ _ _ _ _ => (pe_dget (u1 hr.units) (pv 2) (pv 4) (fun _ _ => rfl))))
      (pss_cons (ps_if (pt_cmpR op_eq (pe_ix ix_tup (pv 0) pe_int (fun _ _ => rfl)) pe_str (nomark _))
      (pss_one (ps_ret pe_int))
      pss_nil)
      (pss_cons (ps_if (PW.pt (pw_or (pt_cmpR op_eq (pe_ix ix_tup (pv 0) pe_int (fun _ _ => rfl)) pe_str (nomark _)) (pw_or1 (pt_cmpR op_eq (pe_ix ix_tup (pv 0) pe_int (fun _ _ => rfl)) pe_str (nomark _)))))
      (pss_one (ps_ret (pe_op op_add (pe_ix ix_list (pv 3) pe_int (fun _ _ => rfl)) (pe_op op_mulW pe_int (pe_ix ix_list (pv 3) pe_int (fun _ _ => rfl))))))
      pss_nil)
      (pss_cons (ps_if (PW.pt (pw_and (pt_cmpR op_eq (pe_ix ix_tup (pv 0) pe_int (fun _ _ => rfl)) pe_str (nomark _)) (pw_and1 (pt_cmpR op_eq (pe_dget (u1 hr.units) (pv 1) (pe_ix ix_tup (pv 0) pe_int (fun _ _ => rfl)) (fun _ _ => rfl)) pe_str (nomark _)))))
      (pss_one (ps_ret (pe_op op_mulW pe_int (pe_op op_add (pe_ix ix_list (pv 3) pe_int (fun _ _ => rfl)) (pe_ix ix_list (pv 3) pe_int (fun _ _ => rfl))))))
      pss_nil)
      (pss_cons (ps_if (pt_cmpR op_eq (pe_ix ix_tup (pv 0) pe_int (fun _ _ => rfl)) pe_str (nomark _))
      (pss_one (ps_ret (pe_op op_add (pe_op op_mulW pe_int (pe_ix ix_list (pv 3) pe_int (fun _ _ => rfl))) (pe_ix ix_list (pv 3) pe_int (fun _ _ => rfl)))))
      pss_nil)
      (pss_cons (ps_if (PW.pt (pw_or (pt_cmpR op_eq (pe_ix ix_tup (pv 0) pe_int (fun _ _ => rfl)) pe_str (nomark _)) (pw_or1 (pt_cmpR op_eq (pe_ix ix_tup (pv 0) pe_int (fun _ _ => rfl)) pe_str (nomark _)))))
      (pss_one (ps_ret (pe_op op_mulW pe_int (pe_callB (cr_sum (by rfl)) (by rfl) z_sum (by decide +kernel) (pa_cons (pv 3) pa_nil)))))
      pss_nil)
      (pss_one (ps_ret (pe_callB (cr_sum (by rfl)) (by rfl) z_sum (by decide +kernel) (pa_cons (pv 3) pa_nil)))))))))), ?_⟩
    show (_ : TS) _ [some (.ref m), some (.ref S), some (.ref W), none, none] _
    have len : ns.length < 64 := by rw [hn]; exact few tx
    repeat walk_at "st"
    refine r_lcM ?_
    repeat walk_at "st"
    refine ⟨m, x, ns, L, rfl, hm, ok, fun l H1 s1 n1 e1 => ?_⟩
    refine lc_map (fun v => match v with | .str z => .int (wtE L z) | _ => .non) (lstOf e1) (by rw [List.length_map]; omega) (fun _ => rfl) (fun i v H' hv g' R k => ?_) fun D H2 s2 n2 e2 => ?_
    · rw [List.getElem?_map] at hv
      obtain ⟨z, hz1, rfl⟩ := Option.map_eq_some_iff.mp hv
      refine r_dg ?_
      repeat walk_at "st"
      refine ⟨W, _, rfl, get_load (g' _ _ (s1 _ _ hw)) (hz z (List.mem_of_getElem? hz1)).1, ?_⟩
      exact k _ (Same.refl _)
    rw [List.map_map] at e2
    replace e2 : H2 D = some (.lst ((ns.map (wtE L)).map V.int)) := by rw [List.map_map]; exact e2
    have g2 := s1.trans s2
    replace tm := g2.tp tm
    have hl := hl0
    have wb := fun z => hl.wt z
    have two : x = "foot" ∨ x = "mirror" ∨ x = "cut" → ∃ a b, ns = [a, b] := fun h => pair_of (by rw [hn]; exact two_of tx (by rcases h with h | h | h <;> simp [h]))
    clear s2 s1 n2 e1 hm
    repeat walk_at "st"
    refine r_seq ?_
    repeat walk_at "st"
    refine r_ixT0 tm ?_
    repeat walk_at "st"
    refine r_ite (fun c => ?_) (fun c => ?_)
    · repeat walk_at "st"
      rw [show wOf x ns L = 1 by unfold wOf; rw [if_pos c]] at q
      exact q _ g2
    repeat walk_at "st"
    have fm : x = "foot" ∨ x = "mirror" → tOp (rI0 fun i j => V.int (i + j)) (tOp (rIxL K) (tVar 3) (tC (.int 0))) (tOp (rI CMulW fun i j => V.int (i * j)) (tC (.int 2)) (tOp (rIxL K) (tVar 3) (tC (.int 1)))) [some (.ref m), some (.ref S), some (.ref W), some (.ref D), none] H2 Q := by
      intro c1
      obtain ⟨a, b, rfl⟩ := two (c1.elim .inl fun h => .inr (.inl h))
      have ha := wb a
      have hb := wb b
      repeat walk_at "st"
      refine ⟨_, _, rfl, rfl, cm_small (by omega) (by omega), ?_⟩
      repeat walk_at "st"
      rw [show wOf x [a, b] L = wtE L a + 2 * wtE L b by unfold wOf; rw [if_neg c, if_pos c1]; rfl] at q
      exact q _ g2
    refine r_seq ?_
    repeat walk_at "st"
    refine r_ixT0 tm ?_
    repeat walk_at "st"
    refine r_ite (fun c1 => fm (.inl c1)) (fun c1 => ?_)
    repeat walk_at "st"
    refine r_ixT0 tm ?_
    repeat walk_at "st"
    refine r_ite (fun c0 => fm (.inr c0)) (fun c0 => ?_)
    have c1' : ¬ (x = "foot" ∨ x = "mirror") := fun h => h.elim c1 c0
    clear fm
    repeat walk_at "st"
    with_reducible refine r_cut (fun σ H' => σ = [some (.ref m), some (.ref S), some (.ref W), some (.ref D), none] ∧ H' = H2 ∧ (x = "cut" → ¬ srtE L (ns.getD 0 "") = "circle")) ?U1 ?V1
    case V1 =>
      intro N J
      repeat walk_at "st"
      refine r_ixT0 tm ?_
      repeat walk_at "st"
      refine r_ite (fun c2 => ?_) (fun c2 => ?_)
      · exact absurd c2 nc
      · repeat walk_at "st"
        exact J _ _ ⟨rfl, rfl, fun h => absurd h c2⟩
    rintro σ Hx ⟨rfl, rfl, c2⟩
    refine r_seq ?_
    repeat walk_at "st"
    refine r_ixT0 tm ?_
    repeat walk_at "st"
    refine r_ite (fun c3 => ?_) (fun c3 => ?_)
    · exact absurd c3 nc
    repeat walk_at "st"
    obtain ⟨u0, u1'⟩ := sum_small hl ns
    have ra : x = "round" ∨ x = "alike" → tOp (rI CMulW fun i j => V.int (i * j)) (tC (.int 2)) (tCB (rSum K) (tCons (tVar 3) tNil)) [some (.ref m), some (.ref S), some (.ref W), some (.ref D), none] Hx Q := by
      intro c4
      repeat walk_at "st"
      refine ⟨D, _, rfl, lstOf e2, ?_⟩
      repeat walk_at "st"
      refine ⟨_, _, rfl, rfl, cm_small (by omega) (by omega), ?_⟩
      repeat walk_at "st"
      rw [show wOf x ns L = 2 * (ns.map (wtE L)).sum by unfold wOf; rw [if_neg c, if_neg c1', if_neg c3, if_pos c4]] at q
      exact q _ g2
    refine r_seq ?_
    repeat walk_at "st"
    refine r_ixT0 tm ?_
    repeat walk_at "st"
    refine r_ite (fun c4 => ra (.inl c4)) (fun c4 => ?_)
    repeat walk_at "st"
    refine r_ixT0 tm ?_
    repeat walk_at "st"
    refine r_ite (fun c5 => ra (.inr c5)) (fun c5 => ?_)
    repeat walk_at "st"
    refine ⟨D, _, rfl, lstOf e2, ?_⟩
    rw [show wOf x ns L = (ns.map (wtE L)).sum by unfold wOf; rw [if_neg c, if_neg c1', if_neg c3, if_neg (fun h => h.elim c4 c5)]] at q
    exact q _ g2
  ) only [↓Mb.dischW]
theorem ok_form (F : Fn K mg "_law_form" s_form) (G_whole : Kn P w K mg base 1 "_law_whole" ["_law_found"] spWhole) (z_isinstance : mg "isinstance" = none) (z_len : mg "len" = none) (z_range : mg "range" = none) (z_tuple : mg "tuple" = none) : Kn P w K mg base 2 "_law_form" ["_law_found", "_law_many"] (spFormG K) := by
  refine Mb.ofW ?_
  simp (discharger := with_unfolding_all
    refine F.kn sc_form (fun vs H Q E h => ?_) (fun f cdv A outer s H vs Q E hr h => ?_) (fun _ _ _ _ _ _ us hl => match us, hl with | [_, _], _ => rfl)
    · obtain ⟨f, m, Fo, rfl, _⟩ := h
      rfl
    obtain ⟨f, m, Fo, rfl, ⟨us, hf, tm⟩, gd, lf, hm, q⟩ := h
    have ln : us.length = Fo.length := Paired.length tm
    refine ⟨_, (pss_cons (ps_if (pt_not (pt_val (pe_callB call_isi (by rfl) z_isinstance (by decide +kernel) (pa_cons (pv 0) (pa_cons (pe_bltn (v := .ty "tuple") (by rfl) z_tuple (by decide +kernel) rfl) pa_nil)))))
      (pss_one (ps_ret pe_bl))
      pss_nil)
      (pss_cons (ps_for PassesOwn.never rfl (pi_range1 (by rfl) z_range (pa_cons (pe_callB call_len_seq (by rfl) z_len (by decide +kernel) (pa_cons (pv 0) pa_nil)) pa_nil)) (pg_name (i := 2) sc_form.nd rfl (.inl rfl))
      (pss_cons (ps_set (i := 3) sc_form.nd rfl (.inl rfl) (pe_ix ix_tup (pv 0) (pv 2) (fun _ _ => rfl)))
      (pss_cons (ps_if (PW.pt (pw_or (pt_not (pt_val (pe_callB call_isi (by rfl) z_isinstance (by decide +kernel) (pa_cons (pv 3) (pa_cons (pe_bltn (v := .ty "tuple") (by rfl) z_tuple (by decide +kernel) rfl) pa_nil))))) (pw_or (pt_cmpR op_ne (pe_callB call_len_seq (by rfl) z_len (by decide +kernel) (pa_cons (pv 3) pa_nil)) pe_int (nomark _)) (pw_or1 (pt_not (pt_val (pe_callB call_isi (by rfl) z_isinstance (by decide +kernel) (pa_cons (pe_ix ix_tup (pv 3) pe_int (fun _ _ => rfl)) (pa_cons (pe_bltn (v := .ty "tuple") (by rfl) z_tuple (by decide +kernel) rfl) pa_nil)))))))))
      (pss_one (ps_ret pe_bl))
      pss_nil)
      (pss_cons (ps_if (PW.pt (pw_or (pt_cmpR op_ne (pe_callB call_len_seq (by rfl) z_len (by decide +kernel) (pa_cons (pe_ix ix_tup (pv 3) pe_int (fun _ _ => rfl)) pa_nil)) (pv 1) (nomark _)) (pw_or (pt_not (pt_val (pe_kn G_whole (hr.mono (by decide)) (by rfl) (pa_cons (pe_ix ix_tup (pv 3) pe_int (fun _ _ => rfl)) pa_nil)))) (pw_or1 (pt_cmpR op_eq (pe_ix ix_tup (pv 3) pe_int (fun _ _ => rfl)) pe_int (nomark _))))))
      (pss_one (ps_ret pe_bl))
      pss_nil)
      (pss_cons (ps_for PassesOwn.never rfl (pi_tup (pe_ix ix_tup (pv 3) pe_int (fun _ _ => rfl))) (pg_name (i := 4) sc_form.nd rfl (.inl rfl))
      (pss_one (ps_if (PW.pt (pw_or (pt_not (pt_val (pe_kn G_whole (hr.mono (by decide)) (by rfl) (pa_cons (pv 4) pa_nil)))) (pw_or1 (pt_cmpR op_lt (pv 4) pe_int (nomark _)))))
      (pss_one (ps_ret pe_bl))
      pss_nil)))
      (pss_one (ps_if (PW.pt (pw_and (pt_cmpR op_gt (pv 2) pe_int (nomark _)) (pw_and1 (pt_not (pt_cmpR (op_ltT (u0 hr.units)) (pe_ix ix_tup (pe_ix ix_tup (pv 0) (pe_op op_sub (pv 2) pe_int) (fun _ _ => rfl)) pe_int (fun _ _ => rfl)) (pe_ix ix_tup (pv 3) pe_int (fun _ _ => rfl)) (nomark _))))))
      (pss_one (ps_ret pe_bl))
      pss_nil)))))))
      (pss_one (ps_ret pe_bl)))), ?_⟩
    show (_ : TS) _ [some (.ref f), some (.int (m : Int)), none, none, none] _
    repeat walk_at "st"
    refine r_seq ?_
    repeat walk_at "st"
    refine r_isi (a := "tuple") (b := "tuple") (r := true) (.base (.tup hf)) (by decide +kernel) ?_
    repeat walk_at "st"
    with_reducible refine r_cut (fun σ H' => ∃ y2 y3 y4 : Option V, σ = [some (.ref f), some (.int (m : Int)), y2, y3, y4] ∧ H' = H) ?U1 ?V1
    case V1 =>
      intro N J
      unfold tFor iRng1
      repeat walk_at "st"
      refine ⟨f, us, rfl, .inr (tupOf hf), ?_⟩
      repeat walk_at "st"
      refine ⟨((us.length : Nat) : Int), rfl, by omega, by omega, ?_⟩
      rw [show ((us.length : Nat) : Int).toNat = us.length from by omega]
      refine for_range (n := us.length) (fun i σ H' => ∃ y2 y3 y4 : Option V, σ = [some (.ref f), some (.int (m : Int)), y2, y3, y4] ∧ H' = H) ⟨_, _, _, rfl, rfl⟩ ?_ ?_
      · rintro i σ H' hi ⟨y2, y3, y4, rfl, rfl⟩
        have hu : us[i]? = some us[i] := List.getElem?_eq_getElem hi
        obtain ⟨t, ht, ta, qa, hv, tt, pw⟩ := tm.at hu
        have htm := List.mem_of_getElem? ht
        have pw' : H' qa = some (.tup (t.1.map V.int)) := pw
        repeat walk_at "st"
        refine r_ixT (v := .ref ta) (tupOf hf) (by rw [Int.zero_add, atI_nat hu, hv]) ?_
        repeat walk_at "st"
        refine r_seq ?_
        repeat walk_at "st"
        refine r_isi (a := "tuple") (b := "tuple") (r := true) (.base (.tup tt)) (by decide +kernel) ?_
        repeat walk_at "st"
        refine ⟨ta, _, rfl, .inr (tupOf tt), ?_⟩
        repeat walk_at "st"
        refine r_iteN (fun c => ?_) (fun c => ?_)
        · exact absurd rfl c
        repeat walk_at "st"
        refine r_isi (a := "tuple") (b := "tuple") (r := true) (.base (.tup pw')) (by decide +kernel) ?_
        repeat walk_at "st"
        refine r_seq ?_
        repeat walk_at "st"
        refine ⟨qa, _, rfl, .inr (tupOf pw'), ?_⟩
        repeat walk_at "st"
        refine r_iteN (fun c => ?_) (fun c => ?_)
        · exact absurd (by rw [List.length_map, gd.len t htm]) c
        repeat walk_at "st"
        refine ⟨t.2, rfl, ?_⟩
        repeat walk_at "st"
        refine r_ite (fun c => ?_) (fun c => ?_)
        · exact absurd c (gd.nz t htm)
        repeat walk_at "st"
        with_reducible refine r_cut (fun σ H'' => ∃ y4 : Option V, σ = [some (.ref f), some (.int (m : Int)), some (.int (0 + (i : Int))), some (.ref ta), y4] ∧ H'' = H') ?U2 ?V2
        case V2 =>
          intro N' J'
          unfold iTup
          repeat walk_at "st"
          refine ⟨qa, rfl, ⟨_, tupOf pw'⟩, ?_⟩
          refine for_tup (xs := t.1.map V.int) (fun j σ H'' => ∃ y4 : Option V, σ = [some (.ref f), some (.int (m : Int)), some (.int (0 + (i : Int))), some (.ref ta), y4] ∧ H'' = H') ?_ ?_ ?_ ?_
          · exact ⟨_, rfl, rfl⟩
          · rintro j σ H'' _ ⟨_, _, rfl⟩
            exact tupOf pw'
          · rintro j v σ H'' hv' ⟨y4', rfl, rfl⟩
            rw [List.getElem?_map] at hv'
            obtain ⟨x, hx, rfl⟩ := Option.map_eq_some_iff.mp hv'
            have hx0 := gd.pos t htm x (List.mem_of_getElem? hx)
            repeat walk_at "st"
            refine ⟨x, rfl, ?_⟩
            repeat walk_at "st"
            refine r_ite (fun c => ?_) (fun c => ?_)
            · omega
            repeat walk_at "st"
            exact ⟨_, rfl, rfl⟩
          · rintro σ H'' ⟨y4', rfl, rfl⟩
            exact J' _ _ ⟨_, rfl, rfl⟩
        rintro σ H'' ⟨y4', rfl, rfl⟩
        repeat walk_at "st"
        refine r_ite (fun c => ?_) (fun c => ?_)
        · obtain ⟨k, rfl⟩ : ∃ k, i = k + 1 := ⟨i - 1, by omega⟩
          have hk : us[k]? = some us[k] := List.getElem?_eq_getElem (by omega)
          obtain ⟨u, hu', tb, qb, hv2, tt2, pw2⟩ := tm.at hk
          have lt : lexL u.1 t.1 = true := by
            have hk1 : k < Fo.length := by omega
            have hk2 : k + 1 < Fo.length := by omega
            have := List.pairwise_iff_getElem.mp gd.up k (k + 1) hk1 hk2 (by omega)
            rw [List.getElem?_eq_getElem hk1] at hu'
            rw [List.getElem?_eq_getElem hk2] at ht
            rw [← Option.some.inj hu', ← Option.some.inj ht]
            exact this
          repeat walk_at "st"
          refine r_ixT (v := .ref tb) (tupOf hf) (by rw [show (0 + ((k + 1 : Nat) : Int)) - 1 = (k : Int) by omega, atI_nat hk, hv2]) ?_
          repeat walk_at "st"
          refine ⟨qb, qa, u.1, t.1, rfl, rfl, tupOf pw2, tupOf pw', ?_⟩
          rw [lexLt_eq, lt]
          repeat walk_at "st"
          exact ⟨_, _, _, rfl, rfl⟩
        · repeat walk_at "st"
          exact ⟨_, _, _, rfl, rfl⟩
      · rintro σ H' ⟨y2, y3, y4, rfl, rfl⟩
        exact J _ _ ⟨_, _, _, rfl, rfl⟩
    rintro σ H' ⟨y2, y3, y4, rfl, rfl⟩
    repeat walk_at "st"
    exact q
  ) only [↓Mb.dischW]
theorem ok_power (F : Fn K mg "_law_power" s_power) (z_range : mg "range" = none) : Kn P w K mg base 1 "_law_power" ["_law_number", "_law_count"] spPow := by
  refine Mb.ofW ?_
  simp (discharger := with_unfolding_all
    refine F.kn sc_power (fun vs H Q E h => ?_) (fun f cdv A outer s H vs Q E hr h => ?_) (fun _ _ _ _ _ _ us hl => match us, hl with | [_, _], _ => rfl)
    · obtain ⟨n, k, B, rfl, _⟩ := h
      rfl
    obtain ⟨n, k, B, rfl, sn, hB, hB1, hk, q⟩ := h
    refine ⟨_, (pss_cons (ps_set (i := 2) sc_power.nd rfl (.inl rfl) pe_int)
      (pss_cons (ps_for PassesOwn.never rfl (pi_range1 (by rfl) z_range (pa_cons (pv 1) pa_nil)) (pg_name (i := 3) sc_power.nd rfl (.inl rfl))
      (pss_one (ps_set (i := 2) sc_power.nd rfl (.inl rfl) (pe_op op_mulW (pv 2) (pv 0)))))
      (pss_one (ps_ret (pv 2))))), ?_⟩
    show (_ : TS) _ [some (.int n), some (.int (k : Int)), none, none] _
    repeat walk_at "st"
    with_reducible refine r_cut (fun σ H' => ∃ y : Option V, σ = [some (.int n), some (.int (k : Int)), some (.int (n ^ k)), y] ∧ H' = H) ?U1 ?V1
    case V1 =>
      intro N J
      refine ⟨.int (k : Int), rfl, (k : Int), rfl, by omega, by omega, ?_⟩
      rw [show ((k : Int)).toNat = k from by omega]
      refine for_range (n := k) (fun i σ H' => ∃ y : Option V, σ = [some (.int n), some (.int (k : Int)), some (.int (n ^ i)), y] ∧ H' = H) ⟨_, by rw [Int.pow_zero], rfl⟩ ?_ ?_
      · rintro i σ H' hi ⟨y, rfl, rfl⟩
        repeat walk_at "st"
        refine ⟨_, _, rfl, rfl, Sm.cmul (m := B * i + 1) (n := B) (sn.pow i) sn (by omega) (by omega) (by have : B * i ≤ 10000 * 50 := Nat.mul_le_mul hB (by omega); omega), ?_⟩
        repeat walk_at "st"
        exact ⟨_, by rw [Int.pow_succ], rfl⟩
      · rintro σ H' ⟨y, rfl, rfl⟩
        exact J _ _ ⟨_, rfl, rfl⟩
    rintro σ H' ⟨y, rfl, rfl⟩
    repeat walk_at "st"
    exact q
  ) only [↓Mb.dischW]
theorem ok_worth (F : Fn K mg "_law_worth" s_worth) (G_power : Kn P w K mg base 1 "_law_power" ["_law_number", "_law_count"] spPow) (z_len : mg "len" = none) (z_range : mg "range" = none) (z_max : mg "max" = none) : Kn P w K mg base 2 "_law_worth" ["_law_form_here", "_law_numbers"] (spLWorth K) := by
  refine Mb.ofW ?_
  simp (discharger := with_unfolding_all
    refine F.kn sc_worth (fun vs H Q E h => ?_) (fun f cdv A outer s H vs Q E hr h => ?_) (fun _ _ _ _ _ _ us hl => match us, hl with | [_, _], _ => rfl)
    · obtain ⟨f, l, Fo, ws, rs, m, S, b, c, rfl, _⟩ := h
      rfl
    obtain ⟨f, l, Fo, ws, rs, m, S, b, c, rfl, hf, ok, hc, hc2, hl, sF, hL, fr, hm, hm2, hb, hS, hb2, hb1, q⟩ := h
    obtain ⟨us, ef, tF⟩ := id hf
    have l1 := Paired.length tF
    have lW := Paired.length fr
    refine ⟨_, (pss_cons (ps_setLc (i := 2) (own := [("_law_k", 5)]) (g := gName 5) (by rfl) sc_worth.nd rfl rfl (sw_true rfl rfl rfl (by decide +kernel)) (pi_range1 (by rfl) z_range (pa_cons (pe_callB call_len_seq (by rfl) z_len (by decide +kernel) (pa_cons (pv 1) pa_nil)) pa_nil)) (blkOk_by (own := [("_law_k", 5)]) (N := ["_law_form_here", "_law_numbers", "_law_most", "_law_powers", "_law_number", "_law_k", "_law_top", "_law_part_here", "_law_bottom"]) (sc := (defScope s_worth)) (by decide +kernel)) (fun _ _ _ _ _ => pg_name (i := 5) sc_worth.nd rfl (.inr rfl)) (fun _ _ _ _ _ => pts_nil) (fun _ _ _ _ _ => (pe_callB (show CallR _ (.builtin "max") (rMax K) from cr_max (by rfl)) (by rfl) z_max (by decide +kernel) (pa_cons (pe_op op_cat (pe_lst (pa_cons pe_int pa_nil)) (pe_lc (own := [("_law_powers", 3), ("_law_number", 4)]) (g := gTup K 2 (gCons (gName 3) (gCons (gName 4) gNil))) (by rfl) sc_worth.nd (show PI _ _ _ (iTup K _) from pi_tup (pv 0)) (blkOk_by (own := [("_law_powers", 3), ("_law_number", 4)]) (N := ["_law_form_here", "_law_numbers", "_law_most", "_law_powers", "_law_number", "_law_k", "_law_top", "_law_part_here", "_law_bottom"]) (sc := ({ kind := .function, names := [(".0", .local), ("_law_k", .cell), ("max", .globalImplicit), ("_law_form_here", .cell)], isGenerator := false, isCoroutine := false } : Scope)) (by decide +kernel)) (fun _ _ _ _ _ => pg_tup (by rfl) (pgs_cons (pg_name (i := 3) sc_worth.nd rfl (.inl rfl)) (pgs_cons (pg_name (i := 4) sc_worth.nd rfl (.inl rfl)) pgs_nil))) (fun _ _ _ _ _ => pts_nil) (fun _ _ _ _ _ => (pe_ix (show IxR _ (rIxT K) from ix_tup) (pv 3) (pv 5) (fun _ _ => rfl))))) pa_nil))))
      (pss_cons (ps_set (i := 6) sc_worth.nd rfl (.inl rfl) pe_int)
      (pss_cons (ps_for PassesOwn.never rfl (pi_tup (pv 0)) (pg_tup (by rfl) (pgs_cons (pg_name (i := 3) sc_worth.nd rfl (.inl rfl)) (pgs_cons (pg_name (i := 4) sc_worth.nd rfl (.inl rfl)) pgs_nil)))
      (pss_cons (ps_set (i := 7) sc_worth.nd rfl (.inl rfl) (pv 4))
      (pss_cons (ps_for PassesOwn.never rfl (pi_range1 (by rfl) z_range (pa_cons (pe_callB call_len_seq (by rfl) z_len (by decide +kernel) (pa_cons (pv 1) pa_nil)) pa_nil)) (pg_name (i := 5) sc_worth.nd rfl (.inl rfl))
      (pss_cons (ps_set (i := 7) sc_worth.nd rfl (.inl rfl) (pe_op op_mulW (pv 7) (pe_kn G_power (hr.mono (by decide)) (by rfl) (pa_cons (pe_ix ix_tup (pe_ix ix_list (pv 1) (pv 5) (fun _ _ => rfl)) pe_int (fun _ _ => rfl)) (pa_cons (pe_ix ix_tup (pv 3) (pv 5) (fun _ _ => rfl)) pa_nil)))))
      (pss_one (ps_set (i := 7) sc_worth.nd rfl (.inl rfl) (pe_op op_mulW (pv 7) (pe_kn G_power (hr.mono (by decide)) (by rfl) (pa_cons (pe_ix ix_tup (pe_ix ix_list (pv 1) (pv 5) (fun _ _ => rfl)) pe_int (fun _ _ => rfl)) (pa_cons (pe_op op_sub (pe_ix ix_list (pv 2) (pv 5) (fun _ _ => rfl)) (pe_ix ix_tup (pv 3) (pv 5) (fun _ _ => rfl))) pa_nil))))))))
      (pss_one (ps_set (i := 6) sc_worth.nd rfl (.inl rfl) (pe_op op_add (pv 6) (pv 7)))))))
      (pss_cons (ps_set (i := 8) sc_worth.nd rfl (.inl rfl) pe_int)
      (pss_cons (ps_for PassesOwn.never rfl (pi_range1 (by rfl) z_range (pa_cons (pe_callB call_len_seq (by rfl) z_len (by decide +kernel) (pa_cons (pv 1) pa_nil)) pa_nil)) (pg_name (i := 5) sc_worth.nd rfl (.inl rfl))
      (pss_one (ps_set (i := 8) sc_worth.nd rfl (.inl rfl) (pe_op op_mulW (pv 8) (pe_kn G_power (hr.mono (by decide)) (by rfl) (pa_cons (pe_ix ix_tup (pe_ix ix_list (pv 1) (pv 5) (fun _ _ => rfl)) pe_int (fun _ _ => rfl)) (pa_cons (pe_ix ix_list (pv 2) (pv 5) (fun _ _ => rfl)) pa_nil)))))))
      (pss_one (ps_ret (pe_tup (pa_cons (pv 6) (pa_cons (pv 8) pa_nil)))))))))), ?_⟩
    show (_ : TS) _ [some (.ref f), some (.ref l), none, none, none, none, none, none, none] _
    repeat walk_at "st"
    refine r_lcR ?_
    repeat walk_at "st"
    refine ⟨l, _, rfl, .inl hL, ?_⟩
    repeat walk_at "st"
    rw [lW, hm]
    refine ⟨(m : Int), rfl, by omega, by omega, fun D hD => ?_⟩
    rw [show ((m : Int)).toNat = m from by omega]
    refine lc_range (n := m) (fun k H' => ∃ ms : List Nat, Same H H' ∧ H' D = some (.lst (ms.map fun n : Nat => V.int (n : Int))) ∧ ms.length = k ∧ (∀ x ∈ ms, (x : Int) ≤ c) ∧ ∀ (j x : Nat), ms[j]? = some x → ∀ t ∈ Fo, t.1.getD j 0 ≤ (x : Int)) ⟨[], same_new hD _, upd_same, rfl, (fun x hx => by cases hx), fun j x hx => by simp at hx⟩ ?_ ?_
    · rintro k H1 hk ⟨ms, g1, d1, lms, mle, mall⟩
      refine ⟨rfl, ?_⟩
      refine r_yes ?_
      refine r_T ?_
      rw [Int.zero_add]
      show tCB _ _ [some (.ref f), some (.ref l), none, none, none, some (.int (k : Int)), none, none, none] H1 _
      repeat walk_at "st"
      refine ⟨sz rfl, fun Z nZ => ?_⟩
      obtain ⟨H2, e2, s2, k2⟩ := nw nZ (.lst [V.int 0])
      rw [← e2]
      clear e2
      obtain ⟨us2, ef2, tF2⟩ := hf.kt (Kt.same (g1.trans s2))
      repeat walk_at "st"
      refine r_lcT ?_
      repeat walk_at "st"
      refine lc_terms (fun _ v t => v = .int (t.1.getD k 0)) (fun _ h => h) ef2 tF2 (by omega) (fun _ _ => rfl) (fun t q' H' ht g pw S' kk => ?_) fun D2 vs H3 s3 n3 e3 pr => ?_
      · have la : k < t.1.length := by rw [(ok t ht).1]; exact hk
        obtain ⟨gm, ga⟩ := getD_at la
        repeat walk_at "st"
        refine r_ixT (tupOf pw) ga ?_
        exact kk _ H' (Same.refl _) rfl
      have ev : vs = (Fo.map fun t => t.1.getD k 0).map V.int := by
        clear e3 n3 s3 q hl ok tF2 ef2 hf mall tF l1 ef sF
        induction pr with
        | nil => rfl
        | cons h _ ih => rw [h, ih]; rfl
      rw [ev] at e3
      refine Mb.r_catL (s3 _ _ k2) e3 (by rw [List.length_map, List.length_map]; exact Nat.le_of_lt (Nat.lt_of_le_of_lt (show _ ≤ 10000 by simp; omega) (by decide))) fun p H4 s4 e4 => ?_
      have e4' : H4 p = some (.lst (((0 : Int) :: Fo.map fun t => t.1.getD k 0).map V.int)) := e4
      repeat walk_at "st"
      refine ⟨p, _, rfl, lstOf e4', by simp, fun mx hmx hle => ?_⟩
      have m0 : 0 ≤ mx := hle 0 List.mem_cons_self
      have mc : mx ≤ c := by
        rcases List.mem_cons.mp hmx with h | h
        · omega
        · obtain ⟨t, ht, rfl⟩ := List.mem_map.mp h
          have la : k < t.1.length := by rw [(ok t ht).1]; exact hk
          exact ((ok t ht).2 _ (getD_at la).1).2
      obtain ⟨mn, rfl⟩ : ∃ mn : Nat, mx = (mn : Int) := ⟨mx.toNat, by omega⟩
      have g4 := (s2.trans s3).trans s4
      have d4 := g4 _ _ d1
      refine ⟨_, d4, by rw [List.length_map]; exact Nat.lt_of_le_of_lt (show _ ≤ 1000 by omega) (by decide), ms ++ [mn], same_updS (g1.trans g4) hD, ?_, by simp [lms], fun x hx => ?_, fun j x hx t ht => ?_⟩
      · rw [upd_same, List.map_append]
        rfl
      · rcases List.mem_append.mp hx with hx | hx
        · exact mle x hx
        · rw [List.mem_singleton.mp hx]; exact mc
      · by_cases hj : j < ms.length
        · rw [List.getElem?_append_left hj] at hx
          exact mall j x hx t ht
        · rw [List.getElem?_append_right (by omega)] at hx
          have hj0 : j - ms.length = 0 := by
            have := (List.getElem?_eq_some_iff.mp hx).1
            simp at this
            omega
          rw [hj0] at hx
          obtain rfl : mn = x := by simpa using hx
          obtain rfl : j = k := by omega
          exact hle _ (List.mem_cons_of_mem _ (List.mem_map.mpr ⟨t, ht, rfl⟩))
    rintro H1 ⟨ms, g1, d1, lms, mle, mall⟩
    have un : ∀ t ∈ Fo, Under ms t.1 := fun t ht => under_of (by rw [lms, (ok t ht).1]) (fun j x hx => mall j x hx t ht) fun p hp => ((ok t ht).2 p hp).1
    have mM : ∀ x ∈ ms, x ≤ c.toNat := fun x hx => by have := mle x hx; omega
    have lm : ms.length = rs.length := by omega
    obtain ⟨us1, ef1, tF1⟩ := hf.kt (Kt.same g1)
    have l2 := Paired.length tF1
    have hL1 : SqL K H1 l ws := g1.seq hL
    have fr1 := fr.up g1
    repeat walk_at "st"
    with_reducible refine r_cut (fun σ H' => ∃ (y3 y4 y5 y7 : Option V), σ = [some (.ref f), some (.ref l), some (.ref D), y3, y4, y5, some (.int (wsum (mon ms rs) Fo)), y7, none] ∧ H' = H1) ?U1 ?V1
    case V1 =>
      intro N J
      refine ⟨.ref f, rfl, f, rfl, ⟨us1, tupOf ef1⟩, ?_⟩
      refine for_tup (xs := us1) (fun i σ H' => ∃ (y3 y4 y5 y7 : Option V), σ = [some (.ref f), some (.ref l), some (.ref D), y3, y4, y5, some (.int (wsum (mon ms rs) (Fo.take i))), y7, none] ∧ H' = H1) ?_ ?_ ?_ ?_
      · exact ⟨_, _, _, _, rfl, rfl⟩
      · rintro i σ H' _ ⟨_, _, _, _, _, rfl⟩
        exact tupOf ef1
      · rintro i v σ H4 hv ⟨y3, y4, y5, y7, rfl, rfl⟩
        obtain ⟨t, ht, a, qa, rfl, ta, pw⟩ := tF1.at hv
        have htm := List.mem_of_getElem? ht
        have unt := un t htm
        have e1 : Fo.take (i + 1) = Fo.take i ++ [t] := by rw [List.take_succ, ht, Option.toList_some]
        refine r_gT (tupOf ta) rfl ?_
        refine r_g2 ?_
        repeat walk_at "st"
        with_reducible refine r_cut (fun σ H' => ∃ (y5 : Option V), σ = [some (.ref f), some (.ref l), some (.ref D), some (.ref qa), some (.int t.2), y5, some (.int (wsum (mon ms rs) (Fo.take i))), some (.int (t.2 * mon ms rs t.1)), none] ∧ H' = H4) ?U2 ?V2
        case V2 =>
          intro N J
          refine ⟨.ref l, rfl, l, ws, rfl, .inl hL1, (ws.length : Int), rfl, by omega, by omega, ?_⟩
          rw [show ((ws.length : Int)).toNat = rs.length from by omega]
          refine for_range (n := rs.length) (fun j σ H' => ∃ (y5 : Option V), σ = [some (.ref f), some (.ref l), some (.ref D), some (.ref qa), some (.int t.2), y5, some (.int (wsum (mon ms rs) (Fo.take i))), some (.int (t.2 * mon (ms.take j) (rs.take j) (t.1.take j))), none] ∧ H' = H4) ?_ ?_ ?_
          · refine ⟨y5, ?_, rfl⟩
            rw [List.take_zero, show mon [] (rs.take 0) (t.1.take 0) = 1 from rfl, Int.mul_one]
          · rintro j σ H' hj ⟨y5', rfl, rfl⟩
            have hr' : rs[j]? = some (rs[j]'hj) := List.getElem?_eq_getElem hj
            have hw : ws[j]? = some (ws[j]'(by omega)) := List.getElem?_eq_getElem (by omega)
            have hk : t.1[j]? = some (t.1[j]'(by have := unt.len; omega)) := List.getElem?_eq_getElem (by have := unt.len; omega)
            have hx : ms[j]? = some (ms[j]'(by omega)) := List.getElem?_eq_getElem (by omega)
            obtain ⟨r2, hr2, px⟩ := LiI.paired_get fr1 hw
            obtain rfl : rs[j]'hj = r2 := by rw [hr'] at hr2; exact Option.some.inj hr2
            obtain ⟨k0, kg⟩ := unt.at hx hk
            generalize rs[j]'hj = r at *
            generalize ws[j]'(by omega) = wv at *
            generalize t.1[j]'(by have := unt.len; omega) = k at *
            generalize ms[j]'(by omega) = gn at *
            obtain ⟨kn, rfl⟩ : ∃ kn : Nat, k = (kn : Int) := ⟨k.toNat, by omega⟩
            have bz := hb.at (List.mem_of_getElem? hr')
            have gc := mM gn (List.mem_of_getElem? hx)
            have h1 : b * kn ≤ 5000 * 50 := Nat.mul_le_mul hb2 (by omega)
            have h2 : b * (gn - kn) ≤ 5000 * 50 := Nat.mul_le_mul hb2 (by omega)
            have ps := part_sm j hb mM unt (sF t htm)
            have cm1 : CMulW (t.2 * mon (ms.take j) (rs.take j) (t.1.take j)) (r.num ^ kn) := Sm.cmul ps (bz.t.pow kn) (by omega) (by omega) (by omega)
            have cm2 : CMulW (t.2 * mon (ms.take j) (rs.take j) (t.1.take j) * r.num ^ kn) ((r.den : Int) ^ (gn - kn)) := Sm.cmul (ps.mul (bz.t.pow kn)) (bz.b.pow _) (by omega) (by omega) (by omega)
            have ak : atI (t.1.map V.int) (0 + (j : Int)) = some (.int (kn : Int)) := by rw [Int.zero_add]; exact atI_nat (by rw [List.getElem?_map, hk]; rfl)
            have am : atI (ms.map fun n : Nat => V.int (n : Int)) (0 + (j : Int)) = some (.int (gn : Int)) := by rw [Int.zero_add]; exact atI_nat (by rw [List.getElem?_map, hx]; rfl)
            have aw : atI ws (0 + (j : Int)) = some wv := by rw [Int.zero_add]; exact atI_nat hw
            repeat walk_at "st"
            refine r_ixL hL1 aw ?_
            repeat walk_at "st"
            refine r_ixF0 px ?_
            repeat walk_at "st"
            refine r_ixT (tupOf pw) ak ?_
            repeat walk_at "st"
            refine ⟨r.num, kn, b, rfl, bz.t, by omega, hb1, by omega, ?_⟩
            repeat walk_at "st"
            refine r_ixL hL1 aw ?_
            repeat walk_at "st"
            refine r_ixF1 px ?_
            repeat walk_at "st"
            refine r_ixL (lstOf d1) am ?_
            repeat walk_at "st"
            refine r_ixT (tupOf pw) ak ?_
            repeat walk_at "st"
            rw [show (gn : Int) - (kn : Int) = ((gn - kn : Nat) : Int) by omega]
            refine ⟨(r.den : Int), gn - kn, b, rfl, bz.b, by omega, hb1, by omega, ?_⟩
            repeat walk_at "st"
            refine ⟨some (.int (0 + (j : Int))), ?_, rfl⟩
            rw [mon_take hx hr' hk, show ((kn : Int)).toNat = kn by omega, ← Int.mul_assoc (mon _ _ _), ← Int.mul_assoc, ← Int.mul_assoc]
          · rintro σ H5 ⟨y5', rfl, rfl⟩
            refine J _ _ ⟨y5', ?_, rfl⟩
            have := unt.len
            rw [List.take_of_length_le (show ms.length ≤ rs.length by omega), List.take_of_length_le (Nat.le_refl _), List.take_of_length_le (show t.1.length ≤ rs.length by omega)]
        rintro σ H5 ⟨y5', rfl, rfl⟩
        have ew : wsum (mon ms rs) (Fo.take i) + t.2 * mon ms rs t.1 = wsum (mon ms rs) (Fo.take (i + 1)) := by
          rw [e1, wsum_app, wsum_cons, show wsum (mon ms rs) [] = 0 from rfl, Int.add_zero]
        repeat walk_at "st"
        exact ⟨some (.ref qa), some (.int t.2), y5', some (.int (t.2 * mon ms rs t.1)), by rw [← ew], rfl⟩
      · rintro σ H4 ⟨y3, y4, y5, y7, rfl, rfl⟩
        rw [l2, List.take_length]
        exact J _ _ ⟨_, _, _, _, rfl, rfl⟩
    rintro σ H4 ⟨y3, y4, y5, y7, rfl, rfl⟩
    repeat walk_at "st"
    with_reducible refine r_cut (fun σ H' => ∃ (y3 y4 y5 y7 : Option V), σ = [some (.ref f), some (.ref l), some (.ref D), y3, y4, y5, some (.int (wsum (mon ms rs) Fo)), y7, some (.int (bot ms rs))] ∧ H' = H4) ?U3 ?V3
    case V3 =>
      intro N J
      refine ⟨.ref l, rfl, l, ws, rfl, .inl hL1, (ws.length : Int), rfl, by omega, by omega, ?_⟩
      rw [show ((ws.length : Int)).toNat = rs.length from by omega]
      refine for_range (n := rs.length) (fun j σ H' => ∃ (y3 y4 y5 y7 : Option V), σ = [some (.ref f), some (.ref l), some (.ref D), y3, y4, y5, some (.int (wsum (mon ms rs) Fo)), y7, some (.int (bot (ms.take j) (rs.take j)))] ∧ H' = H4) ?_ ?_ ?_
      · refine ⟨y3, y4, y5, y7, ?_, rfl⟩
        rw [List.take_zero]
        rfl
      · rintro j σ H' hj ⟨y3', y4', y5', y7', rfl, rfl⟩
        have hr' : rs[j]? = some (rs[j]'hj) := List.getElem?_eq_getElem hj
        have hw : ws[j]? = some (ws[j]'(by omega)) := List.getElem?_eq_getElem (by omega)
        have hx : ms[j]? = some (ms[j]'(by omega)) := List.getElem?_eq_getElem (by omega)
        obtain ⟨r2, hr2, px⟩ := LiI.paired_get fr1 hw
        obtain rfl : rs[j]'hj = r2 := by rw [hr'] at hr2; exact Option.some.inj hr2
        generalize rs[j]'hj = r at *
        generalize ws[j]'(by omega) = wv at *
        generalize ms[j]'(by omega) = gn at *
        have bz := hb.at (List.mem_of_getElem? hr')
        have gc := mM gn (List.mem_of_getElem? hx)
        have h1 : b * gn ≤ 5000 * 50 := Nat.mul_le_mul hb2 (by omega)
        have h2 : c.toNat * b ≤ 50 * 5000 := Nat.mul_le_mul (by omega) hb2
        have bs0 := bot_le (M := c.toNat) (ms := ms.take j) (hb.take j) fun x hx => mM x (List.mem_of_mem_take hx)
        have cm : CMulW (bot (ms.take j) (rs.take j)) ((r.den : Int) ^ gn) := Sm.cmul (sm_of_le bs0) (bz.b.pow gn) (by omega) (by omega) (by omega)
        have am : atI (ms.map fun n : Nat => V.int (n : Int)) (0 + (j : Int)) = some (.int (gn : Int)) := by rw [Int.zero_add]; exact atI_nat (by rw [List.getElem?_map, hx]; rfl)
        have aw : atI ws (0 + (j : Int)) = some wv := by rw [Int.zero_add]; exact atI_nat hw
        repeat walk_at "st"
        refine r_ixL hL1 aw ?_
        repeat walk_at "st"
        refine r_ixF1 px ?_
        repeat walk_at "st"
        refine r_ixL (lstOf d1) am ?_
        repeat walk_at "st"
        refine ⟨(r.den : Int), gn, b, rfl, bz.b, by omega, hb1, by omega, ?_⟩
        repeat walk_at "st"
        exact ⟨y3', y4', some (.int (0 + (j : Int))), y7', by rw [bot_take hx hr'], rfl⟩
      · rintro σ H5 ⟨y3', y4', y5', y7', rfl, rfl⟩
        refine J _ _ ⟨y3', y4', y5', y7', ?_, rfl⟩
        rw [List.take_of_length_le (show ms.length ≤ rs.length by omega), List.take_of_length_le (Nat.le_refl _)]
    rintro σ H5 ⟨y3', y4', y5', y7', rfl, rfl⟩
    repeat walk_at "st"
    refine ⟨sz rfl, fun p np => ?_⟩
    have bp := bot_pos ms rs
    have bl := bot_le (M := c.toNat) hb mM
    exact q _ _ (g1.trans (same_new np _)) ⟨p, _, _, rfl, tupOf upd_same, by omega, worth_rat lm un, wsum_sm hb mM (fun t ht => ⟨un t ht, sF t ht⟩) hl, (sm_of_le bl).mono (by omega)⟩
  ) only [↓Mb.dischW]
theorem ok_two (F : Fn K mg "_law_two" s_two) (G_take : Kn P w K mg base 1 "_law_take" ["_law_pool_here", "_law_wide"] spTake) (z_len : mg "len" = none) (z_max : mg "max" = none) : Kn P w K mg base 2 "_law_two" ["_law_pool_here", "_law_names"] (spTwo K) := by
  refine Mb.ofW ?_
  simp (discharger := with_unfolding_all
    refine F.kn sc_two (fun vs H Q E h => ?_) (fun f cdv A0 outer s H vs Q E hr h => ?_) (fun _ _ _ _ _ _ us hl => match us, hl with | [_, _], _ => rfl)
    · obtain ⟨p, l, b, ns, rfl, _⟩ := h
      rfl
    obtain ⟨p, l, b, ns, rfl, hp, hb, hl, n1, n60, npl, q⟩ := h
    refine ⟨_, (pss_cons (ps_set (i := 2) sc_two.nd rfl (.inl rfl) (pe_kn G_take (hr.mono (by decide)) (by rfl) (pa_cons (pv 0) (pa_cons (pe_callB call_len_seq (by rfl) z_len (by decide +kernel) (pa_cons (pv 1) pa_nil)) pa_nil))))
      (pss_cons (ps_set (i := 3) sc_two.nd rfl (.inl rfl) (pv 2))
      (pss_cons (ps_if (pt_cmpR op_gt (pe_kn G_take (hr.mono (by decide)) (by rfl) (pa_cons (pv 0) (pa_cons pe_int pa_nil))) pe_int (nomark _))
      (pss_one (ps_set (i := 3) sc_two.nd rfl (.inl rfl) (pe_op op_mod (pe_op op_add (pe_op op_add (pv 2) pe_int) (pe_kn G_take (hr.mono (by decide)) (by rfl) (pa_cons (pv 0) (pa_cons (pe_callB (call_max2 (by rfl)) (by rfl) z_max (by decide +kernel) (pa_cons pe_int (pa_cons (pe_op op_sub (pe_callB call_len_seq (by rfl) z_len (by decide +kernel) (pa_cons (pv 1) pa_nil)) pe_int) pa_nil))) pa_nil)))) (pe_callB call_len_seq (by rfl) z_len (by decide +kernel) (pa_cons (pv 1) pa_nil)))))
      pss_nil)
      (pss_one (ps_ret (pe_tup (pa_cons (pe_ix ix_list (pv 1) (pv 2) (fun _ _ => rfl)) (pa_cons (pe_ix ix_list (pv 1) (pv 3) (fun _ _ => rfl)) pa_nil)))))))), ?_⟩
    show (_ : TS) _ [some (.ref p), some (.ref l), none, none] _
    have ln : (ns.map V.str).length = ns.length := List.length_map _
    have kl : ∀ H', But p H H' → SqL K H' l (ns.map V.str) := fun H' k => sq_but k npl hl
    repeat walk_at "st"
    refine ⟨l, _, rfl, .inl hl, ?_⟩
    repeat walk_at "st"
    rw [ln]
    refine ⟨p, _, b, rfl, hp, by omega, by omega, by omega, fun i H1 k1 hp1 i0 i1 => ?_⟩
    have hl1 := kl _ k1
    repeat walk_at "st"
    with_reducible refine r_cut (fun σ H' => ∃ (j b' : Int), σ = [some (.ref p), some (.ref l), some (.int i), some (.int j)] ∧ 0 ≤ j ∧ j < ns.length ∧ But p H H' ∧ Pl H' p b' ∧ b' ≤ b + 3) ?U1 ?V1
    case V1 =>
      intro N J
      repeat walk_at "st"
      refine ⟨p, _, _, rfl, hp1, by omega, by decide, by decide, fun d H2 k2 hp2 d0 d1 => ?_⟩
      have hl2 := kl _ (k1.trans k2)
      repeat walk_at "st"
      refine r_ite (fun c => ?_) (fun c => ?_)
      · repeat walk_at "st"
        refine ⟨l, _, rfl, .inl hl2, ?_⟩
        repeat walk_at "st"
        rw [ln]
        refine ⟨_, _, rfl, ?_⟩
        repeat walk_at "st"
        refine ⟨p, _, _, rfl, hp2, by omega, by split <;> omega, by split <;> omega, fun e H3 k3 hp3 e0 e1 => ?_⟩
        have hl3 := kl _ ((k1.trans k2).trans k3)
        repeat walk_at "st"
        refine ⟨l, _, rfl, .inl hl3, ?_⟩
        repeat walk_at "st"
        rw [ln]
        have m0 := Int.emod_nonneg (i + 1 + e) (show (ns.length : Int) ≠ 0 by omega)
        have m1 := Int.emod_lt_of_pos (i + 1 + e) (show (0 : Int) < ns.length by omega)
        exact J _ _ ⟨_, _, rfl, m0, m1, (k1.trans k2).trans k3, hp3, by omega⟩
      · repeat walk_at "st"
        exact J _ _ ⟨i, _, rfl, i0, i1, k1.trans k2, hp2, by omega⟩
    rintro σ H2 ⟨j, b', rfl, j0, j1, k2, hp2, hb2⟩
    have hl2 := kl _ k2
    obtain ⟨i', rfl⟩ := Int.eq_ofNat_of_zero_le i0
    obtain ⟨j', rfl⟩ := Int.eq_ofNat_of_zero_le j0
    have hi : (ns.map V.str)[i']? = some (.str (ns[i']'(by omega))) := by rw [List.getElem?_map, List.getElem?_eq_getElem (by omega)]; rfl
    have hj : (ns.map V.str)[j']? = some (.str (ns[j']'(by omega))) := by rw [List.getElem?_map, List.getElem?_eq_getElem (by omega)]; rfl
    repeat walk_at "st"
    refine r_ixL hl2 (atI_nat hi) ?_
    repeat walk_at "st"
    refine r_ixL hl2 (atI_nat hj) ?_
    repeat walk_at "st"
    refine ⟨sz rfl, fun o no => ?_⟩
    have s3 := same_new no (.tup [V.str (ns[i']'(by omega)), .str (ns[j']'(by omega))])
    exact q o _ _ b' _ (k2.trans (But.same s3)) (hp2.same s3) hb2 (List.getElem_mem _) (List.getElem_mem _) upd_same
  ) only [↓Mb.dischW]
theorem ok_hung (F : Fn K mg "_law_hung" s_hung) (G_take : Kn P w K mg base 1 "_law_take" ["_law_pool_here", "_law_wide"] spTake) (G_low : Kn P w K mg base 2 "_law_low" ["_law_top", "_law_bottom"] spLow) (G_two : Kn P w K mg base 2 "_law_two" ["_law_pool_here", "_law_names"] (spTwo K)) (z_len : mg "len" = none) : Kn P w K mg base 3 "_law_hung" ["_law_pool_here", "_law_points", "_law_lines"] (spHung K) := by
  refine Mb.ofW ?_
  simp (discharger := with_unfolding_all
    refine F.kn sc_hung (fun vs H Q E h => ?_) (fun f cdv A0 outer s H vs Q E hr h => ?_) (fun _ _ _ _ _ _ us hl => match us, hl with | [_, _, _], _ => rfl)
    · obtain ⟨p, lp, ll, b, pts, lns, rfl, _⟩ := h
      rfl
    obtain ⟨p, lp, ll, b, pts, lns, rfl, hp, hb, hlp, hll, n1, n60, m60, np, nl, q⟩ := h
    refine ⟨_, (pss_cons (ps_set (i := 3) sc_hung.nd rfl (.inl rfl) (pe_kn G_take (hr.mono (by decide)) (by rfl) (pa_cons (pv 0) (pa_cons pe_int pa_nil))))
      (pss_cons (ps_asg (pe_kn G_two (hr.mono (by decide)) (by rfl) (pa_cons (pv 0) (pa_cons (pv 1) pa_nil))) (pg_tup (by rfl) (pgs_cons (pg_name (i := 4) sc_hung.nd rfl (.inl rfl)) (pgs_cons (pg_name (i := 5) sc_hung.nd rfl (.inl rfl)) pgs_nil))))
      (pss_cons (ps_if (pt_cmpR op_eq (pv 3) pe_int (nomark _))
      (pss_one (ps_ret (pe_tup (pa_cons pe_str (pa_cons (pv 4) (pa_cons (pv 5) (pa_cons (pe_kn G_low (hr.mono (by decide)) (by rfl) (pa_cons (pe_op op_sub (pe_kn G_take (hr.mono (by decide)) (by rfl) (pa_cons (pv 0) (pa_cons pe_int pa_nil))) pe_int) (pa_cons (pe_op op_add pe_int (pe_kn G_take (hr.mono (by decide)) (by rfl) (pa_cons (pv 0) (pa_cons pe_int pa_nil)))) pa_nil))) pa_nil)))))))
      pss_nil)
      (pss_cons (ps_if (pt_cmpR op_lt (pv 3) pe_int (nomark _))
      (pss_one (ps_ret (pe_tup (pa_cons (pe_ix ix_list (pe_lst (pa_cons pe_str (pa_cons pe_str (pa_cons pe_str (pa_cons pe_str pa_nil))))) (pv 3) (fun _ _ => rfl)) (pa_cons (pv 4) (pa_cons (pv 5) pa_nil))))))
      pss_nil)
      (pss_cons (ps_if (PW.pt (pw_or (pt_cmpR op_lt (pv 3) pe_int (nomark _)) (pw_or1 (pt_cmpR op_eq (pe_callB call_len_seq (by rfl) z_len (by decide +kernel) (pa_cons (pv 2) pa_nil)) pe_int (nomark _)))))
      (pss_one (ps_ret (pe_tup (pa_cons pe_str (pa_cons (pv 4) (pa_cons (pv 5) pa_nil))))))
      pss_nil)
      (pss_cons (ps_asg (pe_kn G_two (hr.mono (by decide)) (by rfl) (pa_cons (pv 0) (pa_cons (pv 2) pa_nil))) (pg_tup (by rfl) (pgs_cons (pg_name (i := 6) sc_hung.nd rfl (.inl rfl)) (pgs_cons (pg_name (i := 7) sc_hung.nd rfl (.inl rfl)) pgs_nil))))
      (pss_cons (ps_if (pt_cmpR op_lt (pv 3) pe_int (nomark _))
      (pss_one (ps_ret (pe_tup (pa_cons (pe_ix ix_list (pe_lst (pa_cons pe_str (pa_cons pe_str (pa_cons pe_str (pa_cons pe_str pa_nil))))) (pe_op op_sub (pv 3) pe_int) (fun _ _ => rfl)) (pa_cons (pv 4) (pa_cons (pv 6) pa_nil))))))
      pss_nil)
      (pss_one (ps_ret (pe_tup (pa_cons pe_str (pa_cons (pv 6) (pa_cons (pv 7) pa_nil))))))))))))), ?_⟩
    show (_ : TS) _ [some (.ref p), some (.ref lp), some (.ref ll), none, none, none, none, none] _
    repeat walk_at "st"
    refine ⟨p, _, b, rfl, hp, by omega, by decide, by decide, fun i H1 k1 hp1 i0 i1 => ?_⟩
    repeat walk_at "st"
    refine ⟨p, lp, _, pts, rfl, hp1, by omega, sq_but k1 np hlp, n1, n60, np, fun o a c b2 H2 k2 hp2 hb2 ha hc eo => ?_⟩
    refine r_gT (tupOf eo) rfl ?_
    refine r_g2 ?_
    have k12 := k1.trans k2
    have no : ∀ (x : Str) (H' : Hp) (m : Addr), Same H2 H' → H' m = some (.tup [.str x, .str a, .str c]) → x ∈ (["middle", "next", "turn", "line"] : List Str) → Q (.ref m) H' := fun x H' m s e hx => by
      have hx2 : x ∈ figW ∧ x ≠ "meet" ∧ x ∉ lineW ∧ x ≠ "share" ∧ x ≠ "free" ∧ x ≠ "cut" := (show ∀ y ∈ (["middle", "next", "turn", "line"] : List Str), y ∈ figW ∧ y ≠ "meet" ∧ y ∉ lineW ∧ y ≠ "share" ∧ y ≠ "free" ∧ y ≠ "cut" by decide) x hx
      obtain ⟨h1, h2, h3, h4, h5, h6⟩ := hx2
      exact q m x [a, c] .no b2 H' (k12.trans (But.same s)) (hp2.same s) (by omega) ⟨[], tupOf e, h5, h4, h6, rfl⟩ ⟨h1, ⟨a, c, rfl, .inr ⟨h2, ha, .inr ⟨h3, hc⟩⟩⟩, .inr ⟨h4, rfl⟩⟩
    repeat walk_at "st"
    refine r_seq ?_
    repeat walk_at "st"
    refine r_ite (fun c1 => ?_) (fun c1 => ?_)
    · repeat walk_at "st"
      refine ⟨p, _, _, rfl, hp2, by omega, by decide, by decide, fun t H3 k3 hp3 t0 t1 => ?_⟩
      repeat walk_at "st"
      refine ⟨p, _, _, rfl, hp3, by omega, by decide, by decide, fun u H4 k4 hp4 u0 u1 => ?_⟩
      repeat walk_at "st"
      obtain ⟨t', rfl⟩ := Int.eq_ofNat_of_zero_le t0
      obtain ⟨u', rfl⟩ := Int.eq_ofNat_of_zero_le u0
      refine ⟨_, _, rfl, by omega, show Sm 8000 _ from (show Sm 10 (1 + (u' : Int)) by unfold Sm; omega).mono (by decide), fun f H5 s5 nf ef => ?_⟩
      repeat walk_at "st"
      refine ⟨sz rfl, fun m nm => ?_⟩
      have s6 := same_new nm (.tup [V.str "share", .str a, .str c, .ref f])
      have fq : Fq K (upd H5 m (.tup [V.str "share", .str a, .str c, .ref f])) (.ref f) (Rat.divInt ((t' : Int) - 6) (1 + (u' : Int))) := (Fq.of _ (by omega) rfl ef).up s6
      have nr := low_nr ⟨t', by omega⟩ ⟨u', by omega⟩
      exact q m "share" [a, c] (.sh (Rat.divInt ((t' : Int) - 6) (1 + (u' : Int)))) _ _ (k12.trans (k3.trans (k4.trans (But.same (s5.trans s6))))) (hp4.same (s5.trans s6)) (by omega) ⟨[.ref f], tupOf upd_same, rfl, .ref f, rfl, fq⟩ ⟨by decide, ⟨a, c, rfl, .inr ⟨by decide, ha, .inr ⟨by decide, hc⟩⟩⟩, .inl ⟨_, rfl, rfl, nr⟩⟩
    repeat walk_at "st"
    refine r_seq ?_
    repeat walk_at "st"
    refine r_ite (fun c2 => ?_) (fun c2 => ?_)
    · repeat walk_at "st"
      refine ⟨sz rfl, fun L nL => ?_⟩
      have s3 := same_new nL (.lst [V.str "middle", .str "share", .str "next", .str "turn"])
      have eL : SqL K (upd H2 L (.lst [V.str "middle", .str "share", .str "next", .str "turn"])) L [.str "middle", .str "share", .str "next", .str "turn"] := lstOf upd_same
      obtain ⟨x, hx, hat⟩ : ∃ x : Str, x ∈ (["middle", "next", "turn", "line"] : List Str) ∧ atI [V.str "middle", .str "share", .str "next", .str "turn"] i = some (.str x) := by
        have hi : i = 0 ∨ i = 2 ∨ i = 3 := by omega
        rcases hi with rfl | rfl | rfl
        · exact ⟨"middle", by decide, rfl⟩
        · exact ⟨"next", by decide, rfl⟩
        · exact ⟨"turn", by decide, rfl⟩
      repeat walk_at "st"
      refine r_ixL (v := .str x) eL hat ?_
      repeat walk_at "st"
      refine ⟨sz rfl, fun m nm => ?_⟩
      exact no x _ m (s3.trans (same_new nm _)) upd_same hx
    repeat walk_at "st"
    refine r_seq ?_
    repeat walk_at "st"
    refine r_ite (fun c3 => ?_) (fun c3 => ?_)
    · repeat walk_at "st"
      refine ⟨sz rfl, fun m nm => ?_⟩
      exact no "line" _ m (same_new nm _) upd_same (by decide)
    repeat walk_at "st"
    refine ⟨ll, _, rfl, .inl (sq_but k12 nl hll), ?_⟩
    repeat walk_at "st"
    refine r_ite (fun c4 => ?_) (fun c4 => ?_)
    · repeat walk_at "st"
      refine ⟨sz rfl, fun m nm => ?_⟩
      exact no "line" _ m (same_new nm _) upd_same (by decide)
    rw [List.length_map] at c4
    repeat walk_at "st"
    refine ⟨p, ll, _, lns, rfl, hp2, by omega, sq_but k12 nl hll, by omega, m60, nl, fun o2 g e b3 H3 k3 hp3 hb3 hg he eo2 => ?_⟩
    refine r_gT (tupOf eo2) rfl ?_
    refine r_g2 ?_
    repeat walk_at "st"
    refine r_seq ?_
    repeat walk_at "st"
    refine r_ite (fun c5 => ?_) (fun c5 => ?_)
    · repeat walk_at "st"
      refine ⟨sz rfl, fun L nL => ?_⟩
      have s3 := same_new nL (.lst [V.str "along", .str "upright", .str "foot", .str "mirror"])
      have eL : SqL K (upd H3 L (.lst [V.str "along", .str "upright", .str "foot", .str "mirror"])) L [.str "along", .str "upright", .str "foot", .str "mirror"] := lstOf upd_same
      obtain ⟨x, hx, hat⟩ : ∃ x : Str, x ∈ lineW ∧ atI [V.str "along", .str "upright", .str "foot", .str "mirror"] (i - 7) = some (.str x) := by
        have hi : i = 7 ∨ i = 8 ∨ i = 9 ∨ i = 10 := by omega
        rcases hi with rfl | rfl | rfl | rfl
        · exact ⟨"along", by decide, rfl⟩
        · exact ⟨"upright", by decide, rfl⟩
        · exact ⟨"foot", by decide, rfl⟩
        · exact ⟨"mirror", by decide, rfl⟩
      repeat walk_at "st"
      refine r_ixL (v := .str x) eL hat ?_
      repeat walk_at "st"
      refine ⟨sz rfl, fun m nm => ?_⟩
      have s4 := s3.trans (same_new nm (.tup [.str x, .str a, .str g]))
      have hx2 : x ∈ figW ∧ x ≠ "meet" ∧ x ≠ "share" ∧ x ≠ "free" ∧ x ≠ "cut" := (show ∀ y ∈ lineW, y ∈ figW ∧ y ≠ "meet" ∧ y ≠ "share" ∧ y ≠ "free" ∧ y ≠ "cut" by decide) x hx
      obtain ⟨h1, h2, h4, h5, h6⟩ := hx2
      exact q m x [a, g] .no b3 _ (k12.trans (k3.trans (But.same s4))) (hp3.same s4) (by omega) ⟨[], tupOf upd_same, h5, h4, h6, rfl⟩ ⟨h1, ⟨a, g, rfl, .inr ⟨h2, ha, .inl ⟨hx, hg⟩⟩⟩, .inr ⟨h4, rfl⟩⟩
    repeat walk_at "st"
    refine ⟨sz rfl, fun m nm => ?_⟩
    have s4 := same_new nm (.tup [V.str "meet", .str g, .str e])
    exact q m "meet" [g, e] .no b3 _ (k12.trans (k3.trans (But.same s4))) (hp3.same s4) (by omega) ⟨[], tupOf upd_same, by decide, by decide, by decide, rfl⟩ ⟨by decide, ⟨g, e, rfl, .inl ⟨rfl, hg, he⟩⟩, .inr ⟨by decide, rfl⟩⟩
  ) only [↓Mb.dischW]
theorem ok_part (F : Fn K mg "_law_part" s_part) (G_l_grounds : Kn P w K mg base 1 "_law_grounds" ["_law_making"] (spGroundsL K)) (z_reversed : mg "reversed" = none) : Kn P w K mg base 2 "_law_part" ["_law_row", "_law_name_here"] (spPartQ K) := by
  refine Mb.ofW ?_
  simp (discharger := with_unfolding_all
    refine F.kn sc_part (fun vs H Q E h => ?_) (fun f cdv A outer s H vs Q E hr h => ?_) (fun _ _ _ _ _ _ us hl => match us, hl with | [_, _], _ => rfl)
    · obtain ⟨l, z, us, ts, rfl, _⟩ := h
      rfl
    obtain ⟨l, z, us, ts, rfl, hl, rw_, vr, hn, q⟩ := h
    have ln := rw_.len
    refine ⟨_, (pss_cons (ps_set (i := 2) sc_part.nd rfl (.inl rfl) (pe_disp (pps_cons (pv 1) pe_bl pps_nil) rfl rfl (by simp) (by decide)))
      (pss_cons (ps_set (i := 3) sc_part.nd rfl (.inl rfl) (pe_lst pa_nil))
      (pss_cons (ps_for PassesOwn.never rfl (pi_reversed (by rfl) z_reversed (pa_cons (pv 0) pa_nil)) (pg_tup (by rfl) (pgs_cons (pg_name (i := 4) sc_part.nd rfl (.inl rfl)) (pgs_cons (pg_name (i := 5) sc_part.nd rfl (.inl rfl)) pgs_nil)))
      (pss_one (ps_if (pt_cmp (pc_din (u1 hr.units) (pv 4) (pv 2)))
      (pss_cons (ps_expr (pe_bm PySem.F.plainAttrs_list PySem.F.slot_list_append PySem.F.type_list_append mt_append (pv 3) (pa_cons (pe_tup (pa_cons (pv 4) (pa_cons (pv 5) pa_nil))) pa_nil)))
      (pss_one (ps_for PassesOwn.never rfl (pi_list (pe_kn G_l_grounds (hr.mono (by decide)) (by rfl) (pa_cons (pv 5) pa_nil))) (pg_name (i := 6) sc_part.nd rfl (.inl rfl))
      (pss_one (ps_dput (u1 hr.units) (pv 2) (pv 6) pe_bl (by rfl))))))
      pss_nil)))
      (pss_one (ps_ret (pe_revL (pv 3))))))), ?_⟩
    show (_ : TS) _ [some (.ref l), some (.str z), none, none, none, none, none] _
    repeat walk_at "st"
    refine fun D nD => ?_
    refine r_prs ?_
    repeat walk_at "st"
    refine r_prs0 ?_
    refine ⟨upd_same, [(.inr z, .bl true)], rfl, by simp, ?_⟩
    obtain ⟨H2, e2, k2⟩ : ∃ H2, H2 = upd (upd H D (.dK [])) D (.dK (mergeK [] [(.inr z, .bl true)])) ∧ H2 D = some (.dK (setD [z])) := ⟨_, rfl, by rw [upd_same]; rfl⟩
    have s2 : Same H H2 := by rw [e2]; exact same_updS (same_updS (Same.refl H) nD) nD
    rw [← e2]
    clear e2
    repeat walk_at "st"
    refine ⟨sz rfl, fun Pa nPa => ?_⟩
    have sP := same_new nPa (.lst [])
    have nPD : Pa ≠ D := fun e => by rw [e, k2] at nPa; cases nPa
    have eP : upd H2 Pa (.lst []) Pa = some (.lst []) := upd_same
    have k2' := sP _ _ k2
    have nPa0 := s2.free nPa
    replace s2 := s2.trans sP
    generalize upd H2 Pa (.lst []) = H2' at *
    clear k2 nPa
    repeat walk_at "st"
    with_reducible refine r_cut (fun σ H' => ∃ (y3 y4 y5 : Option V) (vs : List V), σ = [some (.ref l), some (.str z), some (.ref D), some (.ref Pa), y3, y4, y5] ∧ Same H H' ∧ H' Pa = some (.lst vs) ∧ Rwq K H' vs (takeQ [z] ts.reverse)) ?U1 ?V1
    case V1 =>
      intro N J
      refine ⟨.ref l, rfl, l, us, rfl, s2.seq hl, ?_⟩
      refine RT.for_Itv (xs := us) (fun i σ H' => ∃ (y3 y4 y5 : Option V) (vs : List V), σ = [some (.ref l), some (.str z), some (.ref D), some (.ref Pa), y3, y4, y5] ∧ Same H H' ∧ H' D = some (.dK (setD (foldQ [z] (ts.reverse.take i)))) ∧ (foldQ [z] (ts.reverse.take i)).length ≤ 1 + 4 * i ∧ H' Pa = some (.lst vs) ∧ Rwq K H' vs (takeQ [z] (ts.reverse.take i))) ?_ ?_ ?_ ?_
      · exact ⟨_, _, _, [], rfl, s2, k2', by simp [foldQ], eP, by simp [takeQ]; exact .nil⟩
      · rintro i σ H' ⟨_, _, _, _, _, g', _⟩
        exact g'.seq hl
      · rintro i v σ H3 hi hv ⟨y3, y4, y5, vs, rfl, g3, k3, l3, eP3, rv3⟩
        obtain ⟨t, ht, a, m, rfl, ta, mk⟩ := rw_.at hv
        have ht2 := congrArg (Option.map thOf) ht
        rw [← List.getElem?_map] at ht2
        obtain ⟨so, gg, tx, hln⟩ := vr.okm ht2
        replace hln : t.2.2.1.length = gg.length := hln
        have okm := (vr.at ht2).2.2.1
        have h4 := four tx
        have er : ts.reverse[i]? = some t := by
          rw [List.getElem?_reverse (by omega), ← ln]
          exact ht
        have e1 : ts.reverse.take (i + 1) = ts.reverse.take i ++ [t] := by rw [List.take_succ, er, Option.toList_some]
        replace mk := mk.kp (Kp.same g3)
        have lv := rv3.len
        have lt := takeQ_len (ts.reverse.take i) [z]
        rw [List.length_take] at lt
        rw [e1, foldQ_snoc, takeQ_snoc]
        generalize takeQ [z] (ts.reverse.take i) = Tk at *
        generalize foldQ [z] (ts.reverse.take i) = Fo at *
        show gTup _ _ _ _ _ _ _
        refine r_gT (g3.tp ta) rfl ?_
        refine r_g2 ?_
        repeat walk_at "st"
        obtain ⟨o, dg, ho⟩ := get_set (z := t.1) k3
        refine r_din ?_
        repeat walk_at "st"
        refine ⟨D, o, rfl, dg, ?_⟩
        rw [ho]
        repeat walk_at "st"
        refine r_ite (fun c => ?_) (fun c => ?_)
        · repeat walk_at "st"
          refine r_bm ?_
          repeat walk_at "st"
          refine ⟨.inl ⟨rfl, _, lstOf eP3⟩, ?_⟩
          repeat walk_at "st"
          refine ⟨sz rfl, fun b nb => ?_⟩
          have sb := same_new nb (.tup [V.str t.1, .ref m])
          have tb : SqT K (upd H3 b (.tup [V.str t.1, .ref m])) b [.str t.1, .ref m] := tupOf upd_same
          generalize upd H3 b (.tup [V.str t.1, .ref m]) = H3' at *
          repeat walk_at "st"
          refine ⟨Pa, _, .ref b, rfl, rfl, sb _ _ eP3, Nat.lt_of_le_of_lt (show vs.length ≤ 1000 by omega) (by decide), ?_⟩
          obtain ⟨H4, e4, k4⟩ : ∃ H4, H4 = upd H3' Pa (.lst (vs ++ [.ref b])) ∧ H4 Pa = some (.lst (vs ++ [.ref b])) := ⟨_, rfl, upd_same⟩
          have kp4 : Kp K H3' H4 := by rw [e4]; exact kp_list (sb _ _ eP3)
          have g4 : Same H H4 := by rw [e4]; exact same_updS (g3.trans sb) nPa0
          have d4 : H4 D = some (.dK (setD Fo)) := by rw [e4, upd_ne (fun e => nPD e.symm)]; exact sb _ _ k3
          rw [← e4]
          clear e4
          replace mk := (mk.kp (Kp.same sb)).kp kp4
          have rv4 : Rwq K H4 (vs ++ [.ref b]) (Tk ++ [t]) := rwq_snocQ ((rv3.kp (Kp.same sb)).kp kp4) ⟨b, m, rfl, kp4 _ _ tb, mk⟩
          repeat walk_at "st"
          unfold tFor iList
          repeat walk_at "st"
          refine ⟨m, t.2.1, t.2.2.1, _, rfl, mk.mk, okm, fun G H5 s5 n5 e5 => ?_⟩
          have nGD : G ≠ D := fun e => by rw [e, d4] at n5; cases n5
          refine ⟨G, rfl, ⟨_, lstOf e5⟩, ?_⟩
          refine for_list (xs := t.2.2.1.map V.str) (fun j σ H' => ∃ y5 : Option V, σ = [some (.ref l), some (.str z), some (.ref D), some (.ref Pa), some (.str t.1), some (.ref m), y5] ∧ Same H H' ∧ H' G = some (.lst (t.2.2.1.map V.str)) ∧ H' D = some (.dK (setD ((t.2.2.1.take j).foldl addF Fo))) ∧ H' Pa = some (.lst (vs ++ [.ref b])) ∧ Rwq K H' (vs ++ [.ref b]) (Tk ++ [t])) ?_ ?_ ?_ ?_
          · exact ⟨_, rfl, g4.trans s5, e5, by rw [List.take_zero]; exact s5 _ _ d4, s5 _ _ k4, rv4.kp (Kp.same s5)⟩
          · rintro j σ H' _ ⟨_, _, _, e', _⟩
            exact lstOf e'
          · rintro j v' σ H6 hv' ⟨y5', rfl, g6, e6, k6, p6, r6⟩
            rw [List.getElem?_map] at hv'
            obtain ⟨gr, hgr, rfl⟩ := Option.map_eq_some_iff.mp hv'
            have lj := addsF_len (t.2.2.1.take j) Fo
            rw [List.length_take] at lj
            repeat walk_at "st"
            refine r_dput ?_
            repeat walk_at "st"
            refine ⟨D, _, rfl, DPut.k (k := .inr gr) k6 (by unfold setD; rw [List.length_map]; exact Nat.lt_of_le_of_lt (show _ ≤ 1000 by omega) (by decide)), ?_⟩
            rw [put_set]
            refine ⟨_, rfl, same_updS g6 nD, by rw [upd_ne nGD]; exact e6, ?_, by rw [upd_ne nPD]; exact p6, r6.kp (kp_dict k6)⟩
            rw [List.take_succ, hgr, Option.toList_some, List.foldl_append]
            exact upd_same
          · rintro σ H6 ⟨y5', rfl, g6, e6, k6, p6, r6⟩
            rw [List.length_map, List.take_length] at k6
            have lj := addsF_len t.2.2.1 Fo
            refine ⟨_, _, _, vs ++ [.ref b], rfl, g6, ?_, ?_, p6, ?_⟩
            · show H6 D = some (.dK (setD (stepF Fo (thOf t))))
              rw [step_in (t := thOf t) c]
              exact k6
            · show (stepF Fo (thOf t)).length ≤ _
              rw [step_in (t := thOf t) c]
              show (t.2.2.1.foldl addF Fo).length ≤ _
              omega
            · rw [if_pos c]
              exact r6
        · repeat walk_at "st"
          refine ⟨_, _, _, vs, rfl, g3, ?_, ?_, eP3, ?_⟩
          · show H3 D = some (.dK (setD (stepF Fo (thOf t))))
            rw [step_out (t := thOf t) c]
            exact k3
          · show (stepF Fo (thOf t)).length ≤ _
            rw [step_out (t := thOf t) c]
            omega
          · rw [if_neg c, List.append_nil]
            exact rv3
      · rintro σ H3 ⟨y3, y4, y5, vs, rfl, g3, _, _, eP3, rv3⟩
        rw [ln, ← List.length_reverse, List.take_length] at rv3
        exact J _ _ ⟨_, _, _, vs, rfl, g3, eP3, rv3⟩
    rintro σ H3 ⟨y3, y4, y5, vs, rfl, g3, eP3, rv3⟩
    refine r_revL ?_
    repeat walk_at "st"
    refine ⟨Pa, vs, rfl, lstOf eP3, fun R nR => ?_⟩
    have sR := same_new nR (.lst vs.reverse)
    exact q R vs.reverse _ (g3.trans sR) (g3.free nR) upd_same (rwq_rev (rv3.kp (Kp.same sR)))
  ) only [↓Mb.dischW]
theorem ok_made (F : Fn K mg "_law_made" s_made) (z_int : mg "int" = none) : Kn P w K mg base 1 "_law_made" ["_law_making", "_law_got_here"] (spMadeT K) := by
  refine Mb.ofW ?_
  simp (discharger := with_unfolding_all
    refine F.kn sc_made (fun vs H Q E h => ?_) (fun f cdv A0 outer s H vs Q E hr h => ?_) (fun _ _ _ _ _ _ us hl => match us, hl with | [_, _], _ => rfl)
    · obtain ⟨m, D, x, a, c, d, v, w_, o1, o2, rfl, _⟩ := h
      rfl
    obtain ⟨m, D, x, a, c, d, v, w_, o1, o2, rfl, ⟨rr, tm, nt⟩, hx, hq, g1, g2, t1, t2, s1, s2, q⟩ := h
    refine ⟨_, (pss_cons (ps_set (i := 2) sc_made.nd rfl (.inl rfl) (pe_dget (u1 hr.units) (pv 1) (pe_ix ix_tup (pv 0) pe_int (fun _ _ => rfl)) (fun _ _ => rfl)))
      (pss_cons (ps_set (i := 3) sc_made.nd rfl (.inl rfl) (pe_dget (u1 hr.units) (pv 1) (pe_ix ix_tup (pv 0) pe_int (fun _ _ => rfl)) (fun _ _ => rfl)))
      (pss_cons (ps_if (PW.pt (pw_or (pt_cmpR op_isNo (pv 2) pe_non (nomark _)) (pw_or1 (pt_cmpR op_isNo (pv 3) pe_non (nomark _)))))
      (pss_one (ps_ret pe_non))
      pss_nil)
      (pss_cons (ps_asg (pv 2) (pg_tup (by rfl) (pgs_cons (pg_name (i := 4) sc_made.nd rfl (.inl rfl)) (pgs_cons (pg_name (i := 5) sc_made.nd rfl (.inl rfl)) (pgs_cons (pg_name (i := 6) sc_made.nd rfl (.inl rfl)) pgs_nil)))))
      (pss_cons (ps_asg (pv 3) (pg_tup (by rfl) (pgs_cons (pg_name (i := 7) sc_made.nd rfl (.inl rfl)) (pgs_cons (pg_name (i := 8) sc_made.nd rfl (.inl rfl)) (pgs_cons (pg_name (i := 9) sc_made.nd rfl (.inl rfl)) pgs_nil)))))
      (pss_cons (ps_set (i := 10) sc_made.nd rfl (.inl rfl) (pe_ix ix_tup (pv 0) pe_int (fun _ _ => rfl)))
      (pss_cons (ps_if (pt_cmpR op_eq (pv 10) pe_str (nomark _))
      (pss_cons (ps_set (i := 11) sc_made.nd rfl (.inl rfl) (pe_op op_sub (pe_op op_mulW (pv 5) (pv 9)) (pe_op op_mulW (pv 8) (pv 6))))
      (pss_cons (ps_set (i := 12) sc_made.nd rfl (.inl rfl) (pe_op op_sub (pe_op op_mulW (pv 7) (pv 6)) (pe_op op_mulW (pv 4) (pv 9))))
      (pss_one (ps_ret (pe_ix ix_list (pe_lst (pa_cons pe_non (pa_cons (pe_tup (pa_cons (pv 11) (pa_cons (pv 12) (pa_cons (pe_op op_sub (pe_op op_mulW (pv 7) (pv 5)) (pe_op op_mulW (pv 4) (pv 8))) pa_nil)))) pa_nil))) (pe_callTy call_int1 (by rfl) z_int (by decide +kernel) (pa_cons (pe_or (pe_cmpR op_ne (pv 11) pe_int (nomark _)) (pe_one (pe_cmpR op_ne (pv 12) pe_int (nomark _)))) pa_nil)) (fun _ _ => rfl))))))
      pss_nil)
      (pss_cons (ps_if (pt_cmpR op_eq (pv 10) pe_str (nomark _))
      (pss_cons (ps_set (i := 13) sc_made.nd rfl (.inl rfl) (pe_op op_sub (pe_op op_mulW (pv 4) (pv 8)) (pe_op op_mulW (pv 5) (pv 7))))
      (pss_cons (ps_set (i := 14) sc_made.nd rfl (.inl rfl) (pe_op op_sub (pe_op op_mulW (pv 6) (pv 8)) (pe_op op_mulW (pv 5) (pv 9))))
      (pss_one (ps_ret (pe_ix ix_list (pe_lst (pa_cons pe_non (pa_cons (pe_tup (pa_cons (pv 14) (pa_cons (pe_op op_sub (pe_op op_mulW (pv 4) (pv 9)) (pe_op op_mulW (pv 7) (pv 6))) (pa_cons (pv 13) pa_nil)))) pa_nil))) (pe_callTy call_int1 (by rfl) z_int (by decide +kernel) (pa_cons (pe_cmpR op_ne (pv 13) pe_int (nomark _)) pa_nil)) (fun _ _ => rfl))))))
      pss_nil)
      (pss_cons (ps_if (pt_cmpR op_eq (pv 10) pe_str (nomark _))
      (pss_one (ps_ret (pe_tup (pa_cons (pe_op op_mulW (pv 7) (pv 6)) (pa_cons (pe_op op_mulW (pv 8) (pv 6)) (pa_cons (pe_op op_add (pe_op op_mulW (pv 7) (pv 4)) (pe_op op_mulW (pv 8) (pv 5))) pa_nil))))))
      pss_nil)
      (pss_cons (ps_if (pt_cmpR op_eq (pv 10) pe_str (nomark _))
      (pss_one (ps_ret (pe_tup (pa_cons (pe_op op_mulW (pv 8) (pv 6)) (pa_cons (pe_op op_mulW (pe_un un_neg (pv 7)) (pv 6)) (pa_cons (pe_op op_sub (pe_op op_mulW (pv 8) (pv 4)) (pe_op op_mulW (pv 7) (pv 5))) pa_nil))))))
      pss_nil)
      (pss_cons (ps_if (pt_cmpR op_eq (pv 10) pe_str (nomark _))
      (pss_cons (ps_set (i := 14) sc_made.nd rfl (.inl rfl) (pe_op op_sub (pe_op op_mulW (pe_op op_add (pv 7) (pv 8)) (pv 6)) (pe_op op_mulW (pv 5) (pv 9))))
      (pss_one (ps_ret (pe_tup (pa_cons (pv 14) (pa_cons (pe_op op_add (pe_op op_mulW (pe_op op_sub (pv 8) (pv 7)) (pv 6)) (pe_op op_mulW (pv 4) (pv 9))) (pa_cons (pe_op op_mulW (pv 6) (pv 9)) pa_nil)))))))
      pss_nil)
      (pss_cons (ps_if (PW.pt (pw_or (pt_cmpR op_eq (pv 10) pe_str (nomark _)) (pw_or1 (pt_cmpR op_eq (pv 10) pe_str (nomark _)))))
      (pss_cons (ps_set (i := 13) sc_made.nd rfl (.inl rfl) (pe_op op_add (pe_op op_mulW (pv 7) (pv 7)) (pe_op op_mulW (pv 8) (pv 8))))
      (pss_cons (ps_set (i := 15) sc_made.nd rfl (.inl rfl) (pe_op op_sub (pe_op op_mulW (pv 8) (pv 4)) (pe_op op_mulW (pv 7) (pv 5))))
      (pss_cons (ps_set (i := 14) sc_made.nd rfl (.inl rfl) (pe_op op_add (pe_op op_mulW (pv 15) (pv 8)) (pe_op op_mulW (pe_op op_mulW (pv 7) (pv 9)) (pv 6))))
      (pss_cons (ps_set (i := 16) sc_made.nd rfl (.inl rfl) (pe_op op_sub (pe_op op_mulW (pe_op op_mulW (pv 8) (pv 9)) (pv 6)) (pe_op op_mulW (pv 15) (pv 7))))
      (pss_cons (ps_if (pt_cmpR op_eq (pv 10) pe_str (nomark _))
      (pss_one (ps_ret (pe_tup (pa_cons (pv 14) (pa_cons (pv 16) (pa_cons (pe_op op_mulW (pv 13) (pv 6)) pa_nil))))))
      pss_nil)
      (pss_one (ps_ret (pe_tup (pa_cons (pe_op op_sub (pe_op op_mulW pe_int (pv 14)) (pe_op op_mulW (pv 13) (pv 4))) (pa_cons (pe_op op_sub (pe_op op_mulW pe_int (pv 16)) (pe_op op_mulW (pv 13) (pv 5))) (pa_cons (pe_op op_mulW (pv 13) (pv 6)) pa_nil)))))))))))
      pss_nil)
      (pss_cons (ps_asg (pe_tup (pa_cons pe_int (pa_cons pe_int pa_nil))) (pg_tup (by rfl) (pgs_cons (pg_name (i := 17) sc_made.nd rfl (.inl rfl)) (pgs_cons (pg_name (i := 18) sc_made.nd rfl (.inl rfl)) pgs_nil))))
      (pss_cons (ps_if (pt_cmpR op_eq (pv 10) pe_str (nomark _))
      (pss_one (ps_asg (pe_tup (pa_cons pe_int (pa_cons pe_int pa_nil))) (pg_tup (by rfl) (pgs_cons (pg_name (i := 17) sc_made.nd rfl (.inl rfl)) (pgs_cons (pg_name (i := 18) sc_made.nd rfl (.inl rfl)) pgs_nil)))))
      pss_nil)
      (pss_cons (ps_if (pt_cmpR op_eq (pv 10) pe_str (nomark _))
      (pss_one (ps_asg (pe_ix ix_tup (pv 0) pe_int (fun _ _ => rfl)) (pg_tup (by rfl) (pgs_cons (pg_name (i := 17) sc_made.nd rfl (.inl rfl)) (pgs_cons (pg_name (i := 18) sc_made.nd rfl (.inl rfl)) pgs_nil)))))
      pss_nil)
      (pss_cons (ps_set (i := 14) sc_made.nd rfl (.inl rfl) (pe_op op_add (pe_op op_mulW (pe_op op_mulW (pv 4) (pv 9)) (pe_op op_sub (pv 18) (pv 17))) (pe_op op_mulW (pe_op op_mulW (pv 7) (pv 6)) (pv 17))))
      (pss_cons (ps_set (i := 16) sc_made.nd rfl (.inl rfl) (pe_op op_add (pe_op op_mulW (pe_op op_mulW (pv 5) (pv 9)) (pe_op op_sub (pv 18) (pv 17))) (pe_op op_mulW (pe_op op_mulW (pv 8) (pv 6)) (pv 17))))
      (pss_one (ps_ret (pe_tup (pa_cons (pv 14) (pa_cons (pv 16) (pa_cons (pe_op op_mulW (pe_op op_mulW (pv 6) (pv 9)) (pv 18)) pa_nil))))))))))))))))))))))), ?_⟩
    show (_ : TS) _ [some (.ref m), some (.ref D), none, none, none, none, none, none, none, none, none, none, none, none, none, none, none, none, none] _
    replace tm : SqT K H m (.str x :: .str a :: .str c :: rr) := tm
    repeat walk_at "st"
    refine r_dg ?_
    repeat walk_at "st"
    refine r_ixT (v := .str a) tm at_1 ?_
    refine ⟨D, v, rfl, g1, ?_⟩
    repeat walk_at "st"
    refine r_dg ?_
    repeat walk_at "st"
    refine r_ixT (v := .str c) tm at_2 ?_
    refine ⟨D, w_, rfl, g2, ?_⟩
    repeat walk_at "st"
    refine r_seq ?_
    repeat walk_at "st"
    cases o1 with
    | none =>
      obtain rfl : v = .non := t1
      refine r_isNN ?_
      repeat walk_at "st"
      exact q .non H (Same.refl H) rfl
    | some p1 =>
    obtain ⟨a1, rfl, tp1⟩ := t1
    refine r_isNR ?_
    repeat walk_at "st"
    cases o2 with
    | none =>
      obtain rfl : w_ = .non := t2
      refine r_isNN ?_
      repeat walk_at "st"
      exact q .non H (Same.refl H) rfl
    | some p2 =>
    obtain ⟨a2, rfl, tp2⟩ := t2
    refine r_isNR ?_
    repeat walk_at "st"
    obtain ⟨X, Y, Wt⟩ := p1
    obtain ⟨U, V_, Z⟩ := p2
    obtain ⟨h1, h2, h3⟩ := s1 _ rfl
    obtain ⟨k1, k2, k3⟩ := s2 _ rfl
    replace h1 : Sm 7200 X := h1
    replace h2 : Sm 7200 Y := h2
    replace h3 : Sm 7200 Wt := h3
    replace k1 : Sm 7200 U := k1
    replace k2 : Sm 7200 V_ := k2
    replace k3 : Sm 7200 Z := k3
    clear s1 s2
    refine r_gT tp1 rfl ?_
    refine r_g3 ?_
    repeat walk_at "st"
    refine r_gT tp2 rfl ?_
    refine r_g3 ?_
    repeat walk_at "st"
    refine r_ixT0 tm ?_
    repeat walk_at "st"
    unfold figW at hx
    simp only [List.mem_cons, List.not_mem_nil, or_false] at hx
    rcases hx with rfl | rfl | rfl | rfl | rfl | rfl | rfl | rfl | rfl | rfl
    · skip
      refine r_seq ?_
      repeat walk_at "st"
      refine r_dF (by decide) ?_
      repeat walk_at "st"
      refine r_seq ?_
      repeat walk_at "st"
      refine r_dF (by decide) ?_
      repeat walk_at "st"
      refine r_seq ?_
      repeat walk_at "st"
      refine r_dF (by decide) ?_
      repeat walk_at "st"
      refine r_seq ?_
      repeat walk_at "st"
      refine r_dF (by decide) ?_
      repeat walk_at "st"
      refine r_seq ?_
      repeat walk_at "st"
      refine r_dF (by decide) ?_
      repeat walk_at "st"
      refine r_seq ?_
      repeat walk_at "st"
      refine r_dF (by decide) ?_
      repeat walk_at "st"
      refine r_dF (by decide) ?_
      repeat walk_at "st"
      refine ⟨sz rfl, fun P1 nP1 => ?_⟩
      obtain ⟨H1, eP1, sP1, kP1⟩ := nw nP1 (.tup [V.int 2, .int 1])
      rw [← eP1]
      clear eP1
      refine r_gT (tupOf kP1) rfl ?_
      refine r_g2 ?_
      repeat walk_at "st"
      refine r_seq ?_
      repeat walk_at "st"
      refine r_dT (by decide) ?_
      repeat walk_at "st"
      refine ⟨sz rfl, fun P2 nP2 => ?_⟩
      obtain ⟨H2, eP2, sP2, kP2⟩ := nw nP2 (.tup [V.int 1, .int 2])
      rw [← eP2]
      clear eP2
      refine r_gT (tupOf kP2) rfl ?_
      refine r_g2 ?_
      repeat walk_at "st"
      refine r_seq ?_
      repeat walk_at "st"
      refine r_dF (by decide) ?_
      repeat walk_at "st"
      refine ⟨sz rfl, fun p np => ?_⟩
      exact q (.ref p) _ ((sP1.trans sP2).trans (same_new np _)) ⟨p, rfl, tupOf upd_same⟩
    · skip
      refine r_seq ?_
      repeat walk_at "st"
      refine r_dF (by decide) ?_
      repeat walk_at "st"
      refine r_seq ?_
      repeat walk_at "st"
      refine r_dF (by decide) ?_
      repeat walk_at "st"
      refine r_seq ?_
      repeat walk_at "st"
      refine r_dF (by decide) ?_
      repeat walk_at "st"
      refine r_seq ?_
      repeat walk_at "st"
      refine r_dF (by decide) ?_
      repeat walk_at "st"
      refine r_seq ?_
      repeat walk_at "st"
      refine r_dF (by decide) ?_
      repeat walk_at "st"
      refine r_seq ?_
      repeat walk_at "st"
      refine r_dF (by decide) ?_
      repeat walk_at "st"
      refine r_dF (by decide) ?_
      repeat walk_at "st"
      refine ⟨sz rfl, fun P1 nP1 => ?_⟩
      obtain ⟨H1, eP1, sP1, kP1⟩ := nw nP1 (.tup [V.int 2, .int 1])
      rw [← eP1]
      clear eP1
      refine r_gT (tupOf kP1) rfl ?_
      refine r_g2 ?_
      repeat walk_at "st"
      refine r_seq ?_
      repeat walk_at "st"
      refine r_dF (by decide) ?_
      repeat walk_at "st"
      refine r_seq ?_
      repeat walk_at "st"
      refine r_dF (by decide) ?_
      repeat walk_at "st"
      refine ⟨sz rfl, fun p np => ?_⟩
      exact q (.ref p) _ (sP1.trans (same_new np _)) ⟨p, rfl, tupOf upd_same⟩
    · skip
      refine r_seq ?_
      repeat walk_at "st"
      refine r_dF (by decide) ?_
      repeat walk_at "st"
      refine r_seq ?_
      repeat walk_at "st"
      refine r_dF (by decide) ?_
      repeat walk_at "st"
      refine r_seq ?_
      repeat walk_at "st"
      refine r_dF (by decide) ?_
      repeat walk_at "st"
      refine r_seq ?_
      repeat walk_at "st"
      refine r_dF (by decide) ?_
      repeat walk_at "st"
      refine r_seq ?_
      repeat walk_at "st"
      refine r_dF (by decide) ?_
      repeat walk_at "st"
      refine r_seq ?_
      repeat walk_at "st"
      refine r_dF (by decide) ?_
      repeat walk_at "st"
      refine r_dF (by decide) ?_
      repeat walk_at "st"
      refine ⟨sz rfl, fun P1 nP1 => ?_⟩
      obtain ⟨H1, eP1, sP1, kP1⟩ := nw nP1 (.tup [V.int 2, .int 1])
      rw [← eP1]
      clear eP1
      refine r_gT (tupOf kP1) rfl ?_
      refine r_g2 ?_
      repeat walk_at "st"
      refine r_seq ?_
      repeat walk_at "st"
      refine r_dF (by decide) ?_
      repeat walk_at "st"
      refine r_seq ?_
      repeat walk_at "st"
      refine r_dT (by decide) ?_
      repeat walk_at "st"
      obtain ⟨sq, u, rfl, rfl, fq⟩ : ∃ (sq : Rat) (u : V), d = .sh sq ∧ rr = [u] ∧ Fq K H u sq := by
        cases d with
        | sh sq => obtain ⟨_, u, e, h⟩ := nt; exact ⟨sq, u, rfl, e, h⟩
        | fr _ _ => exact absurd nt.1 (by decide)
        | ct _ => exact absurd nt.1 (by decide)
        | no => exact absurd rfl nt.2.1
      obtain ⟨af, rfl, tf⟩ := fq
      have b20 : Sm 20 sq.num ∧ Sm 20 (sq.den : Int) := by
        have := hq sq rfl
        unfold NrB at this
        exact ⟨Nat.lt_of_lt_of_le (show sq.num.natAbs < 1000 by omega) (by decide), Nat.lt_of_lt_of_le (show ((sq.den : Int)).natAbs < 1000 by omega) (by decide)⟩
      obtain ⟨b1, b2⟩ := b20
      refine r_ixT (v := .ref af) (sP1.tp tm) rfl ?_
      repeat walk_at "st"
      refine r_gT (sP1.tp tf) rfl ?_
      refine r_g2 ?_
      repeat walk_at "st"
      refine ⟨sz rfl, fun p np => ?_⟩
      exact q (.ref p) _ (sP1.trans (same_new np _)) ⟨p, rfl, tupOf upd_same⟩
    · skip
      refine r_seq ?_
      repeat walk_at "st"
      refine r_dF (by decide) ?_
      repeat walk_at "st"
      refine r_seq ?_
      repeat walk_at "st"
      refine r_dF (by decide) ?_
      repeat walk_at "st"
      refine r_seq ?_
      repeat walk_at "st"
      refine r_dF (by decide) ?_
      repeat walk_at "st"
      refine r_seq ?_
      repeat walk_at "st"
      refine r_dF (by decide) ?_
      repeat walk_at "st"
      refine r_seq ?_
      repeat walk_at "st"
      refine r_dT (by decide) ?_
      repeat walk_at "st"
      refine ⟨sz rfl, fun p np => ?_⟩
      exact q (.ref p) _ (same_new np _) ⟨p, rfl, tupOf upd_same⟩
    · skip
      refine r_seq ?_
      repeat walk_at "st"
      refine r_dF (by decide) ?_
      repeat walk_at "st"
      refine r_seq ?_
      repeat walk_at "st"
      refine r_dF (by decide) ?_
      repeat walk_at "st"
      refine r_seq ?_
      repeat walk_at "st"
      refine r_dF (by decide) ?_
      repeat walk_at "st"
      refine r_seq ?_
      repeat walk_at "st"
      refine r_dF (by decide) ?_
      repeat walk_at "st"
      refine r_seq ?_
      repeat walk_at "st"
      refine r_dF (by decide) ?_
      repeat walk_at "st"
      refine r_seq ?_
      repeat walk_at "st"
      refine r_dT (by decide) ?_
      repeat walk_at "st"
      refine r_seq ?_
      repeat walk_at "st"
      refine r_dT (by decide) ?_
      repeat walk_at "st"
      refine ⟨sz rfl, fun p np => ?_⟩
      exact q (.ref p) _ (same_new np _) ⟨p, rfl, tupOf upd_same⟩
    · skip
      refine r_seq ?_
      repeat walk_at "st"
      refine r_dF (by decide) ?_
      repeat walk_at "st"
      refine r_seq ?_
      repeat walk_at "st"
      refine r_dF (by decide) ?_
      repeat walk_at "st"
      refine r_seq ?_
      repeat walk_at "st"
      refine r_dF (by decide) ?_
      repeat walk_at "st"
      refine r_seq ?_
      repeat walk_at "st"
      refine r_dF (by decide) ?_
      repeat walk_at "st"
      refine r_seq ?_
      repeat walk_at "st"
      refine r_dF (by decide) ?_
      repeat walk_at "st"
      refine r_seq ?_
      repeat walk_at "st"
      refine r_dF (by decide) ?_
      repeat walk_at "st"
      refine r_dT (by decide) ?_
      repeat walk_at "st"
      refine r_seq ?_
      repeat walk_at "st"
      refine r_dF (by decide) ?_
      repeat walk_at "st"
      refine ⟨sz rfl, fun p np => ?_⟩
      exact q (.ref p) _ (same_new np _) ⟨p, rfl, tupOf upd_same⟩
    · skip
      refine r_seq ?_
      repeat walk_at "st"
      refine r_dF (by decide) ?_
      repeat walk_at "st"
      refine r_seq ?_
      repeat walk_at "st"
      refine r_dT (by decide) ?_
      repeat walk_at "st"
      have gt : ∀ {p : Addr} {H' : Hp}, Same H H' → H' p = some (.tup [.int (Wt * V_ - Y * Z), .int (X * Z - U * Wt), .int (X * V_ - Y * U)]) → (X * V_ - Y * U ≠ 0) → Q (.ref p) H' := fun {p H'} sm e g => q (.ref p) H' sm (by
        rw [show madeO "meet" (shI d) (shJ d) (some (X, Y, Wt)) (some (U, V_, Z)) = some (Wt * V_ - Y * Z, X * Z - U * Wt, X * V_ - Y * U) from if_neg (by
          show ¬ ((false && (decide (Wt * V_ - Y * Z = 0) && decide (X * Z - U * Wt = 0))) || (true && decide (X * V_ - Y * U = 0))) = true
          simp only [Bool.true_and, Bool.false_and, Bool.false_or, decide_eq_true_eq]; omega)]
        exact ⟨p, rfl, tupOf e⟩)
      have gn : ¬ (X * V_ - Y * U ≠ 0) → ∀ H', Same H H' → Q .non H' := fun g H' sm => q .non H' sm (by
        rw [show madeO "meet" (shI d) (shJ d) (some (X, Y, Wt)) (some (U, V_, Z)) = none from if_pos (by
          show ((false && (decide (Wt * V_ - Y * Z = 0) && decide (X * Z - U * Wt = 0))) || (true && decide (X * V_ - Y * U = 0))) = true
          simp only [Bool.true_and, Bool.false_and, Bool.false_or, decide_eq_true_eq]; omega)]
        rfl)
      refine ⟨sz rfl, fun p np => ?_⟩
      obtain ⟨H1, e1, m1, j1⟩ := nw np (.tup [V.int (Wt * V_ - Y * Z), .int (X * Z - U * Wt), .int (X * V_ - Y * U)])
      rw [← e1]
      clear e1
      repeat walk_at "st"
      refine ⟨sz rfl, fun l nl => ?_⟩
      obtain ⟨H2, e2, m2, j2⟩ := nw nl (.lst [V.non, .ref p])
      rw [← e2]
      clear e2
      repeat walk_at "st"
      refine .inr ⟨_, rfl, ?_⟩
      by_cases c2 : X * V_ - Y * U = 0
      · rw [decide_eq_true c2]
        refine r_ixL (v := .non) (lstOf j2) rfl ?_
        repeat walk_at "st"
        exact gn (by omega) _ (m1.trans m2)
      · rw [decide_eq_false c2]
        refine r_ixL (v := .ref p) (lstOf j2) rfl ?_
        repeat walk_at "st"
        exact gt (m1.trans m2) (m2 _ _ j1) c2
    · skip
      refine r_seq ?_
      repeat walk_at "st"
      refine r_dT (by decide) ?_
      repeat walk_at "st"
      have gt : ∀ {p : Addr} {H' : Hp}, Same H H' → H' p = some (.tup [.int (Y * Z - V_ * Wt), .int (U * Wt - X * Z), .int (U * Y - X * V_)]) → (Y * Z - V_ * Wt ≠ 0 ∨ U * Wt - X * Z ≠ 0) → Q (.ref p) H' := fun {p H'} sm e g => q (.ref p) H' sm (by
        rw [show madeO "line" (shI d) (shJ d) (some (X, Y, Wt)) (some (U, V_, Z)) = some (Y * Z - V_ * Wt, U * Wt - X * Z, U * Y - X * V_) from if_neg (by
          show ¬ ((true && (decide (Y * Z - V_ * Wt = 0) && decide (U * Wt - X * Z = 0))) || (false && decide (U * Y - X * V_ = 0))) = true
          simp only [Bool.true_and, Bool.false_and, Bool.or_false, Bool.and_eq_true, decide_eq_true_eq]; omega)]
        exact ⟨p, rfl, tupOf e⟩)
      have gn : ¬ (Y * Z - V_ * Wt ≠ 0 ∨ U * Wt - X * Z ≠ 0) → ∀ H', Same H H' → Q .non H' := fun g H' sm => q .non H' sm (by
        rw [show madeO "line" (shI d) (shJ d) (some (X, Y, Wt)) (some (U, V_, Z)) = none from if_pos (by
          show ((true && (decide (Y * Z - V_ * Wt = 0) && decide (U * Wt - X * Z = 0))) || (false && decide (U * Y - X * V_ = 0))) = true
          simp only [Bool.true_and, Bool.false_and, Bool.or_false, Bool.and_eq_true, decide_eq_true_eq]; omega)]
        rfl)
      refine ⟨sz rfl, fun p np => ?_⟩
      obtain ⟨H1, e1, m1, j1⟩ := nw np (.tup [V.int (Y * Z - V_ * Wt), .int (U * Wt - X * Z), .int (U * Y - X * V_)])
      rw [← e1]
      clear e1
      repeat walk_at "st"
      refine ⟨sz rfl, fun l nl => ?_⟩
      obtain ⟨H2, e2, m2, j2⟩ := nw nl (.lst [V.non, .ref p])
      rw [← e2]
      clear e2
      repeat walk_at "st"
      refine r_iteN (fun c => ?_) (fun c => ?_)
      · refine .inr ⟨_, rfl, ?_⟩
        refine r_ixL (v := .ref p) (lstOf j2) rfl ?_
        repeat walk_at "st"
        exact gt (m1.trans m2) (m2 _ _ j1) (.inl c)
      repeat walk_at "st"
      refine .inr ⟨_, rfl, ?_⟩
      by_cases c2 : U * Wt - X * Z = 0
      · rw [decide_eq_true c2]
        refine r_ixL (v := .non) (lstOf j2) rfl ?_
        repeat walk_at "st"
        exact gn (by omega) _ (m1.trans m2)
      · rw [decide_eq_false c2]
        refine r_ixL (v := .ref p) (lstOf j2) rfl ?_
        repeat walk_at "st"
        exact gt (m1.trans m2) (m2 _ _ j1) (.inr c2)
    · skip
      refine r_seq ?_
      repeat walk_at "st"
      refine r_dF (by decide) ?_
      repeat walk_at "st"
      refine r_seq ?_
      repeat walk_at "st"
      refine r_dF (by decide) ?_
      repeat walk_at "st"
      refine r_seq ?_
      repeat walk_at "st"
      refine r_dT (by decide) ?_
      repeat walk_at "st"
      refine ⟨sz rfl, fun p np => ?_⟩
      exact q (.ref p) _ (same_new np _) ⟨p, rfl, tupOf upd_same⟩
    · skip
      refine r_seq ?_
      repeat walk_at "st"
      refine r_dF (by decide) ?_
      repeat walk_at "st"
      refine r_seq ?_
      repeat walk_at "st"
      refine r_dF (by decide) ?_
      repeat walk_at "st"
      refine r_seq ?_
      repeat walk_at "st"
      refine r_dF (by decide) ?_
      repeat walk_at "st"
      refine r_seq ?_
      repeat walk_at "st"
      refine r_dT (by decide) ?_
      repeat walk_at "st"
      refine ⟨sz rfl, fun p np => ?_⟩
      exact q (.ref p) _ (same_new np _) ⟨p, rfl, tupOf upd_same⟩
  ) only [↓Mb.dischW]
theorem ok_got (F : Fn K mg "_law_got" s_got) (G_sort : Kn P w K mg base 1 "_law_sort" ["_law_making"] (spSortL K)) (G_made : Kn P w K mg base 1 "_law_made" ["_law_making", "_law_got_here"] (spMadeT K)) : Kn P w K mg base 2 "_law_got" ["_law_part_here", "_law_spots"] (spGotT K) := by
  refine Mb.ofW ?_
  simp (discharger := with_unfolding_all
    refine F.kn sc_got (fun vs H Q E h => ?_) (fun f cdv A0 outer s H vs Q E hr h => ?_) (fun _ _ _ _ _ _ us hl => match us, hl with | [_, _], _ => rfl)
    · obtain ⟨l, S, us, ts, W, sv, sp, rfl, _⟩ := h
      rfl
    obtain ⟨l, S, us, ts, W, sv, sp, rfl, hl, rw_, hn, vp, hS, hsp, small, q⟩ := h
    have ln := rw_.len
    refine ⟨_, (pss_cons (ps_set (i := 2) sc_got.nd rfl (.inl rfl) pe_dnewK)
      (pss_cons (ps_for PassesOwn.never rfl (pi_list (pv 0)) (pg_tup (by rfl) (pgs_cons (pg_name (i := 3) sc_got.nd rfl (.inl rfl)) (pgs_cons (pg_name (i := 4) sc_got.nd rfl (.inl rfl)) pgs_nil)))
      (pss_one (ps_if (pt_cmpR op_eq (pe_ix ix_tup (pv 4) pe_int (fun _ _ => rfl)) pe_str (nomark _))
      (pss_cons (ps_asg (pe_dget (u1 hr.units) (pv 1) (pv 3) (fun _ _ => rfl)) (pg_tup (by rfl) (pgs_cons (pg_name (i := 5) sc_got.nd rfl (.inl rfl)) (pgs_cons (pg_name (i := 6) sc_got.nd rfl (.inl rfl)) pgs_nil))))
      (pss_one (ps_dput (u1 hr.units) (pv 2) (pv 3) (pe_tup (pa_cons (pe_op op_mulW (pe_ix ix_tup (pv 5) pe_int (fun _ _ => rfl)) (pe_ix ix_tup (pv 6) pe_int (fun _ _ => rfl))) (pa_cons (pe_op op_mulW (pe_ix ix_tup (pv 6) pe_int (fun _ _ => rfl)) (pe_ix ix_tup (pv 5) pe_int (fun _ _ => rfl))) (pa_cons (pe_op op_mulW (pe_ix ix_tup (pv 5) pe_int (fun _ _ => rfl)) (pe_ix ix_tup (pv 6) pe_int (fun _ _ => rfl))) pa_nil)))) (by rfl))))
      (pss_one (ps_if (pt_cmpR op_in_seq (pe_kn G_sort (hr.mono (by decide)) (by rfl) (pa_cons (pv 4) pa_nil)) (pe_lst (pa_cons pe_str (pa_cons pe_str pa_nil))) (by rfl))
      (pss_one (ps_dput (u1 hr.units) (pv 2) (pv 3) (pe_kn G_made (hr.mono (by decide)) (by rfl) (pa_cons (pv 4) (pa_cons (pv 2) pa_nil))) (by rfl)))
      pss_nil)))))
      (pss_one (ps_ret (pv 2))))), ?_⟩
    show (_ : TS) _ [some (.ref l), some (.ref S), none, none, none, none, none] _
    repeat walk_at "st"
    refine fun D nD => ?_
    have sD := same_new nD (.dK [])
    have eD0 : upd H D (.dK []) D = some (.dK (formD [])) := upd_same
    generalize upd H D (.dK []) = H0 at *
    repeat walk_at "st"
    with_reducible refine r_cut (fun σ H' => ∃ (y3 y4 y5 y6 : Option V) (tv : List (Str × V)), σ = [some (.ref l), some (.ref S), some (.ref D), y3, y4, y5, y6] ∧ Same H H' ∧ H' D = some (.dK (formD tv)) ∧ Gs K H' tv (gGo sp [] ts)) ?U1 ?V1
    case V1 =>
      intro N J
      refine ⟨.ref l, rfl, l, rfl, ⟨us, sD.seq hl⟩, ?_⟩
      refine for_list (xs := us) (fun i σ H' => ∃ (y3 y4 y5 y6 : Option V) (tv : List (Str × V)), σ = [some (.ref l), some (.ref S), some (.ref D), y3, y4, y5, y6] ∧ Same H H' ∧ H' D = some (.dK (formD tv)) ∧ Gs K H' tv (gGo sp [] (ts.take i))) ?_ ?_ ?_ ?_
      · exact ⟨_, _, _, _, [], rfl, sD, eD0, by rw [List.take_zero]; exact .nil⟩
      · rintro i σ H' _ ⟨_, _, _, _, _, _, g', _⟩
        exact g'.seq hl
      · rintro i v σ H1 hv ⟨y3, y4, y5, y6, tv, rfl, g1, e1, gs⟩
        obtain ⟨t, ht, a, m, rfl, ta, mq⟩ := rw_.at hv
        obtain ⟨n1, n2, n3, n4, n5, n6⟩ := vp.at ht
        have htm := List.mem_of_getElem? ht
        have nc : ∀ u ∈ ts.take i, sOf u.2.1 ≠ "claim" := fun u hu => by
          obtain ⟨j, hj⟩ := List.getElem?_of_mem (List.mem_of_mem_take hu)
          exact (vp.at hj).2.2.2.1.noclaim
        have gn : (gGo sp [] (ts.take i)).map (·.1) = nmsE (envOf [] ((ts.take i).map thOf)) := by
          rw [gGo_nms nc, nms_env0, nmsQ]
          rfl
        have zn : t.1 ∉ tv.map (·.1) := by rw [gs.nms, gn]; exact n1
        have lt : tv.length ≤ 60 := by
          have h1 := congrArg List.length gs.nms
          rw [gn, nms_env0, nmsQ] at h1
          simp only [List.length_map, List.length_take] at h1
          omega
        have ea : ts.take (i + 1) = ts.take i ++ [t] := by rw [List.take_succ, ht, Option.toList_some]
        replace mq := mq.kp (Kp.same g1)
        obtain ⟨rr, tm, tl⟩ := id mq
        have okm := n3.okm
        refine r_gT (g1.tp ta) rfl ?_
        refine r_g2 ?_
        repeat walk_at "st"
        refine r_ixT0 tm ?_
        repeat walk_at "st"
        refine r_ite (fun c => ?_) (fun c => ?_)
        · obtain ⟨v, hf, ⟨ap, f1, f2, rfl, tp, ⟨a1, rfl, t1⟩, a2, rfl, t2⟩, z1, z2⟩ := hsp t htm c
          replace tp := g1.tp tp
          replace t1 := g1.tp t1
          replace t2 := g1.tp t2
          obtain ⟨z1t, z1b⟩ := z1
          obtain ⟨z2t, z2b⟩ := z2
          repeat walk_at "st"
          refine r_dg ?_
          repeat walk_at "st"
          refine ⟨S, .ref ap, rfl, get_find (g1 _ _ hS) hf, ?_⟩
          refine r_gT tp rfl ?_
          refine r_g2 ?_
          repeat walk_at "st"
          refine r_dput ?_
          repeat walk_at "st"
          refine ⟨sz rfl, fun p np => ?_⟩
          obtain ⟨H2, e2, s2, k2⟩ := nw np (.tup [V.int ((sp t.1).1.num * ((sp t.1).2.den : Int)), .int ((sp t.1).2.num * ((sp t.1).1.den : Int)), .int (((sp t.1).1.den : Int) * ((sp t.1).2.den : Int))])
          rw [← e2]
          clear e2
          repeat walk_at "st"
          refine ⟨D, _, rfl, DPut.k (k := .inr t.1) (s2 _ _ e1) (by unfold formD; rw [List.length_map]; exact Nat.lt_of_le_of_lt (show tv.length ≤ 1000 by omega) (by decide)), ?_⟩
          rw [form_put zn]
          have kp := (Kp.same (K := K) s2).trans (kp_dict (o' := .dK (formD (tv ++ [(t.1, .ref p)]))) (s2 _ _ e1))
          refine ⟨_, _, _, _, _, rfl, same_updS (g1.trans s2) nD, upd_same, ?_⟩
          rw [ea, gGo_snoc]
          unfold gStep
          rw [if_pos c]
          exact paired_snocT (gs.kp kp) ⟨rfl, p, rfl, (kp_dict (s2 _ _ e1)) _ _ (tupOf k2)⟩
        · have hx : t.2.1 ∈ figW ∧ ∀ q, t.2.2.2 = .sh q → NrB q 1000 := by
            rcases n4 with ⟨e, _⟩ | h
            · exact absurd e c
            · exact h
          obtain ⟨e2, g0, g1'⟩ := gnd_two n3 hx.1
          repeat walk_at "st"
          refine ⟨m, t.2.1, t.2.2.1, _, rfl, mq.mk, okm, fun H2 s2 => ?_⟩
          repeat walk_at "st"
          refine ⟨sz rfl, fun b nb => ?_⟩
          obtain ⟨H3, e3, s3, k3⟩ := nw nb (.lst [V.str "point", .str "line"])
          rw [← e3]
          clear e3
          repeat walk_at "st"
          refine r_inSL (zs := ["point", "line"]) (lstOf k3) ?_
          have so : sOf t.2.1 ∈ (["point", "line"] : List Str) := by rcases fig_sort hx.1 with h | h <;> rw [h] <;> simp
          rw [decide_eq_true so]
          repeat walk_at "st"
          have s23 := s2.trans s3
          have kp3 := Kp.same (K := K) s23
          have gs3 := gs.kp kp3
          have mq3 := mq.kp kp3
          rw [e2] at mq3
          have e13 := s23 _ _ e1
          refine r_dput ?_
          repeat walk_at "st"
          refine ⟨m, D, t.2.1, gnd t 0, gnd t 1, t.2.2.2, _, _, _, _, rfl, mq3, hx.1, hx.2, get_got e13 gs3 (by rw [gn]; exact g0), get_got e13 gs3 (by rw [gn]; exact g1'), (gs3.look (by rw [gn]; exact g0)).2, (gs3.look (by rw [gn]; exact g1')).2, small i _, small i _, fun r H4 s4 tr => ?_⟩
          repeat walk_at "st"
          refine ⟨D, _, rfl, DPut.k (k := .inr t.1) (s4 _ _ e13) (by unfold formD; rw [List.length_map]; exact Nat.lt_of_le_of_lt (show tv.length ≤ 1000 by omega) (by decide)), ?_⟩
          rw [form_put zn]
          have kp := (Kp.same (K := K) s4).trans (kp_dict (o' := .dK (formD (tv ++ [(t.1, r)]))) (s4 _ _ e13))
          refine ⟨_, _, _, _, _, rfl, same_updS ((g1.trans s23).trans s4) nD, upd_same, ?_⟩
          rw [ea, gGo_snoc]
          unfold gStep
          rw [if_neg c, if_neg n4.noclaim]
          exact paired_snocT (gs3.kp kp) ⟨rfl, tr.kp (kp_dict (s4 _ _ e13))⟩
      · rintro σ H1 ⟨y3, y4, y5, y6, tv, rfl, g1, e1, gs⟩
        rw [ln, List.take_length] at gs
        exact J _ _ ⟨_, _, _, _, tv, rfl, g1, e1, gs⟩
    rintro σ H1 ⟨y3, y4, y5, y6, tv, rfl, g1, e1, gs⟩
    repeat walk_at "st"
    exact q D tv H1 g1 nD e1 gs
  ) only [↓Mb.dischW]
theorem ok_l_spot (F : Fn K mg "_law_spot" s_l_spot) (G_take : Kn P w K mg base 1 "_law_take" ["_law_pool_here", "_law_wide"] spTake) (G_low : Kn P w K mg base 2 "_law_low" ["_law_top", "_law_bottom"] spLow) (G_place : Kn P w K mg base 4 "_law_place" ["_law_pool_here"] (spPlaceB K)) (z_len : mg "len" = none) : Kn P w K mg base 5 "_law_spot" ["_law_pool_here", "_law_had"] (spSpotH K) := by
  refine Mb.ofW ?_
  simp (discharger := with_unfolding_all
    refine F.kn sc_l_spot (fun vs H Q E h => ?_) (fun f cdv A0 outer s H vs Q E hr h => ?_) (fun _ _ _ _ _ _ us hl => match us, hl with | [_, _], _ => rfl)
    · obtain ⟨p, hl, b, vs', hs, n, rfl, _⟩ := h
      rfl
    obtain ⟨p, hl, b, vs', hs, n, rfl, hp, hb, eH, pls, szs, n200, hlen, npl, q⟩ := h
    refine ⟨_, (pss_cons (ps_set (i := 2) sc_l_spot.nd rfl (.inl rfl) (pe_kn G_take (hr.mono (by decide)) (by rfl) (pa_cons (pv 0) (pa_cons pe_int pa_nil))))
      (pss_cons (ps_if (PW.pt (pw_and (pt_cmpR op_eq (pv 2) pe_int (nomark _)) (pw_and1 (pt_cmpR op_gt (pe_callB call_len_seq (by rfl) z_len (by decide +kernel) (pa_cons (pv 1) pa_nil)) pe_int (nomark _)))))
      (pss_one (ps_ret (pe_ix ix_list (pv 1) (pe_kn G_take (hr.mono (by decide)) (by rfl) (pa_cons (pv 0) (pa_cons (pe_callB call_len_seq (by rfl) z_len (by decide +kernel) (pa_cons (pv 1) pa_nil)) pa_nil))) (fun _ _ => rfl))))
      pss_nil)
      (pss_cons (ps_if (PW.pt (pw_and (pt_cmpR op_lt (pv 2) pe_int (nomark _)) (pw_and1 (pt_cmpR op_gt (pe_callB call_len_seq (by rfl) z_len (by decide +kernel) (pa_cons (pv 1) pa_nil)) pe_int (nomark _)))))
      (pss_cons (ps_asg (pe_ix ix_list (pv 1) (pe_kn G_take (hr.mono (by decide)) (by rfl) (pa_cons (pv 0) (pa_cons (pe_callB call_len_seq (by rfl) z_len (by decide +kernel) (pa_cons (pv 1) pa_nil)) pa_nil))) (fun _ _ => rfl)) (pg_tup (by rfl) (pgs_cons (pg_name (i := 3) sc_l_spot.nd rfl (.inl rfl)) (pgs_cons (pg_name (i := 4) sc_l_spot.nd rfl (.inl rfl)) pgs_nil))))
      (pss_cons (ps_asg (pe_ix ix_list (pv 1) (pe_kn G_take (hr.mono (by decide)) (by rfl) (pa_cons (pv 0) (pa_cons (pe_callB call_len_seq (by rfl) z_len (by decide +kernel) (pa_cons (pv 1) pa_nil)) pa_nil))) (fun _ _ => rfl)) (pg_tup (by rfl) (pgs_cons (pg_name (i := 5) sc_l_spot.nd rfl (.inl rfl)) (pgs_cons (pg_name (i := 6) sc_l_spot.nd rfl (.inl rfl)) pgs_nil))))
      (pss_cons (ps_set (i := 3) sc_l_spot.nd rfl (.inl rfl) (pe_kn G_low (hr.mono (by decide)) (by rfl) (pa_cons (pe_op op_add (pe_op op_mulW (pe_ix ix_tup (pv 3) pe_int (fun _ _ => rfl)) (pe_ix ix_tup (pv 5) pe_int (fun _ _ => rfl))) (pe_op op_mulW (pe_ix ix_tup (pv 5) pe_int (fun _ _ => rfl)) (pe_ix ix_tup (pv 3) pe_int (fun _ _ => rfl)))) (pa_cons (pe_op op_mulW (pe_op op_mulW pe_int (pe_ix ix_tup (pv 3) pe_int (fun _ _ => rfl))) (pe_ix ix_tup (pv 5) pe_int (fun _ _ => rfl))) pa_nil))))
      (pss_one (ps_ret (pe_tup (pa_cons (pv 3) (pa_cons (pe_kn G_low (hr.mono (by decide)) (by rfl) (pa_cons (pe_op op_add (pe_op op_mulW (pe_ix ix_tup (pv 4) pe_int (fun _ _ => rfl)) (pe_ix ix_tup (pv 6) pe_int (fun _ _ => rfl))) (pe_op op_mulW (pe_ix ix_tup (pv 6) pe_int (fun _ _ => rfl)) (pe_ix ix_tup (pv 4) pe_int (fun _ _ => rfl)))) (pa_cons (pe_op op_mulW (pe_op op_mulW pe_int (pe_ix ix_tup (pv 4) pe_int (fun _ _ => rfl))) (pe_ix ix_tup (pv 6) pe_int (fun _ _ => rfl))) pa_nil))) pa_nil))))))))
      pss_nil)
      (pss_cons (ps_if (pt_cmpR op_lt (pv 2) pe_int (nomark _))
      (pss_cons (ps_set (i := 3) sc_l_spot.nd rfl (.inl rfl) (pe_tup (pa_cons (pe_op op_sub (pe_kn G_take (hr.mono (by decide)) (by rfl) (pa_cons (pv 0) (pa_cons pe_int pa_nil))) pe_int) (pa_cons pe_int pa_nil))))
      (pss_one (ps_ret (pe_tup (pa_cons (pv 3) (pa_cons (pe_tup (pa_cons (pe_op op_sub (pe_kn G_take (hr.mono (by decide)) (by rfl) (pa_cons (pv 0) (pa_cons pe_int pa_nil))) pe_int) (pa_cons pe_int pa_nil))) pa_nil))))))
      pss_nil)
      (pss_one (ps_ret (pe_kn G_place (hr.mono (by decide)) (by rfl) (pa_cons (pv 0) pa_nil)))))))), ?_⟩
    show (_ : TS) _ [some (.ref p), some (.ref hl), none, none, none, none, none] _
    have up : ∀ {r : Rat}, Sz n r → Sz 200 r := fun h => h.mono n200
    repeat walk_at "st"
    refine ⟨p, _, b, rfl, hp, by omega, by decide, by decide, fun i H1 k1 hp1 i0 i1 => ?_⟩
    have eH1 := k1 _ _ (fun z => npl z.symm) eH
    have kp1 := Kp.but (K := K) k1 hp
    replace pls := pls.kp kp1
    repeat walk_at "st"
    with_reducible refine r_cut (fun σ H' => σ = [some (.ref p), some (.ref hl), some (.int i), none, none, none, none] ∧ H' = H1) ?U1 ?V1
    case V1 =>
      intro N J
      repeat walk_at "st"
      refine r_ite (fun c => ?_) (fun c => ?_)
      · repeat walk_at "st"
        refine ⟨hl, _, rfl, .inl (lstOf eH1), ?_⟩
        repeat walk_at "st"
        refine r_ite (fun c2 => ?_) (fun c2 => ?_)
        · repeat walk_at "st"
          refine ⟨hl, _, rfl, .inl (lstOf eH1), ?_⟩
          repeat walk_at "st"
          refine ⟨p, _, _, rfl, hp1, by omega, by omega, by omega, fun j H2 k2 hp2 j0 j1 => ?_⟩
          obtain ⟨v, qq, av, fv, mq⟩ := pick_v pls j0 j1
          repeat walk_at "st"
          refine r_ixL (lstOf (k2 _ _ (fun z => npl z.symm) eH1)) av ?_
          repeat walk_at "st"
          exact q v _ _ _ H2 (k1.trans k2) hp2 (by omega) (fv.kp (Kp.but k2 hp1)) ⟨(szs qq mq).1.mono (by omega), (szs qq mq).2.mono (by omega)⟩
        · repeat walk_at "st"
          exact J _ _ ⟨rfl, rfl⟩
      · repeat walk_at "st"
        exact J _ _ ⟨rfl, rfl⟩
    rintro σ H2 ⟨rfl, rfl⟩
    with_reducible refine r_cut (fun σ H' => σ = [some (.ref p), some (.ref hl), some (.int i), none, none, none, none] ∧ H' = H2) ?U2 ?V2
    case V2 =>
      intro N J
      repeat walk_at "st"
      refine r_ite (fun c => ?_) (fun c => ?_)
      · repeat walk_at "st"
        refine ⟨hl, _, rfl, .inl (lstOf eH1), ?_⟩
        repeat walk_at "st"
        refine r_ite (fun c2 => ?_) (fun c2 => ?_)
        · repeat walk_at "st"
          refine ⟨hl, _, rfl, .inl (lstOf eH1), ?_⟩
          repeat walk_at "st"
          refine ⟨p, _, _, rfl, hp1, by omega, by omega, by omega, fun j H3 k3 hp3 j0 j1 => ?_⟩
          obtain ⟨v, qq, av, fv, mq⟩ := pick_v pls j0 j1
          have eH3 := k3 _ _ (fun z => npl z.symm) eH1
          have pls3 := pls.kp (Kp.but k3 hp1)
          replace fv := fv.kp (Kp.but k3 hp1)
          repeat walk_at "st"
          refine r_ixL (lstOf eH3) av ?_
          obtain ⟨a1, f1, f2, rfl, t0, ⟨fa, rfl, t1⟩, fb, rfl, t2⟩ := fv
          refine r_gT t0 rfl ?_
          refine r_g2 ?_
          repeat walk_at "st"
          refine ⟨hl, _, rfl, .inl (lstOf eH3), ?_⟩
          repeat walk_at "st"
          refine ⟨p, _, _, rfl, hp3, by omega, by omega, by omega, fun j' H4 k4 hp4 j0' j1' => ?_⟩
          obtain ⟨v', qq', av', fv', mq'⟩ := pick_v pls3 j0' j1'
          have eH4 := k4 _ _ (fun z => npl z.symm) eH3
          have kp4 := Kp.but (K := K) k4 hp3
          replace fv' := fv'.kp kp4
          replace t1 := kp4 _ _ t1
          replace t2 := kp4 _ _ t2
          repeat walk_at "st"
          refine r_ixL (lstOf eH4) av' ?_
          obtain ⟨a2, g1, g2, rfl, t0', ⟨ga, rfl, t1'⟩, gb, rfl, t2'⟩ := fv'
          refine r_gT t0' rfl ?_
          refine r_g2 ?_
          have z1 := (szs qq mq).1
          have z2 := (szs qq mq).2
          have y1 := (szs qq' mq').1
          have y2 := (szs qq' mq').2
          obtain ⟨hx1, hx2⟩ := half_sz z1 y1
          obtain ⟨hy1, hy2⟩ := half_sz z2 y2
          obtain ⟨z1t, z1b⟩ := up z1
          obtain ⟨z2t, z2b⟩ := up z2
          obtain ⟨y1t, y1b⟩ := up y1
          obtain ⟨y2t, y2b⟩ := up y2
          have tw : Sm 2 (2 : Int) := by decide
          have dx : (2 * (qq.1.den : Int) * (qq'.1.den : Int)) ≠ 0 := Int.mul_ne_zero (Int.mul_ne_zero (by decide) (den_ne _)) (den_ne _)
          have dy : (2 * (qq.2.den : Int) * (qq'.2.den : Int)) ≠ 0 := Int.mul_ne_zero (Int.mul_ne_zero (by decide) (den_ne _)) (den_ne _)
          repeat walk_at "st"
          refine ⟨_, _, rfl, dx, hx2.mono (by omega), fun o1 H5 s5 no1 eo1 => ?_⟩
          replace t2 := s5.tp t2
          replace t2' := s5.tp t2'
          repeat walk_at "st"
          refine ⟨_, _, rfl, dy, hy2.mono (by omega), fun o2 H6 s6 no2 eo2 => ?_⟩
          repeat walk_at "st"
          refine ⟨sz rfl, fun o no => ?_⟩
          obtain ⟨H7, e7, s7, k7⟩ := nw no (.tup [V.ref o1, .ref o2])
          rw [← e7]
          clear e7
          obtain ⟨fx, sx⟩ := low_fq eo1 dx hx1 hx2
          obtain ⟨fy, sy⟩ := low_fq eo2 dy hy1 hy2
          have s57 := s5.trans (s6.trans s7)
          exact q (.ref o) _ _ _ H7 ((k1.trans (k3.trans k4)).trans (But.same s57)) (hp4.same s57) (by omega) ⟨o, _, _, rfl, tupOf k7, fx.up (s6.trans s7), fy.up s7⟩ ⟨sx.mono (by omega), sy.mono (by omega)⟩
        · repeat walk_at "st"
          exact J _ _ ⟨rfl, rfl⟩
      · repeat walk_at "st"
        exact J _ _ ⟨rfl, rfl⟩
    rintro σ H3 ⟨rfl, rfl⟩
    refine r_seq ?_
    repeat walk_at "st"
    refine r_ite (fun c => ?_) (fun c => ?_)
    · repeat walk_at "st"
      refine ⟨p, _, _, rfl, hp1, by omega, by decide, by decide, fun j H4 k4 hp4 j0 j1 => ?_⟩
      repeat walk_at "st"
      refine ⟨sz rfl, fun o1 no1 => ?_⟩
      obtain ⟨H5, e5, s5, k5⟩ := nw no1 (.tup [V.int (j - 2), .int 1])
      rw [← e5]
      clear e5
      have hp5 := hp4.same s5
      repeat walk_at "st"
      refine ⟨p, _, _, rfl, hp5, by omega, by decide, by decide, fun j' H6 k6 hp6 j0' j1' => ?_⟩
      repeat walk_at "st"
      refine ⟨sz rfl, fun o2 no2 => ?_⟩
      obtain ⟨H7, e7, s7, k7⟩ := nw no2 (.tup [V.int (j' - 2), .int 1])
      rw [← e7]
      clear e7
      repeat walk_at "st"
      refine ⟨sz rfl, fun o no => ?_⟩
      obtain ⟨H8, e8, s8, k8⟩ := nw no (.tup [V.ref o1, .ref o2])
      rw [← e8]
      clear e8
      obtain ⟨rx, fx, sx⟩ := Fb.fqT (K := K) (fb_int (t := j - 2) (by omega)) (tupOf k5)
      obtain ⟨ry, fy, sy⟩ := Fb.fqT (K := K) (fb_int (t := j' - 2) (by omega)) (tupOf k7)
      exact q (.ref o) _ _ _ H8 ((k1.trans k4).trans ((But.same s5).trans (k6.trans (But.same (s7.trans s8))))) ((hp6.same s7).same s8) (by omega) ⟨o, _, _, rfl, tupOf k8, (fx.kp (Kp.but k6 hp5)).up (s7.trans s8), fy.up s8⟩ ⟨sx.mono (by omega), sy.mono (by omega)⟩
    repeat walk_at "st"
    refine ⟨p, _, rfl, hp1, by omega, fun o f1 f2 t u r s_ H4 k4 hp4 eo t1 t2 b1 b2 => ?_⟩
    obtain ⟨rx, fx, sx⟩ := b1.fqT t1
    obtain ⟨ry, fy, sy⟩ := b2.fqT t2
    repeat walk_at "st"
    exact q (.ref o) _ _ _ H4 (k1.trans k4) hp4 (by omega) ⟨o, _, _, rfl, tupOf eo, fx, fy⟩ ⟨sx.mono (by omega), sy.mono (by omega)⟩
  ) only [↓Mb.dischW]
theorem ok_fit (F : Fn K mg "_law_fit" s_fit) (G_form : Kn P w K mg base 2 "_law_form" ["_law_found", "_law_many"] (spFormG K)) (G_worth : Kn P w K mg base 2 "_law_worth" ["_law_form_here", "_law_numbers"] (spLWorth K)) (z_isinstance : mg "isinstance" = none) (z_len : mg "len" = none) (z_range : mg "range" = none) (z_tuple : mg "tuple" = none) : Kn P w K mg base 3 "_law_fit" ["_law_found", "_law_many", "_law_line", "_law_numbers", "_law_due"] (spFitT K) := by
  refine Mb.ofW ?_
  simp (discharger := with_unfolding_all
    refine F.kn sc_fit (fun vs H Q E h => ?_) (fun f cdv A0 outer s H vs Q E hr h => ?_) (fun _ _ _ _ _ _ us hl => match us, hl with | [_, _, _, _, _], _ => rfl)
    · obtain ⟨v, due, m, d, S, b, line, l, φ, ws, rs, o, rfl, _⟩ := h
      rfl
    obtain ⟨v, due, m, d, S, b, line, l, φ, ws, rs, o, rfl, ⟨a, fs, rfl, ta, l3, fo⟩, m7, hc, hd, hL, fr, hm, hb, hS, hb2, hb1, tr, ok, q⟩ := h
    refine ⟨_, (pss_cons (ps_if (PW.pt (pw_or (pt_not (pt_val (pe_callB call_isi (by rfl) z_isinstance (by decide +kernel) (pa_cons (pv 0) (pa_cons (pe_bltn (v := .ty "tuple") (by rfl) z_tuple (by decide +kernel) rfl) pa_nil))))) (pw_or1 (pt_cmpR op_ne (pe_callB call_len_seq (by rfl) z_len (by decide +kernel) (pa_cons (pv 0) pa_nil)) pe_int (nomark _)))))
      (pss_one (ps_ret pe_bl))
      pss_nil)
      (pss_cons (ps_for PassesOwn.never rfl (pi_tup (pv 0)) (pg_name (i := 5) sc_fit.nd rfl (.inl rfl))
      (pss_one (ps_if (pt_not (pt_val (pe_kn G_form (hr.mono (by decide)) (by rfl) (pa_cons (pv 5) (pa_cons (pv 1) pa_nil)))))
      (pss_one (ps_ret pe_bl))
      pss_nil)))
      (pss_cons (ps_if (pt_cmpR op_isNo (pv 4) pe_non (nomark _))
      (pss_one (ps_ret pe_bl))
      pss_nil)
      (pss_cons (ps_setLc (i := 6) (own := [("_law_form_here", 5)]) (g := gName 5) (by rfl) sc_fit.nd rfl rfl (sw_true rfl rfl rfl (by decide +kernel)) (pi_tup (pv 0)) (blkOk_by (own := [("_law_form_here", 5)]) (N := ["_law_found", "_law_many", "_law_line", "_law_numbers", "_law_due", "_law_form_here", "_law_told", "_law_i", "_law_j", "_law_one"]) (sc := (defScope s_fit)) (by decide +kernel)) (fun _ _ _ _ _ => pg_name (i := 5) sc_fit.nd rfl (.inl rfl)) (fun _ _ _ _ _ => pts_nil) (fun _ _ _ _ _ => (pe_kn G_worth (hr.mono (by decide)) (by rfl) (pa_cons (pv 5) (pa_cons (pv 3) pa_nil)))))
      (pss_cons (ps_for PassesOwn.never rfl (pi_range1 (by rfl) z_range (pa_cons pe_int pa_nil)) (pg_name (i := 7) sc_fit.nd rfl (.inl rfl))
      (pss_one (ps_for PassesOwn.never rfl (pi_range1 (by rfl) z_range (pa_cons (pv 7) pa_nil)) (pg_name (i := 8) sc_fit.nd rfl (.inl rfl))
      (pss_cons (ps_set (i := 9) sc_fit.nd rfl (.inl rfl) (pe_op op_mulW (pe_op op_mulW (pe_ix ix_tup (pe_ix ix_list (pv 6) (pv 7) (fun _ _ => rfl)) pe_int (fun _ _ => rfl)) (pe_ix ix_tup (pv 4) (pv 8) (fun _ _ => rfl))) (pe_ix ix_tup (pe_ix ix_list (pv 6) (pv 8) (fun _ _ => rfl)) pe_int (fun _ _ => rfl))))
      (pss_one (ps_if (pt_cmpR op_ne (pv 9) (pe_op op_mulW (pe_op op_mulW (pe_ix ix_tup (pe_ix ix_list (pv 6) (pv 8) (fun _ _ => rfl)) pe_int (fun _ _ => rfl)) (pe_ix ix_tup (pv 4) (pv 7) (fun _ _ => rfl))) (pe_ix ix_tup (pe_ix ix_list (pv 6) (pv 7) (fun _ _ => rfl)) pe_int (fun _ _ => rfl))) (nomark _))
      (pss_one (ps_ret pe_bl))
      pss_nil))))))
      (pss_cons (ps_if (pt_val (pv 2))
      (pss_one (ps_ret (pe_or (pe_cmpR op_ne (pe_ix ix_tup (pe_ix ix_list (pv 6) pe_int (fun _ _ => rfl)) pe_int (fun _ _ => rfl)) pe_int (nomark _)) (pe_one (pe_cmpR op_ne (pe_ix ix_tup (pe_ix ix_list (pv 6) pe_int (fun _ _ => rfl)) pe_int (fun _ _ => rfl)) pe_int (nomark _))))))
      pss_nil)
      (pss_one (ps_ret (pe_cmpR op_ne (pe_ix ix_tup (pe_ix ix_list (pv 6) pe_int (fun _ _ => rfl)) pe_int (fun _ _ => rfl)) pe_int (nomark _)))))))))), ?_⟩
    show (_ : TS) _ [some (.ref a), some (.int (m : Int)), some (.bl line), some (.ref l), some due, none, none, none, none, none] _
    refine r_seq ?_
    repeat walk_at "st"
    refine r_isi (a := "tuple") (b := "tuple") (r := true) (tyT ta) (by decide +kernel) ?_
    repeat walk_at "st"
    refine ⟨a, _, rfl, .inr ta, ?_⟩
    repeat walk_at "st"
    refine r_iteN (fun c => ?_) (fun c => ?_)
    · exact absurd (by rw [l3]; rfl) c
    repeat walk_at "st"
    with_reducible refine r_cut (fun σ H' => ∃ (y5 : Option V), σ = [some (.ref a), some (.int (m : Int)), some (.bl line), some (.ref l), some due, y5, none, none, none, none] ∧ H' = H) ?U1 ?V1
    case V1 =>
      intro N J
      refine ⟨.ref a, rfl, a, rfl, ⟨fs, ta⟩, ?_⟩
      refine for_tup (xs := fs) (fun i σ H' => ∃ (y5 : Option V), σ = [some (.ref a), some (.int (m : Int)), some (.bl line), some (.ref l), some due, y5, none, none, none, none] ∧ H' = H) ⟨_, rfl, rfl⟩ ?_ ?_ ?_
      · rintro i σ H' _ ⟨_, _, rfl⟩
        exact ta
      · rintro i v σ H' hv ⟨y5, rfl, rfl⟩
        obtain ⟨ff, FF, rfl, f1, f2, f3, f4, f5⟩ := fo i v hv
        have few := f3.few f2
        repeat walk_at "st"
        refine ⟨ff, m, FF, rfl, f1, f2.good f3.okT, by omega, by omega, ?_⟩
        repeat walk_at "st"
        exact ⟨_, rfl, rfl⟩
      · rintro σ H' ⟨y5, rfl, rfl⟩
        exact J _ _ ⟨_, rfl, rfl⟩
    rintro σ H' ⟨y5, rfl, rfl⟩
    refine r_seq ?_
    repeat walk_at "st"
    cases o with
    | none =>
      obtain rfl : due = .non := tr
      refine r_isNN ?_
      repeat walk_at "st"
      exact q H' (Same.refl _)
    | some qq =>
    obtain ⟨ad, rfl, td⟩ := tr
    obtain ⟨s7, pr, nz⟩ := ok qq rfl
    obtain ⟨k, k0, pk⟩ := pr.at
    refine r_isNR ?_
    repeat walk_at "st"
    refine r_lcV ?_
    repeat walk_at "st"
    refine lc_mkV (xs := [0, 1, 2]) (fun H v (i : Nat) => Fo H v m d S (φ i)) (fun _ H v (i : Nat) => Rq K H v (φ i rs) (S + d * b + 12)) (fun s h => h.same s) (fun dd s h => h.but dd s) ta (fos_pair (K := K) (a := a) l3 fo) (by simp) (fun _ => rfl) (fun v i D H1 hi fi g1 hD S' kk => ?_) fun D vs H1 g1 nD eD pv => ?_
    · obtain ⟨ff, FF, rfl, f1, f2, f3, f4, f5⟩ := fi
      have few := f3.few f2
      repeat walk_at "st"
      refine ⟨ff, l, FF, ws, rs, m, S, b, (d : Int), rfl, f1, f3.okT, by omega, by omega, by omega, f4, g1.seq hL, fr.up g1, hm, by omega, hb, by simpa using hS, hb2, hb1, fun r H2 s2 rq => ?_⟩
      rw [f5 rs hm] at rq
      exact kk _ _ s2 (by simpa using rq)
    obtain ⟨c0, c1, c2, rfl, ⟨p0, t0, b0, rfl, r0, n0, e0, x0, z0⟩, ⟨p1, t1, b1, rfl, r1, n1, e1, x1, z1⟩, ⟨p2, t2, b2, rfl, r2, n2, e2, x2, z2⟩⟩ : ∃ c0 c1 c2 : V, vs = [c0, c1, c2] ∧ Rq K H1 c0 (φ 0 rs) (S + d * b + 12) ∧ Rq K H1 c1 (φ 1 rs) (S + d * b + 12) ∧ Rq K H1 c2 (φ 2 rs) (S + d * b + 12) := by
      cases pv with
      | cons h0 pv =>
        cases pv with
        | cons h1 pv =>
          cases pv with
          | cons h2 pv =>
            cases pv
            exact ⟨_, _, _, rfl, h0, h1, h2⟩
    have td1 := g1.tp td
    have at3 : ∀ i : Nat, i < 3 → ∃ (p : Addr) (t b' : Int), atI [V.ref p0, .ref p1, .ref p2] (i : Int) = some (.ref p) ∧ SqT K H1 p [.int t, .int b'] ∧ b' ≠ 0 ∧ Rat.divInt t b' = k * (compT qq i : Rat) ∧ Sm 7200 t ∧ Sm 7200 b' := fun i hi => by
      match i, hi with
      | 0, h => exact ⟨p0, t0, b0, rfl, r0, n0, by rw [← e0]; exact pk 0 h, x0.mono (by omega), z0.mono (by omega)⟩
      | 1, h => exact ⟨p1, t1, b1, rfl, r1, n1, by rw [← e1]; exact pk 1 h, x1.mono (by omega), z1.mono (by omega)⟩
      | 2, h => exact ⟨p2, t2, b2, rfl, r2, n2, by rw [← e2]; exact pk 2 h, x2.mono (by omega), z2.mono (by omega)⟩
    repeat walk_at "st"
    with_reducible refine r_cut (fun σ H' => ∃ (y5 y7 y8 y9 : Option V), σ = [some (.ref a), some (.int (m : Int)), some (.bl line), some (.ref l), some (.ref ad), y5, some (.ref D), y7, y8, y9] ∧ H' = H1) ?U2 ?V2
    case V2 =>
      intro N J
      refine ⟨_, rfl, by decide, by decide, for_range (n := 3) (fun i σ H' => ∃ (y5 y7 y8 y9 : Option V), σ = [some (.ref a), some (.int (m : Int)), some (.bl line), some (.ref l), some (.ref ad), y5, some (.ref D), y7, y8, y9] ∧ H' = H1) ⟨_, _, _, _, rfl, rfl⟩ ?_ ?_⟩
      · rintro i σ H2 hi ⟨y5, y7, y8, y9, rfl, rfl⟩
        obtain ⟨pi, ti, bi, ai, si, ni, ei, xi, zi⟩ := at3 i hi
        have ai' : atI [V.ref p0, .ref p1, .ref p2] (0 + (i : Int)) = some (.ref pi) := by rw [Int.zero_add]; exact ai
        have ci : atI [V.int qq.1, .int qq.2.1, .int qq.2.2] (0 + (i : Int)) = some (.int (compT qq i)) := by rw [Int.zero_add]; exact comp_at hi
        have cis : Sm 7200 (compT qq i) := comp_sm s7
        repeat walk_at "st"
        refine ⟨_, rfl, (i : Int), by rw [Int.zero_add], by omega, by omega, ?_⟩
        refine for_range (n := ((i : Int)).toNat) (fun j σ H' => ∃ (y5 y8 y9 : Option V), σ = [some (.ref a), some (.int (m : Int)), some (.bl line), some (.ref l), some (.ref ad), y5, some (.ref D), some (.int (0 + (i : Int))), y8, y9] ∧ H' = H2) ⟨_, _, _, rfl, rfl⟩ ?_ ?_
        · rintro j σ H3 hj ⟨y5, y8, y9, rfl, rfl⟩
          have hj3 : j < 3 := by omega
          obtain ⟨pj, tj, bj, aj, sj, nj, ej, xj, zj⟩ := at3 j hj3
          have aj' : atI [V.ref p0, .ref p1, .ref p2] (0 + (j : Int)) = some (.ref pj) := by rw [Int.zero_add]; exact aj
          have cj : atI [V.int qq.1, .int qq.2.1, .int qq.2.2] (0 + (j : Int)) = some (.int (compT qq j)) := by rw [Int.zero_add]; exact comp_at hj3
          have cjs : Sm 7200 (compT qq j) := comp_sm s7
          have eqn := cross_fit ni nj ei ej
          repeat walk_at "st"
          refine r_ixL (lstOf eD) ai' ?_
          repeat walk_at "st"
          refine r_ixT td1 cj ?_
          repeat walk_at "st"
          refine r_ixL (lstOf eD) aj' ?_
          repeat walk_at "st"
          refine r_ixL (lstOf eD) aj' ?_
          repeat walk_at "st"
          refine r_ixT td1 ci ?_
          repeat walk_at "st"
          refine r_ixL (lstOf eD) ai' ?_
          repeat walk_at "st"
          rw [decide_eq_true eqn]
          repeat walk_at "st"
          exact ⟨_, _, _, rfl, rfl⟩
        · rintro σ H3 ⟨y5, y8, y9, rfl, rfl⟩
          exact ⟨_, _, _, _, rfl, rfl⟩
      · rintro σ H2 ⟨y5, y7, y8, y9, rfl, rfl⟩
        exact J _ _ ⟨_, _, _, _, rfl, rfl⟩
    rintro σ H2 ⟨y5, y7, y8, y9, rfl, rfl⟩
    have fin := q H2 g1
    have q0 : Rat.divInt t0 b0 = k * (compT qq 0 : Rat) := by rw [← e0]; exact pk 0 (by decide)
    have q1 : Rat.divInt t1 b1 = k * (compT qq 1 : Rat) := by rw [← e1]; exact pk 1 (by decide)
    have q2 : Rat.divInt t2 b2 = k * (compT qq 2 : Rat) := by rw [← e2]; exact pk 2 (by decide)
    refine r_seq ?_
    repeat walk_at "st"
    cases line with
    | true =>
      repeat walk_at "st"
      refine r_iteN (fun c => ?_) (fun c => ?_)
      · exact fin
      repeat walk_at "st"
      have c1 : t1 ≠ 0 := by
        rcases (show qq.1 ≠ 0 ∨ qq.2.1 ≠ 0 from nz) with h | h
        · exact absurd c (top_nz n0 k0 q0 h)
        · exact top_nz n1 k0 q1 h
      rw [decide_eq_false c1]
      exact fin
    | false =>
      repeat walk_at "st"
      have c2 : t2 ≠ 0 := top_nz n2 k0 q2 (show qq.2.2 ≠ 0 from nz)
      rw [decide_eq_false c2]
      exact fin
  ) only [↓Mb.dischW]
theorem ok_look (F : Fn K mg "_law_look" s_look) (G_part : Kn P w K mg base 2 "_law_part" ["_law_row", "_law_name_here"] (spPartQ K)) (G_worked : Kn P w K mg base 9 "worked" ["row", "name"] (spWorked K)) (G_l_spot : Kn P w K mg base 5 "_law_spot" ["_law_pool_here", "_law_had"] (spSpotH K)) (G_sort : Kn P w K mg base 1 "_law_sort" ["_law_making"] (spSortL K)) (G_got : Kn P w K mg base 2 "_law_got" ["_law_part_here", "_law_spots"] (spGotT K)) (G_fit : Kn P w K mg base 3 "_law_fit" ["_law_found", "_law_many", "_law_line", "_law_numbers", "_law_due"] (spFitT K)) (z_len : mg "len" = none) (z_list : mg "list" = none) (z_max : mg "max" = none) (z_range : mg "range" = none) : Kn P w K mg base 10 "_law_look" ["_law_pool_here", "_law_row", "_law_name_here"] (spLookT K) := by
  refine Mb.ofW ?_
  simp (discharger := with_unfolding_all
    refine F.kn sc_look (fun vs H Q E h => ?_) (fun f cdv A0 outer s H vs Q E hr h => ?_) (fun _ _ _ _ _ _ us hl => match us, hl with | [_, _, _], _ => rfl)
    · obtain ⟨p, l, z, b, us, ts, W, n, rfl, _⟩ := h
      rfl
    obtain ⟨p, l, z, b, us, ts, W, n, rfl, hp, hb, eL, nl, rw_, hn, vp, w1, w40, hfr, n5, wm, hz, q⟩ := h
    have vr := vp.vr (show (W : Int) ≤ 40 by omega)
    obtain ⟨ask, fwok, m6, hc, w24, hZ, f1, f2⟩ := vp.askd w40 hz hfr n5 wm
    have vpR := vp.root (z := z) (show (W : Int) ≤ 40 by omega)
    obtain ⟨aR, tR, eR, etz, _⟩ := root_last (show (W : Int) ≤ 40 by omega) vp hz
    have wk := wm _ f1 f2
    have lR : (rootQ z ts).length ≤ 60 := Nat.le_trans (List.length_filter_le _ _) hn
    have zs : Sok z := vr.sok z (by rw [nmsQ]; exact hz)
    refine ⟨_, (pss_cons (ps_set (i := 3) sc_look.nd rfl (.inl rfl) (pe_kn G_part (hr.mono (by decide)) (by rfl) (pa_cons (pv 1) (pa_cons (pv 2) pa_nil))))
      (pss_cons (ps_setLc (i := 4) (own := [("_law_one", 5), ("_law_making", 6)]) (g := gTup K 2 (gCons (gName 5) (gCons (gName 6) gNil))) (by rfl) sc_look.nd rfl rfl (sw_true rfl rfl rfl (by decide +kernel)) (pi_list (pv 3)) (blkOk_by (own := [("_law_one", 5), ("_law_making", 6)]) (N := ["_law_pool_here", "_law_row", "_law_name_here", "_law_part_here", "_law_frees", "_law_one", "_law_making", "_law_many", "_law_handed", "_law_found", "_law_turn", "_law_spots", "_law_had", "_law_k", "_law_numbers", "_law_x", "_law_y", "_law_line"]) (sc := (defScope s_look)) (by decide +kernel)) (fun _ _ _ _ _ => pg_tup (by rfl) (pgs_cons (pg_name (i := 5) sc_look.nd rfl (.inl rfl)) (pgs_cons (pg_name (i := 6) sc_look.nd rfl (.inl rfl)) pgs_nil))) (fun _ _ _ _ _ => pts_one (pt_cmpR op_eq (pe_ix (show IxR _ (rIxT K) from ix_tup) (pv 6) pe_int (fun _ _ => rfl)) pe_str (nomark _))) (fun _ _ _ _ _ => (pv 5)))
      (pss_cons (ps_set (i := 7) sc_look.nd rfl (.inl rfl) (pe_callB (call_max2 (by rfl)) (by rfl) z_max (by decide +kernel) (pa_cons pe_int (pa_cons (pe_op op_sub (pe_op op_mulW pe_int (pe_callB call_len_seq (by rfl) z_len (by decide +kernel) (pa_cons (pv 4) pa_nil))) pe_int) pa_nil))))
      (pss_cons (ps_set (i := 8) sc_look.nd rfl (.inl rfl) (pe_callTy call_list_of (by rfl) z_list (by decide +kernel) (pa_cons (pv 1) pa_nil)))
      (pss_cons (ps_set (i := 9) sc_look.nd rfl (.inl rfl) (pe_kn G_worked (hr.mono (by decide)) (by rfl) (pa_cons (pv 8) (pa_cons (pv 2) pa_nil))))
      (pss_cons (ps_if (pt_cmpR (op_neD hr.units) (pv 8) (pv 1) (nomark _))
      (pss_one (ps_ret pe_bl))
      pss_nil)
      (pss_cons (ps_for PassesOwn.never rfl (pi_range1 (by rfl) z_range (pa_cons pe_int pa_nil)) (pg_name (i := 10) sc_look.nd rfl (.inl rfl))
      (pss_cons (ps_set (i := 11) sc_look.nd rfl (.inl rfl) pe_dnewK)
      (pss_cons (ps_set (i := 12) sc_look.nd rfl (.inl rfl) (pe_lst (pa_cons (pe_tup (pa_cons (pe_tup (pa_cons pe_int (pa_cons pe_int pa_nil))) (pa_cons (pe_tup (pa_cons pe_int (pa_cons pe_int pa_nil))) pa_nil))) (pa_cons (pe_tup (pa_cons (pe_tup (pa_cons pe_int (pa_cons pe_int pa_nil))) (pa_cons (pe_tup (pa_cons pe_int (pa_cons pe_int pa_nil))) pa_nil))) pa_nil))))
      (pss_cons (ps_for PassesOwn.never rfl (pi_range1 (by rfl) z_range (pa_cons (pe_callB call_len_seq (by rfl) z_len (by decide +kernel) (pa_cons (pv 4) pa_nil)) pa_nil)) (pg_name (i := 13) sc_look.nd rfl (.inl rfl))
      (pss_cons (ps_if (pt_cmpR op_gt (pv 13) pe_int (nomark _))
      (pss_one (ps_expr (pe_bm PySem.F.plainAttrs_list PySem.F.slot_list_append PySem.F.type_list_append mt_append (pv 12) (pa_cons (pe_kn G_l_spot (hr.mono (by decide)) (by rfl) (pa_cons (pv 0) (pa_cons (pv 12) pa_nil))) pa_nil))))
      pss_nil)
      (pss_one (ps_dput (u1 hr.units) (pv 11) (pe_ix ix_list (pv 4) (pv 13) (fun _ _ => rfl)) (pe_ix ix_list (pv 12) (pv 13) (fun _ _ => rfl)) (by rfl)))))
      (pss_cons (ps_set (i := 14) sc_look.nd rfl (.inl rfl) (pe_lst pa_nil))
      (pss_cons (ps_for PassesOwn.never rfl (pi_list (pe_slice sl_list (pv 12) (po_some pe_int) po_none)) (pg_tup (by rfl) (pgs_cons (pg_name (i := 15) sc_look.nd rfl (.inl rfl)) (pgs_cons (pg_name (i := 16) sc_look.nd rfl (.inl rfl)) pgs_nil)))
      (pss_cons (ps_expr (pe_bm PySem.F.plainAttrs_list PySem.F.slot_list_append PySem.F.type_list_append mt_append (pv 14) (pa_cons (pv 15) pa_nil)))
      (pss_one (ps_expr (pe_bm PySem.F.plainAttrs_list PySem.F.slot_list_append PySem.F.type_list_append mt_append (pv 14) (pa_cons (pv 16) pa_nil))))))
      (pss_cons (ps_set (i := 17) sc_look.nd rfl (.inl rfl) (pe_cmpR op_eq (pe_kn G_sort (hr.mono (by decide)) (by rfl) (pa_cons (pe_ix ix_tup (pe_ix ix_list (pv 3) (pe_un un_neg pe_int) (fun _ _ => rfl)) pe_int (fun _ _ => rfl)) pa_nil)) pe_str (nomark _)))
      (pss_one (ps_if (pt_not (pt_val (pe_kn G_fit (hr.mono (by decide)) (by rfl) (pa_cons (pv 9) (pa_cons (pv 7) (pa_cons (pv 17) (pa_cons (pv 14) (pa_cons (pe_dget (u1 hr.units) (pe_kn G_got (hr.mono (by decide)) (by rfl) (pa_cons (pv 3) (pa_cons (pv 11) pa_nil))) (pv 2) (fun _ _ => rfl)) pa_nil))))))))
      (pss_one (ps_ret pe_bl))
      pss_nil)))))))))
      (pss_one (ps_ret pe_bl))))))))), ?_⟩
    show (_ : TS) _ [some (.ref p), some (.ref l), some (.str z), none, none, none, none, none, none, none, none, none, none, none, none, none, none, none] _
    repeat walk_at "st"
    refine ⟨l, z, us, ts, rfl, lstOf eL, rw_, vr, hn, fun D vsP H1 s1 nD eD rwP => ?_⟩
    rw [part_rootQ vr] at rwP
    have nDp := hp.ne2 nD
    generalize hR : rootQ z ts = R at *
    have lvR := rwP.len
    repeat walk_at "st"
    refine r_lcM ?_
    repeat walk_at "st"
    refine lc_things freeB (fun t => .str t.1) (lstOf eD) rwP.rws (by omega) (fun _ _ => rfl) (fun n t m H' _ g mk Rr k => ?_) (fun n t m H' _ g mk Rr k => ?_) fun Fr H2 s2 nF eF => ?_
    · obtain ⟨r, tm, tl⟩ := mk
      show tTest _ _ H' Rr
      repeat walk_at "st"
      refine r_ixT0 tm ?_
      repeat walk_at "st"
      exact k H' (Same.refl _)
    · repeat walk_at "st"
      exact k H' (Same.refl _)
    have nFp := (hp.same s1).ne2 nF
    have efr : ((R.map thOf).filter freeB).length = frN R := rfl
    generalize efs : (((R.map thOf).filter freeB).map (·.1)) = fr at *
    have lfr : fr.length = frN R := by rw [← efs, List.length_map]; rfl
    have ndF : fr.Nodup := by rw [← efs]; exact frees_nd vpR.nd
    replace eF : H2 Fr = some (.lst (fr.map V.str)) := by rw [eF, ← efs, List.map_map]; rfl
    repeat walk_at "st"
    refine ⟨Fr, _, rfl, .inl (lstOf eF), ?_⟩
    rw [List.length_map, lfr]
    have cmm : CMulW 2 ((frN R : Nat) : Int) := cm_small (by decide) (by omega)
    repeat walk_at "st"
    refine ⟨_, _, rfl, ?_⟩
    have emn : (if (2 * ((frN R : Nat) : Int) - 4) > 0 then 2 * ((frN R : Nat) : Int) - 4 else 0) = ((manyN R : Nat) : Int) := by
      unfold manyN
      split <;> omega
    rw [emn]
    repeat walk_at "st"
    refine ⟨l, us, rfl, .inl (lstOf ((s1.trans s2) _ _ eL)), fun Ha nHa => ?_⟩
    obtain ⟨H3, e3, s3, k3⟩ := nw nHa (.lst us)
    rw [← e3]
    clear e3
    have s13 := s1.trans (s2.trans s3)
    repeat walk_at "st"
    refine ⟨Ha, z, us, ts, W, rfl, lstOf k3, rw_.kp (Kp.same s13), vr, hn, Nat.le_trans zs.1.1 (by decide), by rw [nmsQ]; exact hz, ask, by rw [hR]; exact fwok, by rw [hR]; exact m6, by rw [hR]; exact hc, w1, w24, by rw [hR]; exact hZ, fun vf H4 s4 fe => ?_⟩
    rw [hR] at fe
    have s14 := s13.trans s4
    repeat walk_at "st"
    refine r_seq ?_
    repeat walk_at "st"
    refine r_neRow (lstOf (s4 _ _ k3)) (lstOf (s14 _ _ eL)) (rw_.kp (Kp.same s14)).rws vr ?_
    repeat walk_at "st"
    replace eD := (s2.trans (s3.trans s4)) _ _ eD
    replace eF := (s3.trans s4) _ _ eF
    replace rwP := rwP.kp (Kp.same (s2.trans (s3.trans s4)))
    replace hp := hp.same s14
    have g4 : But p H H4 := But.same s14
    have hsh := rwq_sh rwP
    clear s1 s2 s3 s4 s13 s14 k3 nHa rw_ eL nF nD
    with_reducible refine r_cut (fun σ H' => ∃ (y10 y11 y12 y13 y14 y15 y16 y17 : Option V) (b' : Int), σ = [some (.ref p), some (.ref l), some (.str z), some (.ref D), some (.ref Fr), none, none, some (.int ((manyN R : Nat) : Int)), some (.ref Ha), some vf, y10, y11, y12, y13, y14, y15, y16, y17] ∧ But p H4 H' ∧ Pl H' p b' ∧ b' ≤ b + 4000) ?U1 ?V1
    case V1 =>
      intro N J
      refine ⟨_, rfl, by decide, by decide, for_range (n := 2) (fun i σ H' => ∃ (y10 y11 y12 y13 y14 y15 y16 y17 : Option V) (b' : Int), σ = [some (.ref p), some (.ref l), some (.str z), some (.ref D), some (.ref Fr), none, none, some (.int ((manyN R : Nat) : Int)), some (.ref Ha), some vf, y10, y11, y12, y13, y14, y15, y16, y17] ∧ But p H4 H' ∧ Pl H' p b' ∧ b' ≤ b + 1000 * i) ⟨_, _, _, _, _, _, _, _, b, rfl, But.refl _ _, hp, by omega⟩ ?_ ?_⟩
      · rintro i2 σ Ht hi2 ⟨y10, y11, y12, y13, y14, y15, y16, y17, bt, rfl, kt, hpt, hbt⟩
        have gw := Gw.but (K := K) kt hp
        replace eD := kt _ _ (fun e => nDp e.symm) eD
        replace eF := kt _ _ (fun e => nFp e.symm) eF
        replace rwP := rwP.kp gw.p
        replace fe := fe.gw gw
        clear J gw
        repeat walk_at "st"
        refine fun S nS => ?_
        obtain ⟨h1, e1, s1, k1⟩ := nw nS (.dK (formD []))
        rw [show (HO.dK []) = .dK (formD []) from rfl, ← e1]
        clear e1
        have nSp := hpt.ne2 nS
        repeat walk_at "st"
        refine ⟨sz rfl, fun a1 na1 => ?_⟩
        obtain ⟨h2, e2, s2, k2⟩ := nw na1 (.tup [V.int 0, .int 1])
        rw [← e2]
        clear e2
        repeat walk_at "st"
        refine ⟨sz rfl, fun a2 na2 => ?_⟩
        obtain ⟨h3, e3, s3, k3⟩ := nw na2 (.tup [V.int 0, .int 1])
        rw [← e3]
        clear e3
        repeat walk_at "st"
        refine ⟨sz rfl, fun a3 na3 => ?_⟩
        obtain ⟨h4, e4, s4, k4⟩ := nw na3 (.tup [V.ref a1, .ref a2])
        rw [← e4]
        clear e4
        repeat walk_at "st"
        refine ⟨sz rfl, fun a4 na4 => ?_⟩
        obtain ⟨h5, e5, s5, k5⟩ := nw na4 (.tup [V.int 1, .int 1])
        rw [← e5]
        clear e5
        repeat walk_at "st"
        refine ⟨sz rfl, fun a5 na5 => ?_⟩
        obtain ⟨h6, e6, s6, k6⟩ := nw na5 (.tup [V.int 0, .int 1])
        rw [← e6]
        clear e6
        repeat walk_at "st"
        refine ⟨sz rfl, fun a6 na6 => ?_⟩
        obtain ⟨h7, e7, s7, k7⟩ := nw na6 (.tup [V.ref a4, .ref a5])
        rw [← e7]
        clear e7
        repeat walk_at "st"
        refine ⟨sz rfl, fun Hd nHd => ?_⟩
        obtain ⟨h8, e8, s8, k8⟩ := nw nHd (.lst [V.ref a3, .ref a6])
        rw [← e8]
        clear e8
        have s28 := s2.trans (s3.trans (s4.trans (s5.trans (s6.trans (s7.trans s8)))))
        have s18 := s1.trans s28
        have nHd0 : Ht Hd = none := (s1.trans (s2.trans (s3.trans (s4.trans (s5.trans (s6.trans s7)))))).free nHd
        have nHdp := hpt.ne2 nHd0
        have nSH : S ≠ Hd := fun e => by
          rw [← e] at nHd
          have := (s2.trans (s3.trans (s4.trans (s5.trans (s6.trans s7))))) _ _ k1
          rw [nHd] at this
          cases this
        have pls0 : Pls K h8 [.ref a3, .ref a6] [(0, 0), (1, 0)] := .cons ⟨a3, _, _, rfl, tupOf ((s5.trans (s6.trans (s7.trans s8))) _ _ k4), ⟨a1, rfl, tupOf ((s3.trans (s4.trans (s5.trans (s6.trans (s7.trans s8))))) _ _ k2)⟩, ⟨a2, rfl, tupOf ((s4.trans (s5.trans (s6.trans (s7.trans s8)))) _ _ k3)⟩⟩ (.cons ⟨a6, _, _, rfl, tupOf (s8 _ _ k7), ⟨a4, rfl, tupOf ((s6.trans (s7.trans s8)) _ _ k5)⟩, ⟨a5, rfl, tupOf ((s7.trans s8) _ _ k6)⟩⟩ .nil)
        have had0 : Had [(0, 0), (1, 0)] := ⟨⟨[], rfl⟩, fun j q hq => by
          match j, hq with
          | 0, hq => cases hq; exact ⟨⟨by decide, by decide⟩, ⟨by decide, by decide⟩⟩
          | 1, hq => cases hq; exact ⟨⟨by decide, by decide⟩, ⟨by decide, by decide⟩⟩⟩
        have kS := s28 _ _ k1
        have b8 : But p Ht h8 := But.same s18
        have hp8 := hpt.same s18
        clear s1 s2 s3 s4 s5 s6 s7 s8 s28 k1 k2 k3 k4 k5 k6 k7 na1 na2 na3 na4 na5 na6 nHd
        repeat walk_at "st"
        with_reducible refine r_cut (fun σ H' => ∃ (y13 : Option V) (b' : Int) (vs' : List V) (hs : List (Rat × Rat)), σ = [some (.ref p), some (.ref l), some (.str z), some (.ref D), some (.ref Fr), none, none, some (.int ((manyN R : Nat) : Int)), some (.ref Ha), some vf, some (.int (0 + (i2 : Int))), some (.ref S), some (.ref Hd), y13, y14, y15, y16, y17] ∧ But p Ht H' ∧ Pl H' p b' ∧ b' ≤ bt + 600 ∧ H' Hd = some (.lst vs') ∧ Pls K H' vs' hs ∧ Had hs ∧ hs.length = max 2 (frN R) ∧ H' S = some (.dK (formD (fr.zip vs')))) ?U2 ?V2
        case V2 =>
          intro N J
          unfold tFor iRng1
          repeat walk_at "st"
          refine ⟨Fr, _, rfl, .inl (lstOf (b8 _ _ (fun e => nFp e.symm) eF)), ?_⟩
          repeat walk_at "st"
          rw [List.length_map]
          refine ⟨((fr.length : Nat) : Int), rfl, by omega, by omega, ?_⟩
          rw [show ((fr.length : Nat) : Int).toNat = fr.length from by omega]
          refine for_range (n := fr.length) (fun i σ H' => ∃ (y13 : Option V) (b' : Int) (vs' : List V) (hs : List (Rat × Rat)), σ = [some (.ref p), some (.ref l), some (.str z), some (.ref D), some (.ref Fr), none, none, some (.int ((manyN R : Nat) : Int)), some (.ref Ha), some vf, some (.int (0 + (i2 : Int))), some (.ref S), some (.ref Hd), y13, y14, y15, y16, y17] ∧ But p Ht H' ∧ Pl H' p b' ∧ b' ≤ bt + 100 * i ∧ H' Hd = some (.lst vs') ∧ Pls K H' vs' hs ∧ Had hs ∧ hs.length = max 2 i ∧ H' S = some (.dK (formD ((fr.take i).zip vs')))) ?_ ?_ ?_
          · exact ⟨_, bt, _, _, rfl, b8, hp8, by omega, k8, pls0, had0, rfl, by rw [List.take_zero]; exact kS⟩
          · rintro i σ H5 hi ⟨y13, b5, vs', hs, rfl, b5t, hp5, hb5, e5, pls, had, lhs, eS⟩
            clear k8 pls0 had0 kS b8 hp8 s18 J
            have lvs : vs'.length = hs.length := Paired.length pls
            have eF5 := b5t _ _ (fun e => nFp e.symm) eF
            repeat walk_at "st"
            with_reducible refine r_cut (fun σ H' => ∃ (b' : Int) (vs' : List V) (hs : List (Rat × Rat)), σ = [some (.ref p), some (.ref l), some (.str z), some (.ref D), some (.ref Fr), none, none, some (.int ((manyN R : Nat) : Int)), some (.ref Ha), some vf, some (.int (0 + (i2 : Int))), some (.ref S), some (.ref Hd), some (.int (0 + (i : Int))), y14, y15, y16, y17] ∧ But p Ht H' ∧ Pl H' p b' ∧ b' ≤ bt + 100 * i + 100 ∧ H' Hd = some (.lst vs') ∧ Pls K H' vs' hs ∧ Had hs ∧ hs.length = max 2 (i + 1) ∧ H' S = some (.dK (formD ((fr.take i).zip vs')))) ?U3 ?V3
            case V3 =>
              intro N J
              repeat walk_at "st"
              refine r_ite (fun c => ?_) (fun c => ?_)
              · have i2' : 2 ≤ i := by omega
                have i4 : i ≤ 4 := by omega
                have lh : hs.length = i := by omega
                repeat walk_at "st"
                refine r_bm ?_
                repeat walk_at "st"
                refine ⟨.inl ⟨rfl, _, lstOf e5⟩, ?_⟩
                repeat walk_at "st"
                have sn : szN (i - 1) ≤ 200 := Nat.le_trans szN_le (by decide)
                refine ⟨p, Hd, b5, vs', hs, szN (i - 1), rfl, hp5, by omega, e5, pls, had.all lh i2' i4, sn, by omega, nHdp, fun v x y b6 H6 k6 hp6 hb6 pq szp => ?_⟩
                have e6 := k6 _ _ (fun e => nHdp e.symm) e5
                have eS6 := k6 _ _ (fun e => nSp e.symm) eS
                repeat walk_at "st"
                refine ⟨Hd, _, v, rfl, rfl, e6, Nat.lt_of_le_of_lt (show vs'.length ≤ 1000 by omega) (by decide), ?_⟩
                obtain ⟨H7, e7, k7⟩ : ∃ H7, H7 = upd H6 Hd (.lst (vs' ++ [v])) ∧ H7 Hd = some (.lst (vs' ++ [v])) := ⟨_, rfl, upd_same⟩
                have kp7 : Kp K H6 H7 := by rw [e7]; exact kp_list e6
                have bt7 : But p Ht H7 := by rw [e7]; exact but_updR (b5t.trans k6) nHd0
                have hp7 : Pl H7 p b6 := by rw [e7]; exact hp6.updR nHdp
                have eS7 : H7 S = some (.dK (formD ((fr.take i).zip vs'))) := by rw [e7, upd_ne nSH]; exact eS6
                rw [← e7]
                clear e7
                repeat walk_at "st"
                refine J _ _ ⟨b6, vs' ++ [v], hs ++ [(x, y)], rfl, bt7, hp7, by omega, k7, paired_snocT ((pls.kp (Kp.but k6 hp5)).kp kp7) (pq.kp kp7), had_snoc had lh ⟨szp.1.mono (szN_next i2' i4), szp.2.mono (szN_next i2' i4)⟩, by rw [List.length_append, lh]; simp only [List.length_cons, List.length_nil]; omega, ?_⟩
                rw [zip_more (by rw [List.length_take]; omega)]
                exact eS7
              · repeat walk_at "st"
                exact J _ _ ⟨b5, vs', hs, rfl, b5t, hp5, by omega, e5, pls, had, by omega, eS⟩
            rintro σ H6 ⟨b6, vs6, hs6, rfl, b6t, hp6, hb6, e6, pls6, had6, lhs6, eS6⟩
            clear pls had lhs eS e5 lvs b5t hp5 eF5
            have lv6 : vs6.length = hs6.length := Paired.length pls6
            obtain ⟨v, hv⟩ : ∃ v, vs6[i]? = some v := ⟨_, List.getElem?_eq_getElem (by omega)⟩
            obtain ⟨x, hx⟩ : ∃ x, fr[i]? = some x := ⟨_, List.getElem?_eq_getElem hi⟩
            have eF6 := b6t _ _ (fun e => nFp e.symm) eF
            repeat walk_at "st"
            refine r_dput ?_
            repeat walk_at "st"
            refine r_ixL (v := v) (lstOf e6) (by rw [Int.zero_add]; exact atI_nat hv) ?_
            repeat walk_at "st"
            refine r_ixL (v := .str x) (lstOf eF6) (by rw [Int.zero_add]; exact atI_nat (by rw [List.getElem?_map, hx]; rfl)) ?_
            have xn : x ∉ ((fr.take i).zip vs6).map (·.1) := fun h => by
              have h1 := zip_nms x h
              obtain ⟨j, hj⟩ := List.getElem?_of_mem h1
              have hj' := hj
              rw [List.getElem?_take] at hj'
              split at hj'
              · rename_i hji
                obtain ⟨l1, e1⟩ := List.getElem?_eq_some_iff.mp hj'
                obtain ⟨l2, e2⟩ := List.getElem?_eq_some_iff.mp hx
                have := (List.getElem_inj ndF).mp (e1.trans e2.symm)
                omega
              · cases hj'
            have lz : ((fr.take i).zip vs6).length ≤ 60 := by rw [List.length_zip, List.length_take]; omega
            refine ⟨S, _, rfl, DPut.k (k := .inr x) eS6 (by unfold formD; rw [List.length_map]; exact Nat.lt_of_le_of_lt (show _ ≤ 1000 by omega) (by decide)), ?_⟩
            rw [form_put xn, ← zip_snoc hx hv]
            have kp7 : Kp K H6 (upd H6 S (.dK (formD ((fr.take (i + 1)).zip vs6)))) := kp_dict eS6
            exact ⟨_, b6, vs6, hs6, rfl, but_updR b6t nS, hp6.updR nSp, by omega, by rw [upd_ne (fun e => nSH e.symm)]; exact e6, pls6.kp kp7, had6, lhs6, upd_same⟩
          · rintro σ H5 ⟨y13, b5, vs', hs, rfl, b5t, hp5, hb5, e5, pls, had, lhs, eS⟩
            rw [List.take_length] at eS
            exact J _ _ ⟨_, b5, vs', hs, rfl, b5t, hp5, by omega, e5, pls, had, by omega, eS⟩
        clear k8 pls0 had0 kS b8 hp8 s18
        rintro σ H5 ⟨y13, b5, vs', hs, rfl, b5t, hp5, hb5, e5, pls, had, lhs, eS⟩
        have lvs : vs'.length = hs.length := Paired.length pls
        repeat walk_at "st"
        refine ⟨sz rfl, fun Nm nNm => ?_⟩
        obtain ⟨H6, e6, s6, k6⟩ := nw nNm (.lst [])
        rw [← e6]
        clear e6
        have nNm0 : Ht Nm = none := by
          refine but_free b5t hp5 nNm
        have nNmp := hpt.ne2 nNm0
        repeat walk_at "st"
        have hbw : ∀ i, i ≤ (vs'.drop 2).length → i + 2 ≤ 5 := fun i hi => by rw [List.length_drop] at hi; omega
        with_reducible refine r_cut (fun σ H' => ∃ (y15 y16 : Option V) (ws : List V), σ = [some (.ref p), some (.ref l), some (.str z), some (.ref D), some (.ref Fr), none, none, some (.int ((manyN R : Nat) : Int)), some (.ref Ha), some vf, some (.int (0 + (i2 : Int))), some (.ref S), some (.ref Hd), y13, some (.ref Nm), y15, y16, y17] ∧ But Nm H6 H' ∧ H' Nm = some (.lst ws) ∧ Frs K H' ws (flatP (hs.drop 2)) ∧ Bt (flatP (hs.drop 2)) (bN (hs.length))) ?U4 ?V4
        case V4 =>
          intro N J
          unfold tFor iList
          repeat walk_at "st"
          refine r_slR ?_
          repeat walk_at "st"
          refine r_partR ?_
          repeat walk_at "st"
          refine r_noPart ?_
          refine ⟨Hd, _, rfl, lstOf (s6 _ _ e5), fun Sl nSl => ?_⟩
          rw [show cutV vs' (some 2) none = vs'.drop 2 from cut_drop (a := 1) (by omega)]
          obtain ⟨H7, e7, s7, k7⟩ := nw nSl (.lst (vs'.drop 2))
          rw [← e7]
          clear e7
          have nSN : Sl ≠ Nm := fun e => by rw [e, k6] at nSl; cases nSl
          refine ⟨Sl, rfl, ⟨_, lstOf k7⟩, ?_⟩
          have plsD : Pls K H7 (vs'.drop 2) (hs.drop 2) := paired_drop 2 (pls.kp (Kp.same (s6.trans s7)))
          have lD : (vs'.drop 2).length = (hs.drop 2).length := Paired.length plsD
          have k67 := s7 _ _ k6
          refine for_list (xs := vs'.drop 2) (fun i σ H' => ∃ (y15 y16 : Option V) (ws : List V), σ = [some (.ref p), some (.ref l), some (.str z), some (.ref D), some (.ref Fr), none, none, some (.int ((manyN R : Nat) : Int)), some (.ref Ha), some vf, some (.int (0 + (i2 : Int))), some (.ref S), some (.ref Hd), y13, some (.ref Nm), y15, y16, y17] ∧ But Nm H7 H' ∧ H' Nm = some (.lst ws) ∧ Frs K H' ws (flatP ((hs.drop 2).take i)) ∧ Bt (flatP ((hs.drop 2).take i)) (bN (2 + i)) ∧ ws.length ≤ 2 * i) ?_ ?_ ?_ ?_
          · exact ⟨_, _, [], rfl, But.refl _ _, k67, by rw [List.take_zero]; exact .nil, by rw [List.take_zero]; exact trivial, by simp⟩
          · rintro i σ H' _ ⟨_, _, _, _, g', _⟩
            exact lstOf (g' _ _ nSN k7)
          · rintro i v σ H8 hv ⟨y15, y16, ws, rfl, b8, e8, fr8, bt8, lw⟩
            have hi5 := hbw (i + 1) (List.getElem?_eq_some_iff.mp hv).1
            have kp8 := kp_butL (K := K) b8 k67
            obtain ⟨qq, hq, pq⟩ := LiI.paired_get plsD hv
            have hq' : hs[2 + i]? = some qq := by rw [← List.getElem?_drop]; exact hq
            have szq := had.sz _ _ hq'
            have ea : (hs.drop 2).take (i + 1) = (hs.drop 2).take i ++ [qq] := by rw [List.take_succ, hq, Option.toList_some]
            have fl1 : flatP ((hs.drop 2).take (i + 1)) = (flatP ((hs.drop 2).take i) ++ [qq.1]) ++ [qq.2] := by rw [ea, flat_app, List.append_assoc]; rfl
            obtain ⟨ap, f1', f2', rfl, tp, fx, fy⟩ := pq.kp kp8
            refine r_gT tp rfl ?_
            refine r_g2 ?_
            repeat walk_at "st"
            refine r_bm ?_
            repeat walk_at "st"
            refine ⟨.inl ⟨rfl, _, lstOf e8⟩, ?_⟩
            repeat walk_at "st"
            refine ⟨Nm, _, f1', rfl, rfl, e8, Nat.lt_of_le_of_lt (show ws.length ≤ 1000 by omega) (by decide), ?_⟩
            have b9 : But Nm H8 (upd H8 Nm (.lst (ws ++ [f1']))) := But.upd _ _ _
            have fr9 := (fr8.but e8 b9).snoc (fx.but e8 b9)
            have fy9 := fy.but e8 b9
            have e9 : upd H8 Nm (.lst (ws ++ [f1'])) Nm = some (.lst (ws ++ [f1'])) := upd_same
            generalize upd H8 Nm (.lst (ws ++ [f1'])) = H9 at *
            repeat walk_at "st"
            refine r_bm ?_
            repeat walk_at "st"
            refine ⟨.inl ⟨rfl, _, lstOf e9⟩, ?_⟩
            repeat walk_at "st"
            refine ⟨Nm, _, f2', rfl, rfl, e9, Nat.lt_of_le_of_lt (show (ws ++ [f1']).length ≤ 1000 by rw [List.length_append]; simp only [List.length_cons, List.length_nil]; omega) (by decide), ?_⟩
            have b10 : But Nm H9 (upd H9 Nm (.lst (ws ++ [f1'] ++ [f2']))) := But.upd _ _ _
            refine ⟨_, _, ws ++ [f1'] ++ [f2'], rfl, (b8.trans b9).trans b10, upd_same, ?_, ?_, ?_⟩
            · rw [fl1]
              exact (fr9.but e9 b10).snoc (fy9.but e9 b10)
            · rw [fl1]
              have bs := (bN_step (j := i) (by omega)).1
              have := (bt8.snoc szq.1).snoc szq.2
              rw [show bN (2 + (i + 1)) = bN (2 + i) + szN (2 + i) + szN (2 + i) by rw [show 2 + (i + 1) = i + 3 by omega, show 2 + i = i + 2 by omega]; exact bs.symm]
              exact this
            · rw [List.length_append, List.length_append]
              simp only [List.length_cons, List.length_nil]
              omega
          · rintro σ H8 ⟨y15, y16, ws, rfl, b8, e8, fr8, bt8, lw⟩
            rw [lD, List.take_length] at fr8 bt8
            rw [show 2 + (hs.drop 2).length = hs.length by rw [List.length_drop]; omega] at bt8
            exact J _ _ ⟨_, _, ws, rfl, (But.same s7).trans b8, e8, fr8, bt8⟩
        rintro σ H7 ⟨y15, y16, ws, rfl, b7, e7, fr7, bt7⟩
        have kp7 := kp_butL (K := K) b7 k6
        have kp57 := (Kp.same (K := K) s6).trans kp7
        have kpt7 := (Kp.but (K := K) b5t hpt).trans kp57
        have off7 : ∀ {a : Addr} {o : HO}, a ≠ Nm → H5 a = some o → H7 a = some o := fun hn h => b7 _ _ hn (s6 _ _ h)
        have nm5 : ∀ {a : Addr} {o : HO}, H5 a = some o → a ≠ Nm := fun h e => by rw [e, nNm] at h; cases h
        have eD5 := b5t _ _ (fun e => nDp e.symm) eD
        have eD7 := off7 (nm5 eD5) eD5
        have eS7 := off7 (nm5 eS) eS
        have rw7 := rwP.kp kpt7
        have lP : vsP.length = aR.length + 1 := by rw [lvR, eR, List.length_append]; rfl
        obtain ⟨vl, hvl⟩ : ∃ v, vsP[aR.length]? = some v := ⟨_, List.getElem?_eq_getElem (by omega)⟩
        obtain ⟨t', ht', al, ml, rfl, tl, mq⟩ := rw7.at hvl
        obtain rfl : tR = t' := by rw [eR, List.getElem?_append_right (Nat.le_refl _), Nat.sub_self] at ht'; exact Option.some.inj ht'
        have evP : vsP = vsP.take aR.length ++ [.ref al] := by
          have h1 : vsP.take (aR.length + 1) = vsP.take aR.length ++ [.ref al] := by rw [List.take_succ, hvl]; rfl
          rw [← h1, ← lP, List.take_length]
        have okl := (vpR.at ht').2.2.1.okm
        repeat walk_at "st"
        refine r_ixL (v := .ref al) (lstOf eD7) (by rw [evP]; exact at_last) ?_
        repeat walk_at "st"
        refine ⟨ml, tR.2.1, tR.2.2.1, _, rfl, mq.mk, okl, fun H8 s8 => ?_⟩
        repeat walk_at "st"
        have spt : Spt (spOf fr hs) (flatP (hs.drop 2)) 0 R := by rw [← efs]; exact had.spt vpR.nd (by omega)
        have kp8 := Kp.same (K := K) s8
        have pls8 := (pls.kp kp57).kp kp8
        have sps : Sps K H8 (fr.zip vs') (spOf fr hs) R := by rw [← efs]; exact had.sps vpR.nd pls8 (by omega)
        refine r_dg ?_
        repeat walk_at "st"
        refine ⟨D, S, vsP, R, (W : Int), fr.zip vs', spOf fr hs, rfl, lstOf (s8 _ _ eD7), rw7.kp kp8, lR, vpR, s8 _ _ eS7, sps, small_of vpR w24 hsh spt, fun G tv H9 s9 nG eG gs => ?_⟩
        obtain ⟨hzg, due⟩ := due_fit vpR w24 hsh spt eR
        rw [etz] at hzg due
        repeat walk_at "st"
        refine ⟨G, _, rfl, get_got eG gs hzg, ?_⟩
        repeat walk_at "st"
        have kt67 : Kt H6 H7 := fun q xs hq => b7 _ _ (fun e => by rw [e, k6] at hq; cases hq) hq
        have gw9 : Gw K Ht H9 := ⟨(kpt7.trans kp8).trans (Kp.same s9), ((Kt.but b5t hpt).trans (Kt.same s6)).trans (kt67.trans ((Kt.same s8).trans (Kt.same s9)))⟩
        have fe9 := fe.gw gw9
        have lm : (flatP (hs.drop 2)).length = manyN R := by rw [flat_len, List.length_drop, lhs]; unfold manyN; omega
        have hbn : bN hs.length = bN (frN R) := by
          rw [lhs]
          by_cases c : 2 ≤ frN R
          · rw [Nat.max_eq_right c]
          · rw [show frN R = 1 by omega]; rfl
        rw [hbn] at bt7
        have room := room_fit fe9.2.2 f1 (by omega) wk
        have dW := fe9.2.2
        have b5k : bN (frN R) ≤ 5000 ∧ 1 ≤ bN (frN R) := by
          have c : frN R = 1 ∨ frN R = 2 ∨ frN R = 3 ∨ frN R = 4 ∨ frN R = 5 := by omega
          rcases c with c | c | c | c | c <;> rw [c] <;> decide
        refine ⟨vf, lookV tv z, manyN R, _, _, bN (frN R), decide (sOf tR.2.1 = "line"), Nm, _, ws, flatP (hs.drop 2), gLk (gGo (spOf fr hs) [] R) z, rfl, fe9.1, by omega, cl hc dW, by omega, lstOf (s9 _ _ (s8 _ _ e7)), (fr7.up s8).up s9, lm, bt7, room, b5k.1, b5k.2, (gs.look hzg).2, due, fun H10 s10 => ?_⟩
        repeat walk_at "st"
        have s810 := s8.trans (s9.trans s10)
        have b6t : But p Ht H7 := fun a o hn h => off7 (nm5 (b5t _ _ hn h)) (b5t _ _ hn h)
        have hp7 : Pl H7 p b5 := by
          obtain ⟨x, y, w', e, h2⟩ := hp5
          exact ⟨x, y, w', off7 (nm5 e) e, h2⟩
        exact ⟨_, _, _, _, _, _, _, _, b5, rfl, (kt.trans b6t).trans (But.same s810), hp7.same s810, by omega⟩
      · rintro σ H5 ⟨y10, y11, y12, y13, y14, y15, y16, y17, b', rfl, k, hp', hb'⟩
        exact J _ _ ⟨_, _, _, _, _, _, _, _, b', rfl, k, hp', by omega⟩
    rintro σ H5 ⟨y10, y11, y12, y13, y14, y15, y16, y17, b', rfl, k, hp', hb'⟩
    repeat walk_at "st"
    exact q b' H5 (g4.trans k) hp' (by omega)
  ) only [↓Mb.dischW]
theorem ok_heavy (F : Fn K mg "_law_heavy" s_heavy) (G_l_weight : Kn P w K mg base 2 "_law_weight" ["_law_making", "_law_sorts", "_law_heavy_here"] (spWeightP K)) (G_sort : Kn P w K mg base 1 "_law_sort" ["_law_making"] (spSortL K)) : Kn P w K mg base 3 "_law_heavy" ["_law_part_here"] (spHeavyT K) := by
  refine Mb.ofW ?_
  simp (discharger := with_unfolding_all
    refine F.kn sc_heavy (fun vs H Q E h => ?_) (fun f cdv A0 outer s H vs Q E hr h => ?_) (fun _ _ _ _ _ _ us hl => match us, hl with | [_], _ => rfl)
    · obtain ⟨l, us, ts, rfl, _⟩ := h
      rfl
    obtain ⟨l, us, ts, rfl, hl, rw_, vr, hn, nc, q⟩ := h
    have ln := rw_.len
    refine ⟨_, (pss_cons (ps_set (i := 1) sc_heavy.nd rfl (.inl rfl) pe_dnewK)
      (pss_cons (ps_set (i := 2) sc_heavy.nd rfl (.inl rfl) pe_dnewK)
      (pss_cons (ps_for PassesOwn.never rfl (pi_list (pv 0)) (pg_tup (by rfl) (pgs_cons (pg_name (i := 3) sc_heavy.nd rfl (.inl rfl)) (pgs_cons (pg_name (i := 4) sc_heavy.nd rfl (.inl rfl)) pgs_nil)))
      (pss_cons (ps_dput (u1 hr.units) (pv 2) (pv 3) (pe_kn G_l_weight (hr.mono (by decide)) (by rfl) (pa_cons (pv 4) (pa_cons (pv 1) (pa_cons (pv 2) pa_nil)))) (by rfl))
      (pss_one (ps_dput (u1 hr.units) (pv 1) (pv 3) (pe_kn G_sort (hr.mono (by decide)) (by rfl) (pa_cons (pv 4) pa_nil)) (by rfl)))))
      (pss_one (ps_ret (pv 2)))))), ?_⟩
    show (_ : TS) _ [some (.ref l), none, none, none, none] _
    repeat walk_at "st"
    refine fun S nS => ?_
    obtain ⟨h1, e1, s1, k1⟩ := nw nS (.dK (sortsD []))
    rw [show (HO.dK []) = .dK (sortsD []) from rfl, ← e1]
    clear e1
    repeat walk_at "st"
    refine fun D nD => ?_
    obtain ⟨h2, e2, s2, k2⟩ := nw nD (.dK (loadsD []))
    rw [show (HO.dK []) = .dK (loadsD []) from rfl, ← e2]
    clear e2
    have nSD : S ≠ D := fun e => by rw [← e, k1] at nD; cases nD
    have nD0 := s1.free nD
    repeat walk_at "st"
    with_reducible refine r_cut (fun σ H' => ∃ (y3 y4 : Option V), σ = [some (.ref l), some (.ref S), some (.ref D), y3, y4] ∧ Same H H' ∧ H' D = some (.dK (loadsD (envOf [] (ts.map thOf))))) ?U1 ?V1
    case V1 =>
      intro N J
      refine ⟨.ref l, rfl, l, rfl, ⟨us, (s1.trans s2).seq hl⟩, ?_⟩
      refine for_list (xs := us) (fun i σ H' => ∃ (y3 y4 : Option V), σ = [some (.ref l), some (.ref S), some (.ref D), y3, y4] ∧ Same H H' ∧ H' D = some (.dK (loadsD (envOf [] ((ts.take i).map thOf)))) ∧ H' S = some (.dK (sortsD (envOf [] ((ts.take i).map thOf))))) ?_ ?_ ?_ ?_
      · exact ⟨_, _, rfl, s1.trans s2, by rw [List.take_zero]; exact k2, by rw [List.take_zero]; exact s2 _ _ k1⟩
      · rintro i σ H' _ ⟨_, _, _, g', _⟩
        exact g'.seq hl
      · rintro i v σ H1 hv ⟨y3, y4, rfl, g1, eD, eS⟩
        obtain ⟨t, ht, a, m, rfl, ta, mq⟩ := rw_.at hv
        have ht2 : (ts.map thOf)[i]? = some (thOf t) := by rw [List.getElem?_map, ht]; rfl
        obtain ⟨n1, n2, okm, est, lg, _⟩ := vr.at ht2
        have ncut := nc t (List.mem_of_getElem? ht)
        have hi := (List.getElem?_eq_some_iff.mp ht).1
        rw [← List.map_take] at n1 okm lg
        rw [← List.map_take, ← List.map_take] at est
        have lE : (envOf [] ((ts.take i).map thOf)).length ≤ 60 := by rw [envOf_len, List.length_map, List.length_take]; simp; omega
        have ea : ts.take (i + 1) = ts.take i ++ [t] := by rw [List.take_succ, ht, Option.toList_some]
        rw [est]
        generalize envOf [] ((ts.take i).map thOf) = L at *
        replace mq := mq.kp (Kp.same g1)
        refine r_gT (g1.tp ta) rfl ?_
        refine r_g2 ?_
        refine r_dputS ?_
        repeat walk_at "st"
        refine ⟨m, S, D, t.2.1, t.2.2.1, L, rfl, mq.mk, okm, ncut, eD, lg, fun H2 s2 => ?_⟩
        replace eD := s2 _ _ eD
        replace eS := s2 _ _ eS
        replace mq := mq.kp (Kp.same s2)
        repeat walk_at "st"
        refine ⟨D, _, rfl, DPut.k (k := .inr t.1) eD (by unfold loadsD; rw [List.length_map]; exact Nat.lt_of_lt_of_le (show L.length < 64 by omega) (by decide)), ?_⟩
        rw [show putK (loadsD L) (.inr t.1) (V.int (wOf t.2.1 t.2.2.1 L)) = loadsD (envStep L (thOf t)) from put_new n1 rfl rfl]
        have k3 : upd H2 D (.dK (loadsD (envStep L (thOf t)))) D = some (.dK (loadsD (envStep L (thOf t)))) := upd_same
        have kp3 : Kp K H2 (upd H2 D (.dK (loadsD (envStep L (thOf t))))) := kp_dict eD
        have g3 := same_updS (o := .dK (loadsD (envStep L (thOf t)))) (g1.trans s2) nD0
        have eS3 : upd H2 D (.dK (loadsD (envStep L (thOf t)))) S = some (.dK (sortsD L)) := by rw [upd_ne nSD]; exact eS
        generalize upd H2 D (.dK (loadsD (envStep L (thOf t)))) = H3 at *
        replace mq := mq.kp kp3
        refine r_dput ?_
        repeat walk_at "st"
        refine ⟨m, t.2.1, t.2.2.1, L, rfl, mq.mk, okm, fun H4 s4 => ?_⟩
        repeat walk_at "st"
        refine ⟨S, _, rfl, DPut.k (k := .inr t.1) (s4 _ _ eS3) (by unfold sortsD; rw [List.length_map]; exact Nat.lt_of_lt_of_le (show L.length < 64 by omega) (by decide)), ?_⟩
        rw [show putK (sortsD L) (.inr t.1) (V.str (sOf t.2.1)) = sortsD (envStep L (thOf t)) from put_new n1 rfl rfl]
        exact ⟨_, _, rfl, same_updS (g3.trans s4) nS, by rw [upd_ne (fun e => nSD e.symm)]; exact s4 _ _ k3, upd_same⟩
      · rintro σ H1 ⟨y3, y4, rfl, g1, eD, eS⟩
        rw [ln, List.take_length] at eD
        exact J _ _ ⟨_, _, rfl, g1, eD⟩
    rintro σ H1 ⟨y3, y4, rfl, g1, eD⟩
    repeat walk_at "st"
    exact q D H1 g1 nD0 eD
  ) only [↓Mb.dischW]
theorem ok_steep (F : Fn K mg "_law_steep" s_steep) (G_take : Kn P w K mg base 1 "_law_take" ["_law_pool_here", "_law_wide"] spTake) (G_name : Kn P w K mg base 2 "_law_name" ["_law_pool_here", "_law_had"] (spNameR K)) (G_hung : Kn P w K mg base 3 "_law_hung" ["_law_pool_here", "_law_points", "_law_lines"] (spHung K)) (G_l_weight : Kn P w K mg base 2 "_law_weight" ["_law_making", "_law_sorts", "_law_heavy_here"] (spWeightP K)) (G_sort : Kn P w K mg base 1 "_law_sort" ["_law_making"] (spSortL K)) (z_list : mg "list" = none) (z_range : mg "range" = none) : Kn P w K mg base 4 "_law_steep" ["_law_pool_here", "_law_head", "_law_most"] (spSteepT K) := by
  refine Mb.ofW ?_
  simp (discharger := with_unfolding_all
    refine F.kn sc_steep (fun vs H Q E h => ?_) (fun f cdv A0 outer s H vs Q E hr h => ?_) (fun _ _ _ _ _ _ us hl => match us, hl with | [_, _, _], _ => rfl)
    · obtain ⟨p, b, hd, most, rfl, _⟩ := h
      rfl
    obtain ⟨p, b, hd, most, rfl, hp, hb, h1, h5, mo2, mo40, q⟩ := h
    refine ⟨_, (pss_cons (ps_set (i := 3) sc_steep.nd rfl (.inl rfl) (pe_lst pa_nil))
      (pss_cons (ps_set (i := 4) sc_steep.nd rfl (.inl rfl) (pe_disp (pps_cons pe_str (pe_lst pa_nil) (pps_cons pe_str (pe_lst pa_nil) pps_nil)) rfl rfl (by simp) (by decide)))
      (pss_cons (ps_set (i := 5) sc_steep.nd rfl (.inl rfl) pe_dnewK)
      (pss_cons (ps_for PassesOwn.never rfl (pi_range1 (by rfl) z_range (pa_cons (pe_op op_add (pe_op op_add (pv 1) pe_int) (pe_kn G_take (hr.mono (by decide)) (by rfl) (pa_cons (pv 0) (pa_cons pe_int pa_nil)))) pa_nil)) (pg_name (i := 6) sc_steep.nd rfl (.inl rfl))
      (pss_cons (ps_set (i := 7) sc_steep.nd rfl (.inl rfl) (pe_kn G_name (hr.mono (by decide)) (by rfl) (pa_cons (pv 0) (pa_cons (pe_callTy (call_list_dK (by rfl)) (by rfl) z_list (by decide +kernel) (pa_cons (pv 5) pa_nil)) pa_nil))))
      (pss_cons (ps_set (i := 8) sc_steep.nd rfl (.inl rfl) (pe_tup (pa_cons (pe_op op_sub (pe_kn G_take (hr.mono (by decide)) (by rfl) (pa_cons (pv 0) (pa_cons pe_int pa_nil))) pe_int) (pa_cons pe_int pa_nil))))
      (pss_cons (ps_set (i := 9) sc_steep.nd rfl (.inl rfl) (pe_tup (pa_cons pe_str (pa_cons (pv 8) (pa_cons (pe_tup (pa_cons (pe_op op_sub (pe_kn G_take (hr.mono (by decide)) (by rfl) (pa_cons (pv 0) (pa_cons pe_int pa_nil))) pe_int) (pa_cons pe_int pa_nil))) pa_nil)))))
      (pss_cons (ps_if (pt_cmpR op_ge (pv 6) (pv 1) (nomark _))
      (pss_cons (ps_set (i := 9) sc_steep.nd rfl (.inl rfl) (pe_kn G_hung (hr.mono (by decide)) (by rfl) (pa_cons (pv 0) (pa_cons (pe_slice sl_list (pe_dget (u1 hr.units) (pv 4) pe_str (fun _ _ => rfl)) (po_some (pe_un un_neg pe_int)) po_none) (pa_cons (pe_slice sl_list (pe_dget (u1 hr.units) (pv 4) pe_str (fun _ _ => rfl)) (po_some (pe_un un_neg pe_int)) po_none) pa_nil)))))
      (pss_cons (ps_if (pt_cmpR op_gt (pe_kn G_l_weight (hr.mono (by decide)) (by rfl) (pa_cons (pv 9) (pa_cons pe_dnewK (pa_cons (pv 5) pa_nil)))) (pv 2) (nomark _))
      (pss_one (ps_set (i := 9) sc_steep.nd rfl (.inl rfl) (pe_kn G_hung (hr.mono (by decide)) (by rfl) (pa_cons (pv 0) (pa_cons (pe_slice sl_list (pe_dget (u1 hr.units) (pv 4) pe_str (fun _ _ => rfl)) po_none (po_some (pv 1))) (pa_cons (pe_slice sl_list (pe_dget (u1 hr.units) (pv 4) pe_str (fun _ _ => rfl)) po_none (po_some pe_int)) pa_nil))))))
      pss_nil)
      (pss_one (ps_if (pt_cmpR op_gt (pe_kn G_l_weight (hr.mono (by decide)) (by rfl) (pa_cons (pv 9) (pa_cons pe_dnewK (pa_cons (pv 5) pa_nil)))) (pv 2) (nomark _))
      (pss_one (ps_set (i := 9) sc_steep.nd rfl (.inl rfl) (pe_tup (pa_cons pe_str (pa_cons (pe_ix ix_tup (pe_ix ix_list (pv 3) pe_int (fun _ _ => rfl)) pe_int (fun _ _ => rfl)) (pa_cons (pe_ix ix_tup (pe_ix ix_list (pv 3) (pe_op op_mod (pv 6) (pv 1)) (fun _ _ => rfl)) pe_int (fun _ _ => rfl)) pa_nil))))))
      pss_nil))))
      pss_nil)
      (pss_cons (ps_dput (u1 hr.units) (pv 5) (pv 7) (pe_kn G_l_weight (hr.mono (by decide)) (by rfl) (pa_cons (pv 9) (pa_cons pe_dnewK (pa_cons (pv 5) pa_nil)))) (by rfl))
      (pss_cons (ps_expr (pe_bm PySem.F.plainAttrs_list PySem.F.slot_list_append PySem.F.type_list_append mt_append (pe_dget (u1 hr.units) (pv 4) (pe_kn G_sort (hr.mono (by decide)) (by rfl) (pa_cons (pv 9) pa_nil)) (fun _ _ => rfl)) (pa_cons (pv 7) pa_nil)))
      (pss_one (ps_expr (pe_bm PySem.F.plainAttrs_list PySem.F.slot_list_append PySem.F.type_list_append mt_append (pv 3) (pa_cons (pe_tup (pa_cons (pv 7) (pa_cons (pv 9) pa_nil))) pa_nil)))))))))))
      (pss_one (ps_ret (pv 3))))))), ?_⟩
    show (_ : TS) _ [some (.ref p), some (.int (hd : Int)), some (.int (most : Int)), none, none, none, none, none, none, none] _
    repeat walk_at "st"
    refine ⟨sz rfl, fun R nR => ?_⟩
    obtain ⟨g1, e1, s1, k1⟩ := nw nR (.lst [])
    rw [← e1]
    clear e1
    repeat walk_at "st"
    refine fun B nB => ?_
    obtain ⟨g2, e2, s2, k2⟩ := nw nB (.dK [])
    rw [← e2]
    clear e2
    refine r_prs ?_
    repeat walk_at "st"
    refine ⟨sz rfl, fun Pt nP => ?_⟩
    obtain ⟨g3, e3, s3, k3⟩ := nw nP (.lst [])
    rw [← e3]
    clear e3
    refine r_prs ?_
    repeat walk_at "st"
    refine ⟨sz rfl, fun Ln nL => ?_⟩
    obtain ⟨g4, e4, s4, k4⟩ := nw nL (.lst [])
    rw [← e4]
    clear e4
    refine r_prs0 ?_
    refine ⟨(s3.trans s4) _ _ k2, [(.inr "point", .ref Pt), (.inr "line", .ref Ln)], rfl, by simp, ?_⟩
    rw [show mergeK [] [((.inr "point" : Key), V.ref Pt), (.inr "line", .ref Ln)] = [(.inr "point", .ref Pt), (.inr "line", .ref Ln)] from rfl]
    have nB0 : H B = none := s1.free nB
    have nP0 : H Pt = none := s1.free (s2.free nP)
    have nL0 : H Ln = none := s1.free (s2.free (s3.free nL))
    have nRB := ne_new k1 nB
    have nRP := ne_new (s2 _ _ k1) nP
    have nRL := ne_new ((s2.trans s3) _ _ k1) nL
    have nBP := ne_new k2 nP
    have nBL := ne_new (s3 _ _ k2) nL
    have nPL := ne_new k3 nL
    obtain ⟨g5, e5, k5⟩ : ∃ g5, g5 = upd g4 B (.dK [(.inr "point", .ref Pt), (.inr "line", .ref Ln)]) ∧ g5 B = some (.dK [(.inr "point", .ref Pt), (.inr "line", .ref Ln)]) := ⟨_, rfl, upd_same⟩
    have s05 : Same H g5 := by rw [e5]; exact same_updS (s1.trans (s2.trans (s3.trans s4))) nB0
    have eR5 : g5 R = some (.lst []) := by rw [e5, upd_ne nRB]; exact (s2.trans (s3.trans s4)) _ _ k1
    have eP5 : g5 Pt = some (.lst []) := by rw [e5, upd_ne nBP.symm]; exact s4 _ _ k3
    have eL5 : g5 Ln = some (.lst []) := by rw [e5, upd_ne nBL.symm]; exact k4
    rw [← e5]
    clear e5 k1 k2 k3 k4 nB nP nL s1 s2 s3 s4
    repeat walk_at "st"
    refine fun Wt nW => ?_
    obtain ⟨g6, e6, s6, k6⟩ := nw nW (.dK [])
    rw [← e6]
    clear e6
    have hp6 : Hp5 H g6 p R B Pt Ln Wt [] [] [] [] := ⟨But.same (s05.trans s6), s6 _ _ eR5, s6 _ _ k5, s6 _ _ eP5, s6 _ _ eL5, k6, ⟨nRB, nRP, nRL, ne_new eR5 nW, nBP, nBL, ne_new k5 nW, nPL, ne_new eP5 nW, ne_new eL5 nW⟩,
      ⟨(hp.ne2 nR).symm, (hp.ne2 nB0).symm, (hp.ne2 nP0).symm, (hp.ne2 nL0).symm, (hp.ne2 (s05.free nW)).symm⟩, nR, nB0, nP0, nL0, s05.free nW⟩
    have hp0 : Pl g6 p b := hp.same (s05.trans s6)
    clear s05 eR5 k5 eP5 eL5 k6 nW s6 nRB nRP nRL nBP nBL nPL nB0 nP0 nL0
    walk_at "st"
    with_reducible refine r_cut (fun σ H' => ∃ (y6 y7 y8 y9 : Option V) (b' : Int) (us : List V) (ts : List Thq) (pts lns : List Str), σ = [some (.ref p), some (.int (hd : Int)), some (.int (most : Int)), some (.ref R), some (.ref B), some (.ref Wt), y6, y7, y8, y9] ∧ Hp5 H H' p R B Pt Ln Wt us pts lns (envOf [] (ts.map thOf)) ∧ Pl H' p b' ∧ b' ≤ b + 10000 ∧ Rwq K H' us ts ∧ Vp (most : Int) [] ts ∧ HungAt ts hd ∧ hd + 4 ≤ ts.length ∧ ts.length ≤ 60) ?U1 ?V1
    case V1 =>
      intro N J
      unfold tFor iRng1
      repeat walk_at "st"
      refine ⟨p, _, _, rfl, hp0, by omega, by decide, by decide, fun r H1 c1 hp1 r0 r1 => ?_⟩
      have hpB := hp6.but c1
      clear hp6 hp0 c1
      repeat walk_at "st"
      obtain ⟨n, en⟩ : ∃ n : Nat, (hd : Int) + 4 + r = (n : Int) := ⟨((hd : Int) + 4 + r).toNat, by omega⟩
      refine ⟨(hd : Int) + 4 + r, rfl, by omega, by omega, ?_⟩
      rw [show ((hd : Int) + 4 + r).toNat = n from by omega]
      refine for_range (n := n) (fun i σ H' => ∃ (y6 y7 y8 y9 : Option V) (b' : Int) (us : List V) (ts : List Thq) (pts lns : List Str), σ = [some (.ref p), some (.int (hd : Int)), some (.int (most : Int)), some (.ref R), some (.ref B), some (.ref Wt), y6, y7, y8, y9] ∧ Hp5 H H' p R B Pt Ln Wt us pts lns (envOf [] (ts.map thOf)) ∧ Pl H' p b' ∧ b' ≤ b + 1 + 200 * i ∧ Rwq K H' us ts ∧ Vp (most : Int) [] ts ∧ Nm6 pts lns [] (envOf [] (ts.map thOf)) ∧ FreeAt ts hd ∧ HungAt ts hd ∧ min i hd ≤ pts.length ∧ pts.length ≤ i ∧ lns.length ≤ i ∧ ts.length = i) ?_ ?_ ?_
      · exact ⟨_, _, _, _, b + 1, [], [], [], [], rfl, hpB, hp1, by omega, .nil, trivial, ⟨(fun _ h => nomatch h), (fun _ h => nomatch h), (fun _ h => nomatch h)⟩, (fun _ _ h => nomatch h), (fun _ _ h => nomatch h), by simp, Nat.le_refl _, Nat.le_refl _, rfl⟩
      · rintro i σ H1 hi ⟨y6, y7, y8, y9, b1, us, ts, pts, lns, rfl, al, hp1, hb1, rw_, vp, nm, fa, ha, mp, lp, ll, lt⟩
        clear hpB J hp
        have i14 : i < 14 := by omega
        have lu := rw_.len
        have vr := vp.vr (show (most : Int) ≤ 40 by omega)
        have light : Light (envOf [] (ts.map thOf)) := Vr.light _ _ light0 vr
        have lE : (envOf [] (ts.map thOf)).length = i := by rw [envOf_len, List.length_map, lt]; simp
        have fe := fun t ht e => free_env vp t ht e
        generalize hL : envOf [] (ts.map thOf) = L at *
        repeat walk_at "st"
        refine ⟨Wt, _, rfl, al.eW, fun q1 nq => ?_⟩
        obtain ⟨H2, e2, s2, k2⟩ := nw nq (.lst ((loadsD L).map fun kv => kV kv.1))
        rw [← e2]
        clear e2
        rw [load_keys] at k2
        have nqp := hp1.ne2 nq
        repeat walk_at "st"
        refine ⟨p, q1, _, nmsE L, rfl, hp1.same s2, by omega, lstOf k2, nqp.symm, by rw [nms_len, lE]; omega, fun z H3 c3 hp3 sok nz => ?_⟩
        have al3 := (al.same s2).but c3
        have rw3 := (rw_.kp (Kp.same s2)).kp (Kp.but c3 (hp1.same s2))
        clear al rw_ s2 k2 nq nqp hp1 c3
        repeat walk_at "st"
        refine ⟨p, _, _, rfl, hp3, by omega, by decide, by decide, fun r1 H4 c4 hp4 l1 u1 => ?_⟩
        repeat walk_at "st"
        refine ⟨sz rfl, fun a1 na1 => ?_⟩
        obtain ⟨H5, e5, s5, k5⟩ := nw na1 (.tup [V.int (r1 - 4), .int 1])
        rw [← e5]
        clear e5
        have hp5 := hp4.same s5
        repeat walk_at "st"
        refine ⟨p, _, _, rfl, hp5, by omega, by decide, by decide, fun r2 H6 c6 hp6 l2 u2 => ?_⟩
        repeat walk_at "st"
        refine ⟨sz rfl, fun a2 na2 => ?_⟩
        obtain ⟨H7, e7, s7, k7⟩ := nw na2 (.tup [V.int (r2 - 4), .int 1])
        rw [← e7]
        clear e7
        repeat walk_at "st"
        refine ⟨sz rfl, fun m0 nm0 => ?_⟩
        obtain ⟨H8, e8, s8, k8⟩ := nw nm0 (.tup [V.str "free", .ref a1, .ref a2])
        rw [← e8]
        clear e8
        obtain ⟨rx, fx, sx⟩ := Fb.fqT (K := K) (fb_int (t := r1 - 4) (by omega)) (tupOf k5)
        obtain ⟨ry, fy, sy⟩ := Fb.fqT (K := K) (fb_int (t := r2 - 4) (by omega)) (tupOf k7)
        have mq0 : Mq K H8 m0 "free" [] (.fr rx ry) := ⟨[.ref a1, .ref a2], tupOf k8, rfl, _, _, rfl, (fx.kp (Kp.but c6 hp5)).up (s7.trans s8), fy.up s8⟩
        have hp8 := hp6.same (s7.trans s8)
        have al8 := ((al3.but c4).same s5).but (c6.trans (But.same (s7.trans s8)))
        have rw8 := (((rw3.kp (Kp.but c4 hp3)).kp (Kp.same s5)).kp (Kp.but c6 hp5)).kp (Kp.same (s7.trans s8))
        clear al3 rw3 c4 c6 hp4 hp5 hp6 s5 s7 s8 k5 k7 k8 na1 na2 nm0 fx fy sx sy hp3
        walk_at "st"
        with_reducible refine r_cut (fun σ H' => ∃ (b' : Int) (m : Addr) (x : Str) (ns : List Str) (d : Tail), σ = [some (.ref p), some (.int (hd : Int)), some (.int (most : Int)), some (.ref R), some (.ref B), some (.ref Wt), some (.int (0 + (i : Int))), some (.str z), some (.ref a1), some (.ref m)] ∧ But p H8 H' ∧ Pl H' p b' ∧ b' ≤ b + 200 * i + 150 ∧ Mq K H' m x ns d ∧ FitsE x ns L ∧ HwT (z, x, ns, d) ∧ wOf x ns L ≤ (most : Int) ∧ (x = "free" → i < hd) ∧ (x ≠ "free" → hd ≤ i)) ?U3 ?V3
        case V3 =>
          intro N J
          repeat walk_at "st"
          refine r_ite (fun c => ?_) (fun c => ?_)
          · have ihd : hd ≤ i := by omega
            have p1 : hd ≤ pts.length := by omega
            repeat walk_at "st"
            refine r_slR ?_
            repeat walk_at "st"
            refine r_dg ?_
            repeat walk_at "st"
            refine ⟨B, .ref Pt, rfl, DGet.k (k := .inr "point") al8.eB, ?_⟩
            repeat walk_at "st"
            refine r_partR ?_
            repeat walk_at "st"
            refine r_noPart ?_
            refine ⟨Pt, _, rfl, lstOf al8.eP, fun q2 nq2 => ?_⟩
            rw [show cutV (pts.map V.str) (some (-3)) none = (pts.drop (pts.length - 3)).map V.str from cut_neg (k := 3) (by decide)]
            obtain ⟨H9, e9, s9, k9⟩ := nw nq2 (.lst ((pts.drop (pts.length - 3)).map V.str))
            rw [← e9]
            clear e9
            have nq2p := hp8.ne2 nq2
            repeat walk_at "st"
            refine r_slR ?_
            repeat walk_at "st"
            refine r_dg ?_
            repeat walk_at "st"
            refine ⟨B, .ref Ln, rfl, DGet.k (k := .inr "line") (al8.same s9).eB, ?_⟩
            repeat walk_at "st"
            refine r_partR ?_
            repeat walk_at "st"
            refine r_noPart ?_
            refine ⟨Ln, _, rfl, lstOf (al8.same s9).eL, fun q3 nq3 => ?_⟩
            rw [show cutV (lns.map V.str) (some (-2)) none = (lns.drop (lns.length - 2)).map V.str from cut_neg (k := 2) (by decide)]
            obtain ⟨H10, e10, s10, k10⟩ := nw nq3 (.lst ((lns.drop (lns.length - 2)).map V.str))
            rw [← e10]
            clear e10
            have hp9 := hp8.same s9
            have hp10 := hp9.same s10
            have nq3p := hp9.ne2 nq3
            repeat walk_at "st"
            refine ⟨p, q2, q3, _, _, _, rfl, hp10, by omega, lstOf (s10 _ _ k9), lstOf k10, by rw [List.length_drop]; omega, by rw [List.length_drop]; omega, by rw [List.length_drop]; omega, nq2p, nq3p, fun m x ns d b11 H11 c11 hp11 hb11 mq hg => ?_⟩
            obtain ⟨hf, hx, hs⟩ := hungs_fits (nm6_sub nm (fun z hz => List.mem_of_mem_drop hz) (fun z hz => List.mem_of_mem_drop hz)) hg
            have b8 : But p H8 H11 := (But.same (s9.trans s10)).trans c11
            have al11 := al8.but b8
            have rw11 := rw8.kp (Kp.but b8 hp8)
            obtain ⟨n1, n2, n3, _⟩ := fig_noclaim hx
            clear s9 s10 k9 k10 c11 hp9 hp10 nq2 nq3 hg
            walk_at "st"
            with_reducible refine r_cut (fun σ H' => ∃ (b' : Int) (m : Addr) (x : Str) (ns : List Str) (d : Tail), σ = [some (.ref p), some (.int (hd : Int)), some (.int (most : Int)), some (.ref R), some (.ref B), some (.ref Wt), some (.int (0 + (i : Int))), some (.str z), some (.ref a1), some (.ref m)] ∧ But p H11 H' ∧ Pl H' p b' ∧ b' ≤ b + 200 * i + 120 ∧ Mq K H' m x ns d ∧ FitsE x ns L ∧ x ∈ figW ∧ ∀ q, d = .sh q → NrB q 1000) ?U4 ?V4
            case V4 =>
              intro N' J'
              repeat walk_at "st"
              refine fun S nS => ?_
              obtain ⟨H12, e12, s12, k12⟩ := nw nS (.dK [])
              rw [← e12]
              clear e12
              have al12 := al11.same s12
              repeat walk_at "st"
              refine ⟨m, S, Wt, x, ns, L, rfl, (mq.kp (Kp.same s12)).mk, hf.okm, n3, al12.eW, light, fun H13 s13 => ?_⟩
              have s1213 := s12.trans s13
              have al13 := al11.same s1213
              have hp13 := hp11.same s1213
              repeat walk_at "st"
              refine r_ite (fun c => ?_) (fun c => ?_)
              · repeat walk_at "st"
                refine r_slR ?_
                repeat walk_at "st"
                refine r_dg ?_
                repeat walk_at "st"
                refine ⟨B, .ref Pt, rfl, DGet.k (k := .inr "point") al13.eB, ?_⟩
                repeat walk_at "st"
                refine r_noPart ?_
                refine r_partR ?_
                repeat walk_at "st"
                refine ⟨Pt, _, rfl, lstOf al13.eP, fun q2 nq2 => ?_⟩
                rw [show cutV (pts.map V.str) none (some (hd : Int)) = (pts.take hd).map V.str by rw [cut_take (by rw [List.length_map]; exact p1), List.map_take]]
                obtain ⟨H14, e14, s14, k14⟩ := nw nq2 (.lst ((pts.take hd).map V.str))
                rw [← e14]
                clear e14
                have nq2p := hp13.ne2 nq2
                repeat walk_at "st"
                refine r_slR ?_
                repeat walk_at "st"
                refine r_dg ?_
                repeat walk_at "st"
                refine ⟨B, .ref Ln, rfl, DGet.k (k := .inr "line") (al13.same s14).eB, ?_⟩
                repeat walk_at "st"
                refine r_noPart ?_
                refine r_partR ?_
                repeat walk_at "st"
                refine ⟨Ln, _, rfl, lstOf (al13.same s14).eL, fun q3 nq3 => ?_⟩
                obtain ⟨l1s, el1, ml1, ll1⟩ := cutV_map (ns := lns) (lo := none) (hi := some 1)
                rw [el1]
                obtain ⟨H15, e15, s15, k15⟩ := nw nq3 (.lst (l1s.map V.str))
                rw [← e15]
                clear e15
                have hp14 := hp13.same s14
                have hp15 := hp14.same s15
                have nq3p := hp14.ne2 nq3
                repeat walk_at "st"
                refine ⟨p, q2, q3, _, _, _, rfl, hp15, by omega, lstOf (s15 _ _ k14), lstOf k15, by rw [List.length_take]; omega, by rw [List.length_take]; omega, by omega, nq2p, nq3p, fun m2 x2 ns2 d2 b16 H16 c16 hp16 hb16 mq2 hg2 => ?_⟩
                obtain ⟨hf2, hx2, hs2⟩ := hungs_fits (nm6_sub nm (fun z hz => List.mem_of_mem_take hz) ml1) hg2
                repeat walk_at "st"
                exact J' _ _ ⟨b16, m2, x2, ns2, d2, rfl, (But.same (s1213.trans (s14.trans s15))).trans c16, hp16, by omega, mq2, hf2, hx2, hs2⟩
              · repeat walk_at "st"
                exact J' _ _ ⟨b11, m, x, ns, d, rfl, But.same s1213, hp13, by omega, mq.kp (Kp.same s1213), hf, hx, hs⟩
            clear mq hf hx hs n1 n2 n3
            rintro σ H12 ⟨b12, m, x, ns, d, rfl, c12, hp12, hb12, mq, hf, hx, hs⟩
            have al12 := al11.but c12
            have rw12 := rw11.kp (Kp.but c12 hp11)
            obtain ⟨n1, n2, n3, _⟩ := fig_noclaim hx
            repeat walk_at "st"
            refine fun S nS => ?_
            obtain ⟨H13, e13, s13, k13⟩ := nw nS (.dK [])
            rw [← e13]
            clear e13
            repeat walk_at "st"
            refine ⟨m, S, Wt, x, ns, L, rfl, (mq.kp (Kp.same s13)).mk, hf.okm, n3, (al12.same s13).eW, light, fun H14 s14 => ?_⟩
            have s134 := s13.trans s14
            have al14 := al12.same s134
            have hp14 := hp12.same s134
            have rw14 := rw12.kp (Kp.same s134)
            repeat walk_at "st"
            refine r_ite (fun c => ?_) (fun c => ?_)
            · have hpos : (0 : Int) < (hd : Int) := by omega
              obtain ⟨t0, ht0⟩ : ∃ t, ts[0]? = some t := ⟨_, List.getElem?_eq_getElem (by omega)⟩
              obtain ⟨v0, hv0⟩ : ∃ v, us[0]? = some v := ⟨_, List.getElem?_eq_getElem (by omega)⟩
              obtain ⟨t0', ht0', a0, mm0, rfl, ta0, _⟩ := rw14.at hv0
              obtain rfl : t0 = t0' := by rw [ht0] at ht0'; exact Option.some.inj ht0'
              have j0 := Int.emod_nonneg (0 + (i : Int)) (show (hd : Int) ≠ 0 by omega)
              have j1 := Int.emod_lt_of_pos (0 + (i : Int)) hpos
              obtain ⟨j, ej⟩ : ∃ j : Nat, (0 + (i : Int)) % (hd : Int) = (j : Int) := ⟨((0 + (i : Int)) % (hd : Int)).toNat, by omega⟩
              obtain ⟨tj, htj⟩ : ∃ t, ts[j]? = some t := ⟨_, List.getElem?_eq_getElem (by omega)⟩
              obtain ⟨vj, hvj⟩ : ∃ v, us[j]? = some v := ⟨_, List.getElem?_eq_getElem (by omega)⟩
              obtain ⟨tj', htj', aj, mmj, rfl, taj, _⟩ := rw14.at hvj
              obtain rfl : tj = tj' := by rw [htj] at htj'; exact Option.some.inj htj'
              obtain ⟨w0, q0, z0⟩ := fe t0 (List.mem_of_getElem? ht0) (fa 0 t0 ht0 (by omega))
              obtain ⟨wj, qj, zj⟩ := fe tj (List.mem_of_getElem? htj) (fa j tj htj (by omega))
              have so0 : Sok t0.1 := (vp.at ht0).2.1
              have soj : Sok tj.1 := (vp.at htj).2.1
              repeat walk_at "st"
              refine r_ixL (v := .ref a0) (lstOf al14.eR) (atI_nat hv0) ?_
              repeat walk_at "st"
              rw [ej]
              refine r_ixL (v := .ref aj) (lstOf al14.eR) (atI_nat hvj) ?_
              repeat walk_at "st"
              refine ⟨sz rfl, fun m2 nm2 => ?_⟩
              obtain ⟨H15, e15, s15, k15⟩ := nw nm2 (.tup [V.str "middle", .str t0.1, .str tj.1])
              rw [← e15]
              clear e15
              repeat walk_at "st"
              refine J _ _ ⟨b12, m2, "middle", [t0.1, tj.1], .no, rfl, (b8.trans c12).trans (But.same (s134.trans s15)), hp14.same s15, by omega, ⟨[], tupOf k15, by decide, by decide, by decide, rfl⟩, ?_, .inr ⟨show ("middle" : Str) ∈ figW by decide, fun q e => by cases e⟩, ?_, fun e => absurd e (by decide), fun _ => ihd⟩
              · exact fits_two (pts := [t0.1, tj.1]) (lns := []) (frs := []) ⟨fun z hz => by
                  rcases List.mem_cons.mp hz with rfl | hz
                  · exact ⟨⟨z0, so0⟩, q0⟩
                  · rw [List.mem_singleton.mp hz]; exact ⟨⟨zj, soj⟩, qj⟩, (fun _ h => nomatch h), (fun _ h => nomatch h)⟩ (by decide) (by rw [if_neg (by decide)]; simp) (by rw [if_neg (by decide)]; simp)
              · rw [mid_two w0 wj]
                omega
            · repeat walk_at "st"
              exact J _ _ ⟨b12, m, x, ns, d, rfl, (b8.trans c12).trans (But.same s134), hp14, by omega, mq.kp (Kp.same s134), hf, .inr ⟨hx, hs⟩, by omega, fun e => absurd e n2, fun _ => ihd⟩
          · repeat walk_at "st"
            refine J _ _ ⟨_, m0, "free", [], _, rfl, But.refl _ _, hp8, by omega, mq0, ⟨"point", [], by decide +kernel, .nil⟩, .inl ⟨rfl, _, _, rfl⟩, by rw [wOf_free]; omega, fun _ => by omega, fun e => absurd rfl e⟩
        rintro σ H10 ⟨b10, m, x, ns, d, rfl, c10, hp10, hb10, mq, hf, hw, wle, hfree, hnf⟩
        have al11 := al8.but c10
        have rw11 := rw8.kp (Kp.but c10 hp8)
        clear al8 rw8 c10 mq0
        have okm := hf.okm
        have w0 := wOf_nonneg light x ns
        have ncut : x ≠ "cut" := hw.cut
        have nmS := nm6_step (t := (z, x, ns)) nm nz sok
        have srt2 : sOf x = "point" ∨ sOf x = "line" := by
          rcases hw with ⟨e, _⟩ | ⟨h, _⟩
          · have e' : x = "free" := e
            rw [e']; exact .inl (by decide +kernel)
          · exact fig_sort h
        refine r_dputS ?_
        repeat walk_at "st"
        refine fun S nS => ?_
        obtain ⟨H12, e12, s12, k12⟩ := nw nS (.dK [])
        rw [← e12]
        clear e12
        repeat walk_at "st"
        refine ⟨m, S, Wt, x, ns, L, rfl, (mq.kp (Kp.same s12)).mk, okm, ncut, (al11.same s12).eW, light, fun H13 s13 => ?_⟩
        have s123 := s12.trans s13
        have al13 := al11.same s123
        repeat walk_at "st"
        refine ⟨Wt, _, rfl, DPut.k (k := .inr z) al13.eW (by unfold loadsD; rw [List.length_map]; exact Nat.lt_of_lt_of_le (show L.length < 64 by omega) (by decide)), ?_⟩
        rw [show putK (loadsD L) (.inr z) (V.int (wOf x ns L)) = loadsD (envStep L (z, x, ns)) from put_new nz rfl rfl]
        have al14 := al13.setW (envStep L (z, x, ns))
        have kp14 : Kp K H13 (upd H13 Wt (.dK (loadsD (envStep L (z, x, ns))))) := kp_dict al13.eW
        have hp14 := (hp10.same s123).updR (o := .dK (loadsD (envStep L (z, x, ns)))) al13.np.2.2.2.2.symm
        replace mq := (mq.kp (Kp.same s123)).kp kp14
        have rw14 := (rw11.kp (Kp.same s123)).kp kp14
        generalize upd H13 Wt (.dK (loadsD (envStep L (z, x, ns)))) = H14 at *
        clear al11 al13 kp14 rw11 s12 s13 s123 k12 nS hp10
        with_reducible refine r_cut (fun σ H' => σ = [some (.ref p), some (.int (hd : Int)), some (.int (most : Int)), some (.ref R), some (.ref B), some (.ref Wt), some (.int (0 + (i : Int))), some (.str z), some (.ref a1), some (.ref m)] ∧ Hp5 H H' p R B Pt Ln Wt us (if sOf x = "point" then pts ++ [z] else pts) (if sOf x = "line" then lns ++ [z] else lns) (envStep L (z, x, ns)) ∧ Kp K H14 H' ∧ Pl H' p b10) ?U5 ?V5
        case V5 =>
          intro N J
          repeat walk_at "st"
          refine r_bm ?_
          repeat walk_at "st"
          refine r_dg ?_
          repeat walk_at "st"
          refine ⟨m, x, ns, L, rfl, mq.mk, okm, fun H15 s15 => ?_⟩
          have al15 := al14.same s15
          have hp15 := hp14.same s15
          rcases srt2 with e2 | e2
          · rw [e2]
            refine ⟨B, .ref Pt, rfl, DGet.k (k := .inr "point") al15.eB, ?_⟩
            repeat walk_at "st"
            refine ⟨.inl ⟨rfl, _, lstOf al15.eP⟩, ?_⟩
            repeat walk_at "st"
            refine ⟨Pt, _, .str z, rfl, rfl, al15.eP, by rw [List.length_map]; exact Nat.lt_of_lt_of_le (show pts.length < 64 by omega) (by decide), ?_⟩
            exact J _ _ ⟨rfl, by rw [if_pos e2, if_neg (by rw [e2]; decide)]; exact al15.setP z, (Kp.same s15).trans (kp_list al15.eP), hp15.updR al15.np.2.2.1.symm⟩
          · rw [e2]
            refine ⟨B, .ref Ln, rfl, DGet.k (k := .inr "line") al15.eB, ?_⟩
            repeat walk_at "st"
            refine ⟨.inl ⟨rfl, _, lstOf al15.eL⟩, ?_⟩
            repeat walk_at "st"
            refine ⟨Ln, _, .str z, rfl, rfl, al15.eL, by rw [List.length_map]; exact Nat.lt_of_lt_of_le (show lns.length < 64 by omega) (by decide), ?_⟩
            exact J _ _ ⟨rfl, by rw [if_pos e2, if_neg (by rw [e2]; decide)]; exact al15.setL z, (Kp.same s15).trans (kp_list al15.eL), hp15.updR al15.np.2.2.2.1.symm⟩
        rintro σ H15 ⟨rfl, al15, kp15, hp15⟩
        replace mq := mq.kp kp15
        have rw15 := rw14.kp kp15
        clear al14 rw14 kp15 hp14
        repeat walk_at "st"
        refine r_bm ?_
        repeat walk_at "st"
        refine ⟨.inl ⟨rfl, _, lstOf al15.eR⟩, ?_⟩
        repeat walk_at "st"
        refine ⟨sz rfl, fun tt ntt => ?_⟩
        obtain ⟨H16, e16, s16, k16⟩ := nw ntt (.tup [V.str z, .ref m])
        rw [← e16]
        clear e16
        have al16 := al15.same s16
        repeat walk_at "st"
        refine ⟨R, _, .ref tt, rfl, rfl, al16.eR, Nat.lt_of_lt_of_le (show us.length < 64 by omega) (by decide), ?_⟩
        have kp17 : Kp K H16 (upd H16 R (.lst (us ++ [.ref tt]))) := kp_list al16.eR
        have tg : Tg K (upd H16 R (.lst (us ++ [.ref tt]))) (.ref tt) (z, x, ns, d) := ⟨tt, m, rfl, kp17 _ _ (tupOf k16), (mq.kp (Kp.same s16)).kp kp17⟩
        have rws := rwq_snocQ ((rw15.kp (Kp.same s16)).kp kp17) tg
        have eL2 : envOf [] ((ts ++ [(z, x, ns, d)]).map thOf) = envStep L (z, x, ns) := by rw [List.map_append, envOf_append, hL]; rfl
        have lif : ∀ (c : Prop) [Decidable c] (l : List Str), l.length ≤ i → (if c then l ++ [z] else l).length ≤ i + 1 := fun c _ l h => by
          split
          · rw [List.length_append]; simp only [List.length_cons, List.length_nil]; omega
          · omega
        have snocAt : ∀ (j : Nat) (t : Thq), (ts ++ [(z, x, ns, d)])[j]? = some t → ts[j]? = some t ∨ (j = i ∧ t = (z, x, ns, d)) := fun j t hj => by
          by_cases c : j < ts.length
          · rw [List.getElem?_append_left c] at hj
            exact .inl hj
          · rw [List.getElem?_append_right (by omega)] at hj
            have c2 : j - ts.length = 0 := by
              have := (List.getElem?_eq_some_iff.mp hj).1
              simp at this
              omega
            rw [c2] at hj
            cases hj
            exact .inr ⟨by omega, rfl⟩
        have nmS' : Nm6 (if sOf x = "point" then pts ++ [z] else pts) (if sOf x = "line" then lns ++ [z] else lns) [] (envStep L (z, x, ns)) := ⟨nmS.p, nmS.l, (fun _ h => nomatch h)⟩
        have mp2 : min (i + 1) hd ≤ (if sOf x = "point" then pts ++ [z] else pts).length := by
          by_cases c : i < hd
          · have ex : x = "free" := by
              by_cases e : x = "free"
              · exact e
              · have := hnf e; omega
            rw [if_pos (by rw [ex]; decide +kernel), List.length_append]
            simp only [List.length_cons, List.length_nil]
            omega
          · split
            · rw [List.length_append]; omega
            · omega
        refine ⟨_, _, _, _, b10, us ++ [.ref tt], ts ++ [(z, x, ns, d)], _, _, rfl, by rw [eL2]; exact al16.setR _, (hp15.same s16).updR al16.np.1.symm, by omega, rws, ?_, by rw [eL2]; exact nmS', ?_, ?_, mp2, lif _ pts lp, lif _ lns ll, by rw [List.length_append, lt]; rfl⟩
        · refine vp.snoc ?_
          rw [hL]
          exact ⟨nz, sok, hf, hw, w0, wle⟩
        · intro j t hj hl
          rcases snocAt j t hj with h | ⟨rfl, rfl⟩
          · exact fa j t h hl
          · by_cases e : x = "free"
            · exact e
            · have := hnf e; omega
        · intro j t hj hl
          rcases snocAt j t hj with h | ⟨rfl, rfl⟩
          · exact ha j t h hl
          · intro e
            have := hfree e
            omega
      · rintro σ H1 ⟨y6, y7, y8, y9, b1, us, ts, pts, lns, rfl, al, hp1, hb1, rw_, vp, nm, fa, ha, mp, lp, ll, lt⟩
        exact J _ _ ⟨_, _, _, _, b1, us, ts, pts, lns, rfl, al, hp1, by omega, rw_, vp, ha, by omega, by omega⟩
    rintro σ H1 ⟨y6, y7, y8, y9, b1, us, ts, pts, lns, rfl, al, hp1, hb1, rw_, vp, ha, l4, l60⟩
    repeat walk_at "st"
    exact q R us ts b1 H1 al.bt hp1 hb1 al.fr.1 al.eR rw_ vp (frN_at ha) l4 l60
  ) only [↓Mb.dischW]
theorem ok_long (F : Fn K mg "_law_long" s_long) (G_take : Kn P w K mg base 1 "_law_take" ["_law_pool_here", "_law_wide"] spTake) (G_name : Kn P w K mg base 2 "_law_name" ["_law_pool_here", "_law_had"] (spNameR K)) (G_low : Kn P w K mg base 2 "_law_low" ["_law_top", "_law_bottom"] spLow) (z_max : mg "max" = none) (z_min : mg "min" = none) (z_range : mg "range" = none) : Kn P w K mg base 4 "_law_long" ["_law_pool_here", "_law_head", "_law_goal"] (spLongT K) := by
  refine Mb.ofW ?_
  simp (discharger := with_unfolding_all
    refine F.kn sc_long (fun vs H Q E h => ?_) (fun f cdv A0 outer s H vs Q E hr h => ?_) (fun _ _ _ _ _ _ us hl => match us, hl with | [_, _, _], _ => rfl)
    · obtain ⟨p, b, hd, goal, rfl, _⟩ := h
      rfl
    obtain ⟨p, b, hd, goal, rfl, hp, hb, h2, h5, g1, g24, q⟩ := h
    refine ⟨_, (pss_cons (ps_set (i := 3) sc_long.nd rfl (.inl rfl) (pe_lst pa_nil))
      (pss_cons (ps_for PassesOwn.never rfl (pi_range1 (by rfl) z_range (pa_cons (pv 1) pa_nil)) (pg_name (i := 4) sc_long.nd rfl (.inl rfl))
      (pss_cons (ps_set (i := 5) sc_long.nd rfl (.inl rfl) (pe_kn G_name (hr.mono (by decide)) (by rfl) (pa_cons (pv 0) (pa_cons (pe_lc (own := [("_law_one", 6), ("_law_making", 7)]) (g := gTup K 2 (gCons (gName 6) (gCons (gName 7) gNil))) (by rfl) sc_long.nd (pi_list (pv 3)) (blkOk_by (own := [("_law_one", 6), ("_law_making", 7)]) (N := ["_law_pool_here", "_law_head", "_law_goal", "_law_row", "_law_k", "_law_name_here", "_law_one", "_law_making", "_law_x", "_law_other"]) (sc := (defScope s_long)) (by decide +kernel)) (fun _ _ _ _ _ => pg_tup (by rfl) (pgs_cons (pg_name (i := 6) sc_long.nd rfl (.inl rfl)) (pgs_cons (pg_name (i := 7) sc_long.nd rfl (.inl rfl)) pgs_nil))) (fun _ _ _ _ _ => pts_nil) (fun _ _ _ _ _ => (pv 6))) pa_nil))))
      (pss_cons (ps_set (i := 8) sc_long.nd rfl (.inl rfl) (pe_tup (pa_cons (pe_op op_sub (pe_kn G_take (hr.mono (by decide)) (by rfl) (pa_cons (pv 0) (pa_cons pe_int pa_nil))) pe_int) (pa_cons pe_int pa_nil))))
      (pss_one (ps_expr (pe_bm PySem.F.plainAttrs_list PySem.F.slot_list_append PySem.F.type_list_append mt_append (pv 3) (pa_cons (pe_tup (pa_cons (pv 5) (pa_cons (pe_tup (pa_cons pe_str (pa_cons (pv 8) (pa_cons (pe_tup (pa_cons (pe_op op_sub (pe_kn G_take (hr.mono (by decide)) (by rfl) (pa_cons (pv 0) (pa_cons pe_int pa_nil))) pe_int) (pa_cons pe_int pa_nil))) pa_nil)))) pa_nil))) pa_nil)))))))
      (pss_cons (ps_for PassesOwn.never rfl (pi_range2 (by rfl) z_range (pa_cons pe_int (pa_cons (pv 2) pa_nil))) (pg_name (i := 4) sc_long.nd rfl (.inl rfl))
      (pss_cons (ps_set (i := 5) sc_long.nd rfl (.inl rfl) (pe_kn G_name (hr.mono (by decide)) (by rfl) (pa_cons (pv 0) (pa_cons (pe_lc (own := [("_law_one", 6), ("_law_making", 7)]) (g := gTup K 2 (gCons (gName 6) (gCons (gName 7) gNil))) (by rfl) sc_long.nd (pi_list (pv 3)) (blkOk_by (own := [("_law_one", 6), ("_law_making", 7)]) (N := ["_law_pool_here", "_law_head", "_law_goal", "_law_row", "_law_k", "_law_name_here", "_law_one", "_law_making", "_law_x", "_law_other"]) (sc := (defScope s_long)) (by decide +kernel)) (fun _ _ _ _ _ => pg_tup (by rfl) (pgs_cons (pg_name (i := 6) sc_long.nd rfl (.inl rfl)) (pgs_cons (pg_name (i := 7) sc_long.nd rfl (.inl rfl)) pgs_nil))) (fun _ _ _ _ _ => pts_nil) (fun _ _ _ _ _ => (pv 6))) pa_nil))))
      (pss_cons (ps_set (i := 9) sc_long.nd rfl (.inl rfl) (pe_ix ix_tup (pe_ix ix_list (pv 3) (pe_callB (call_min2 (by rfl)) (by rfl) z_min (by decide +kernel) (pa_cons (pv 4) (pa_cons (pe_op op_sub (pv 1) pe_int) pa_nil))) (fun _ _ => rfl)) pe_int (fun _ _ => rfl)))
      (pss_cons (ps_if (pt_cmpR op_ge (pv 4) (pv 1) (nomark _))
      (pss_one (ps_set (i := 9) sc_long.nd rfl (.inl rfl) (pe_ix ix_tup (pe_ix ix_list (pv 3) (pe_kn G_take (hr.mono (by decide)) (by rfl) (pa_cons (pv 0) (pa_cons (pv 1) pa_nil))) (fun _ _ => rfl)) pe_int (fun _ _ => rfl))))
      pss_nil)
      (pss_cons (ps_set (i := 7) sc_long.nd rfl (.inl rfl) (pe_tup (pa_cons (pe_ix ix_list (pe_lst (pa_cons pe_str (pa_cons pe_str (pa_cons pe_str (pa_cons pe_str pa_nil))))) (pe_kn G_take (hr.mono (by decide)) (by rfl) (pa_cons (pv 0) (pa_cons pe_int pa_nil))) (fun _ _ => rfl)) (pa_cons (pe_ix ix_tup (pe_ix ix_list (pv 3) (pe_callB (call_max2 (by rfl)) (by rfl) z_max (by decide +kernel) (pa_cons pe_int (pa_cons (pe_op op_sub (pe_op op_add (pv 4) (pv 1)) pe_int) pa_nil))) (fun _ _ => rfl)) pe_int (fun _ _ => rfl)) (pa_cons (pv 9) pa_nil)))))
      (pss_cons (ps_if (pt_cmpR op_eq (pv 4) pe_int (nomark _))
      (pss_one (ps_set (i := 7) sc_long.nd rfl (.inl rfl) (pe_tup (pa_cons (pe_ix ix_tup (pv 7) pe_int (fun _ _ => rfl)) (pa_cons (pe_ix ix_tup (pe_ix ix_list (pv 3) pe_int (fun _ _ => rfl)) pe_int (fun _ _ => rfl)) (pa_cons (pv 9) pa_nil))))))
      pss_nil)
      (pss_cons (ps_if (pt_cmpR op_eq (pe_ix ix_tup (pv 7) pe_int (fun _ _ => rfl)) pe_str (nomark _))
      (pss_one (ps_set (i := 7) sc_long.nd rfl (.inl rfl) (pe_op op_catT (pv 7) (pe_tup (pa_cons (pe_kn G_low (hr.mono (by decide)) (by rfl) (pa_cons (pe_op op_sub (pe_kn G_take (hr.mono (by decide)) (by rfl) (pa_cons (pv 0) (pa_cons pe_int pa_nil))) pe_int) (pa_cons (pe_op op_add pe_int (pe_kn G_take (hr.mono (by decide)) (by rfl) (pa_cons (pv 0) (pa_cons pe_int pa_nil)))) pa_nil))) pa_nil)))))
      pss_nil)
      (pss_one (ps_expr (pe_bm PySem.F.plainAttrs_list PySem.F.slot_list_append PySem.F.type_list_append mt_append (pv 3) (pa_cons (pe_tup (pa_cons (pv 5) (pa_cons (pv 7) pa_nil))) pa_nil)))))))))))
      (pss_one (ps_ret (pv 3)))))), ?_⟩
    show (_ : TS) _ [some (.ref p), some (.int (hd : Int)), some (.int (goal : Int)), none, none, none, none, none, none, none] _
    repeat walk_at "st"
    refine ⟨sz rfl, fun R nR => ?_⟩
    obtain ⟨H0, e0, s0, k0⟩ := nw nR (.lst [])
    rw [← e0]
    clear e0
    have nRp := hp.ne2 nR
    have hp0 := hp.same s0
    walk_at "st"
    with_reducible refine r_cut (fun σ H' => ∃ (y4 y5 y6 y7 y8 y9 : Option V) (b' : Int) (us : List V) (ts : List Thq), σ = [some (.ref p), some (.int (hd : Int)), some (.int (goal : Int)), some (.ref R), y4, y5, y6, y7, y8, y9] ∧ But p H H' ∧ Pl H' p b' ∧ b' ≤ b + 1000 ∧ H' R = some (.lst us) ∧ Rwq K H' us ts ∧ Vp (goal : Int) [] ts ∧ FreeAt ts hd ∧ WtAt ts hd ∧ ts.length = hd) ?U1 ?V1
    case V1 =>
      intro N J
      unfold tFor iRng1
      repeat walk_at "st"
      refine ⟨(hd : Int), rfl, by omega, by omega, ?_⟩
      rw [show ((hd : Int)).toNat = hd from by omega]
      refine for_range (n := hd) (fun i σ H' => ∃ (y4 y5 y6 y7 y8 y9 : Option V) (b' : Int) (us : List V) (ts : List Thq), σ = [some (.ref p), some (.int (hd : Int)), some (.int (goal : Int)), some (.ref R), y4, y5, y6, y7, y8, y9] ∧ But p H H' ∧ Pl H' p b' ∧ b' ≤ b + 100 * i ∧ H' R = some (.lst us) ∧ Rwq K H' us ts ∧ Vp (goal : Int) [] ts ∧ FreeAt ts hd ∧ WtAt ts hd ∧ ts.length = i) ?_ ?_ ?_
      · exact ⟨_, _, _, _, _, _, b, [], [], rfl, But.same s0, hp0, by omega, k0, .nil, trivial, (fun _ _ h => nomatch h), (fun _ _ h => nomatch h), rfl⟩
      · rintro i σ H1 hi ⟨y4, y5, y6, y7, y8, y9, b1, us, ts, rfl, bt, hp1, hb1, eR, rw_, vp, fa, wa, lt⟩
        clear J hp hp0 s0 k0
        have lu := rw_.len
        have vr := vp.vr (show (goal : Int) ≤ 40 by omega)
        repeat walk_at "st"
        refine r_lcM ?_
        repeat walk_at "st"
        refine lc_things (fun _ => true) (fun t => .str t.1) (lstOf eR) rw_.rws (by omega) (fun _ _ => rfl) (fun n t m H' _ g mk Rr k => k H' (Same.refl _)) (fun n t m H' _ g mk Rr k => ?_) fun q1 H2 s2 nq k2 => ?_
        · repeat walk_at "st"
          exact k H' (Same.refl _)
        have k2' : H2 q1 = some (.lst ((nmsT (ts.map thOf)).map V.str)) := by
          rw [k2, List.filter_eq_self.mpr (fun _ _ => rfl)]
          unfold nmsT
          simp only [List.map_map]
          rfl
        have nqp := hp1.ne2 nq
        clear k2 nq
        repeat walk_at "st"
        refine ⟨p, q1, _, nmsT (ts.map thOf), rfl, hp1.same s2, by omega, lstOf k2', nqp.symm, by unfold nmsT; rw [List.length_map, List.length_map]; omega, fun z H3 c3 hp3 sok nz => ?_⟩
        have b13 : But p H1 H3 := (But.same s2).trans c3
        have eR3 := b13 _ _ nRp.symm eR
        have rw3 := rw_.kp (Kp.but b13 hp1)
        have bt3 := bt.trans b13
        clear s2 c3 b13 eR rw_ bt k2'
        repeat walk_at "st"
        refine ⟨p, _, _, rfl, hp3, by omega, by decide, by decide, fun r1 H4 c4 hp4 l1 u1 => ?_⟩
        repeat walk_at "st"
        refine ⟨sz rfl, fun a1 na1 => ?_⟩
        obtain ⟨H5, e5, s5, k5⟩ := nw na1 (.tup [V.int (r1 - 4), .int 1])
        rw [← e5]
        clear e5
        have hp5 := hp4.same s5
        have b5 : But p H3 H5 := c4.trans (But.same s5)
        have eR5 := b5 _ _ nRp.symm eR3
        repeat walk_at "st"
        refine r_bm ?_
        repeat walk_at "st"
        refine ⟨.inl ⟨rfl, _, lstOf eR5⟩, ?_⟩
        repeat walk_at "st"
        refine ⟨p, _, _, rfl, hp5, by omega, by decide, by decide, fun r2 H6 c6 hp6 l2 u2 => ?_⟩
        repeat walk_at "st"
        refine ⟨sz rfl, fun a2 na2 => ?_⟩
        obtain ⟨H7, e7, s7, k7⟩ := nw na2 (.tup [V.int (r2 - 4), .int 1])
        rw [← e7]
        clear e7
        repeat walk_at "st"
        refine ⟨sz rfl, fun m0 nm0 => ?_⟩
        obtain ⟨H8, e8, s8, k8⟩ := nw nm0 (.tup [V.str "free", .ref a1, .ref a2])
        rw [← e8]
        clear e8
        repeat walk_at "st"
        refine ⟨sz rfl, fun tt ntt => ?_⟩
        obtain ⟨H9, e9, s9, k9⟩ := nw ntt (.tup [V.str z, .ref m0])
        rw [← e9]
        clear e9
        obtain ⟨rx, fx, sx⟩ := Fb.fqT (K := K) (fb_int (t := r1 - 4) (by omega)) (tupOf k5)
        obtain ⟨ry, fy, sy⟩ := Fb.fqT (K := K) (fb_int (t := r2 - 4) (by omega)) (tupOf k7)
        have s79 := s7.trans (s8.trans s9)
        have mq : Mq K H9 m0 "free" [] (.fr rx ry) := ⟨[.ref a1, .ref a2], tupOf (s9 _ _ k8), rfl, _, _, rfl, (fx.kp (Kp.but c6 hp5)).up s79, fy.up (s8.trans s9)⟩
        have b9 : But p H3 H9 := b5.trans (c6.trans (But.same s79))
        have eR9 := b9 _ _ nRp.symm eR3
        have rw9 := rw3.kp (Kp.but b9 hp3)
        have hp9 := hp6.same s79
        repeat walk_at "st"
        refine ⟨R, _, .ref tt, rfl, rfl, eR9, Nat.lt_of_lt_of_le (show us.length < 64 by omega) (by decide), ?_⟩
        have kp10 : Kp K H9 (upd H9 R (.lst (us ++ [.ref tt]))) := kp_list eR9
        have nz' : z ∉ nmsE (envOf [] (ts.map thOf)) := by rw [nms_env0]; exact nz
        have tg : Tg K (upd H9 R (.lst (us ++ [.ref tt]))) (.ref tt) ((z, "free", [], Tail.fr rx ry) : Thq) := ⟨tt, m0, rfl, kp10 _ _ (tupOf k9), mq.kp kp10⟩
        refine ⟨_, _, _, _, _, _, _, us ++ [.ref tt], ts ++ [((z, "free", [], Tail.fr rx ry) : Thq)], rfl, but_updR (bt3.trans b9) nR, hp9.updR nRp, by omega, upd_same, rwq_snocQ (rw9.kp kp10) tg, vp.snoc ⟨nz', sok, (show FitsE "free" [] _ from ⟨"point", [], by decide +kernel, .nil⟩), .inl ⟨rfl, _, _, rfl⟩, by rw [wOf_free]; decide, by rw [wOf_free]; omega⟩, ?_, wtAt_snoc wa nz' sok (show sOf "free" = "point" by decide +kernel) (by rw [if_pos (by omega)]; exact wOf_free), by rw [List.length_append, lt]; rfl⟩
        intro j t hj hl
        by_cases c : j < ts.length
        · rw [List.getElem?_append_left c] at hj
          exact fa j t hj hl
        · rw [List.getElem?_append_right (by omega)] at hj
          have c2 : j - ts.length = 0 := by
            have := (List.getElem?_eq_some_iff.mp hj).1
            simp at this
            omega
          rw [c2] at hj
          cases hj
          rfl
      · rintro σ H1 ⟨y4, y5, y6, y7, y8, y9, b1, us, ts, rfl, bt, hp1, hb1, eR, rw_, vp, fa, wa, lt⟩
        exact J _ _ ⟨_, _, _, _, _, _, b1, us, ts, rfl, bt, hp1, by omega, eR, rw_, vp, fa, wa, lt⟩
    clear hp0 s0 k0
    rintro σ H1 ⟨y4, y5, y6, y7, y8, y9, b1, us1, ts1, rfl, bt1, hp1, hb1, eR1, rw1, vp1, fa1, wa1, lt1⟩
    with_reducible refine r_cut (fun σ H' => ∃ (y4 y5 y6 y7 y8 y9 : Option V) (b' : Int) (us : List V) (ts : List Thq), σ = [some (.ref p), some (.int (hd : Int)), some (.int (goal : Int)), some (.ref R), y4, y5, y6, y7, y8, y9] ∧ But p H H' ∧ Pl H' p b' ∧ b' ≤ b + 8000 ∧ H' R = some (.lst us) ∧ Rwq K H' us ts ∧ Vp (goal : Int) [] ts ∧ HungAt ts hd ∧ ts.length = hd + goal - 1) ?U2 ?V2
    case V2 =>
      intro N J
      unfold tFor iRng2
      repeat walk_at "st"
      refine ⟨1, (goal : Int), rfl, ⟨by omega, by omega, by omega, by omega⟩, ?_⟩
      rw [show ((goal : Int) - 1).toNat = goal - 1 by omega]
      refine for_range (n := goal - 1) (fun i σ H' => ∃ (y4 y5 y6 y7 y8 y9 : Option V) (b' : Int) (us : List V) (ts : List Thq), σ = [some (.ref p), some (.int (hd : Int)), some (.int (goal : Int)), some (.ref R), y4, y5, y6, y7, y8, y9] ∧ But p H H' ∧ Pl H' p b' ∧ b' ≤ b + 1000 + 100 * i ∧ H' R = some (.lst us) ∧ Rwq K H' us ts ∧ Vp (goal : Int) [] ts ∧ HungAt ts hd ∧ WtAt ts hd ∧ ts.length = hd + i) ?_ ?_ ?_
      · exact ⟨_, _, _, _, _, _, b1, us1, ts1, rfl, bt1, hp1, by omega, eR1, rw1, vp1, fun j t hj hl => by have := (List.getElem?_eq_some_iff.mp hj).1; omega, wa1, by omega⟩
      · rintro i σ H2 hi ⟨y4, y5, y6, y7, y8, y9, b2, us, ts, rfl, bt, hp2, hb2, eR, rw_, vp, ha, wa, lt⟩
        clear J hp hp1 bt1 eR1 rw1 vp1 fa1 wa1 hb1
        have lu := rw_.len
        have vr := vp.vr (show (goal : Int) ≤ 40 by omega)
        repeat walk_at "st"
        refine r_lcM ?_
        repeat walk_at "st"
        refine lc_things (fun _ => true) (fun t => .str t.1) (lstOf eR) rw_.rws (by omega) (fun _ _ => rfl) (fun n t m H' _ g mk Rr k => k H' (Same.refl _)) (fun n t m H' _ g mk Rr k => ?_) fun q1 H3 s3 nq k3 => ?_
        · repeat walk_at "st"
          exact k H' (Same.refl _)
        have k3' : H3 q1 = some (.lst ((nmsT (ts.map thOf)).map V.str)) := by
          rw [k3, List.filter_eq_self.mpr (fun _ _ => rfl)]
          unfold nmsT
          simp only [List.map_map]
          rfl
        have nqp := hp2.ne2 nq
        clear k3 nq
        repeat walk_at "st"
        refine ⟨p, q1, _, nmsT (ts.map thOf), rfl, hp2.same s3, by omega, lstOf k3', nqp.symm, by unfold nmsT; rw [List.length_map, List.length_map]; omega, fun z H4 c4 hp4 sok nz => ?_⟩
        have b24 : But p H2 H4 := (But.same s3).trans c4
        have eR4 := b24 _ _ nRp.symm eR
        have rw4 := rw_.kp (Kp.but b24 hp2)
        have bt4 := bt.trans b24
        have nz' : z ∉ nmsE (envOf [] (ts.map thOf)) := by rw [nms_env0]; exact nz
        clear s3 c4 b24 eR rw_ bt k3'
        repeat walk_at "st"
        refine ⟨_, _, rfl, ?_⟩
        obtain ⟨o1, eo1, lo1⟩ : ∃ o : Nat, (if (hd : Int) - 1 < 1 + (i : Int) then (hd : Int) - 1 else 1 + (i : Int)) = (o : Int) ∧ o < hd := by
          by_cases c : (hd : Int) - 1 < 1 + (i : Int)
          · exact ⟨hd - 1, by rw [if_pos c]; omega, by omega⟩
          · exact ⟨1 + i, by rw [if_neg c]; omega, by omega⟩
        rw [eo1]
        obtain ⟨ao, mo, uo, hao, huo, tao⟩ := pick_at rw4 (show o1 < ts.length by omega)
        repeat walk_at "st"
        refine r_ixL (v := .ref ao) (lstOf eR4) (atI_nat hao) ?_
        repeat walk_at "st"
        with_reducible refine r_cut (fun σ H' => ∃ (y7 : Option V) (b' : Int) (o : Nat) (u : Thq), σ = [some (.ref p), some (.int (hd : Int)), some (.int (goal : Int)), some (.ref R), some (.int (1 + (i : Int))), some (.str z), y6, y7, y8, some (.str u.1)] ∧ But p H4 H' ∧ Pl H' p b' ∧ b' ≤ b + 1000 + 100 * i + 40 ∧ o < hd ∧ ts[o]? = some u) ?U3 ?V3
        case V3 =>
          intro N' J'
          repeat walk_at "st"
          refine r_ite (fun c => ?_) (fun c => ?_)
          · repeat walk_at "st"
            refine ⟨p, _, _, rfl, hp4, by omega, by omega, by omega, fun r3 H5 c5 hp5 v0 v1 => ?_⟩
            obtain ⟨o2, rfl⟩ := Int.eq_ofNat_of_zero_le v0
            obtain ⟨a2, m2, u2, ha2, hu2, ta2⟩ := pick_at (rw4.kp (Kp.but c5 hp4)) (show o2 < ts.length by omega)
            repeat walk_at "st"
            refine r_ixL (v := .ref a2) (lstOf (c5 _ _ nRp.symm eR4)) (atI_nat ha2) ?_
            repeat walk_at "st"
            exact J' _ _ ⟨_, _, o2, u2, rfl, c5, hp5, by omega, by omega, hu2⟩
          · repeat walk_at "st"
            exact J' _ _ ⟨_, _, o1, uo, rfl, But.refl _ _, hp4, by omega, lo1, huo⟩
        clear tao hao huo mo uo ao
        rintro σ H5 ⟨y7', b5, o, u, rfl, c5, hp5, hb5, lo, hu⟩
        have eR5 := c5 _ _ nRp.symm eR4
        have rw5 := rw4.kp (Kp.but c5 hp4)
        have bt5 := bt4.trans c5
        clear rw4 bt4 eR4 c5 hp4
        repeat walk_at "st"
        refine ⟨sz rfl, fun Lw nLw => ?_⟩
        obtain ⟨H6, e6, s6, k6⟩ := nw nLw (.lst [V.str "middle", .str "turn", .str "next", .str "share"])
        rw [← e6]
        clear e6
        have hp6 := hp5.same s6
        have nLp := hp5.ne2 nLw
        repeat walk_at "st"
        refine ⟨p, _, _, rfl, hp6, by omega, by decide, by decide, fun r4 H7 c7 hp7 w0 w1 => ?_⟩
        obtain ⟨x, ax, hx⟩ : ∃ x : Str, atI [V.str "middle", .str "turn", .str "next", .str "share"] r4 = some (.str x) ∧ x ∈ fourW := by
          have c : r4 = 0 ∨ r4 = 1 ∨ r4 = 2 ∨ r4 = 3 := by omega
          rcases c with rfl | rfl | rfl | rfl
          · exact ⟨"middle", rfl, by decide⟩
          · exact ⟨"turn", rfl, by decide⟩
          · exact ⟨"next", rfl, by decide⟩
          · exact ⟨"share", rfl, by decide⟩
        repeat walk_at "st"
        refine r_ixL (v := .str x) (lstOf (c7 _ _ nLp.symm k6)) ax ?_
        have b57 : But p H5 H7 := (But.same s6).trans c7
        have eR7 := b57 _ _ nRp.symm eR5
        have rw7 := rw5.kp (Kp.but b57 hp5)
        have bt7 := bt5.trans b57
        clear rw5 bt5 eR5 s6 c7 k6 nLw nLp b57 hp5 hp6
        repeat walk_at "st"
        refine ⟨_, _, rfl, ?_⟩
        have em : (if 1 + (i : Int) + (hd : Int) - 2 > 0 then 1 + (i : Int) + (hd : Int) - 2 else 0) = ((hd + i - 1 : Nat) : Int) := by
          by_cases c : 1 + (i : Int) + (hd : Int) - 2 > 0
          · rw [if_pos c]; omega
          · omega
        rw [em]
        obtain ⟨al, ml, tl, hal, htl, tal⟩ := pick_at rw7 (show hd + i - 1 < ts.length by omega)
        repeat walk_at "st"
        refine r_ixL (v := .ref al) (lstOf eR7) (atI_nat hal) ?_
        repeat walk_at "st"
        refine ⟨sz rfl, fun m nm => ?_⟩
        obtain ⟨H8, e8, s8, k8⟩ := nw nm (.tup [V.str x, .str tl.1, .str u.1])
        rw [← e8]
        clear e8
        walk_at "st"
        with_reducible refine r_cut (fun σ H' => ∃ (m : Addr) (ia : Nat) (t : Thq), σ = [some (.ref p), some (.int (hd : Int)), some (.int (goal : Int)), some (.ref R), some (.int (1 + (i : Int))), some (.str z), y6, some (.ref m), y8, some (.str u.1)] ∧ Same H7 H' ∧ H' m = some (.tup [V.str x, .str t.1, .str u.1]) ∧ ts[ia]? = some t ∧ (i = 0 → ia < hd) ∧ (1 ≤ i → ia = hd + i - 1)) ?U4 ?V4
        case V4 =>
          intro N' J'
          repeat walk_at "st"
          refine r_ite (fun c => ?_) (fun c => ?_)
          · obtain ⟨a0, mm0, t0, ha0, ht0, ta0⟩ := pick_at rw7 (show 0 < ts.length by omega)
            have ta0' := s8.tp ta0
            have tm8 : SqT K H8 m [V.str x, .str tl.1, .str u.1] := tupOf k8
            repeat walk_at "st"
            refine r_ixL (v := .ref a0) (lstOf (s8 _ _ eR7)) (atI_nat ha0) ?_
            repeat walk_at "st"
            refine ⟨sz rfl, fun m2 nm2 => ?_⟩
            obtain ⟨H9, e9, s9, k9⟩ := nw nm2 (.tup [V.str x, .str t0.1, .str u.1])
            rw [← e9]
            clear e9
            repeat walk_at "st"
            exact J' _ _ ⟨m2, 0, t0, rfl, s8.trans s9, k9, ht0, fun _ => by omega, fun _ => by omega⟩
          · repeat walk_at "st"
            exact J' _ _ ⟨m, hd + i - 1, tl, rfl, s8, k8, htl, fun _ => by omega, fun _ => rfl⟩
        clear tal hal htl s8 k8 nm
        rintro σ H8 ⟨m, ia, t, rfl, s8, k8, ht, hi0, hi1⟩
        have eR8 := s8 _ _ eR7
        have rw8 := rw7.kp (Kp.same s8)
        have bt8 := bt7.trans (But.same s8)
        have hp8 := hp7.same s8
        clear rw7 bt7 eR7 s8 hp7
        have tm8 : SqT K H8 m [V.str x, .str t.1, .str u.1] := tupOf k8
        with_reducible refine r_cut (fun σ H' => ∃ (m : Addr) (d : Tail) (b' : Int), σ = [some (.ref p), some (.int (hd : Int)), some (.int (goal : Int)), some (.ref R), some (.int (1 + (i : Int))), some (.str z), y6, some (.ref m), y8, some (.str u.1)] ∧ But p H8 H' ∧ Pl H' p b' ∧ b' ≤ b + 1000 + 100 * i + 60 ∧ Mq K H' m x [t.1, u.1] d ∧ ∀ q, d = .sh q → NrB q 1000) ?U5 ?V5
        case V5 =>
          intro N' J'
          repeat walk_at "st"
          refine r_ite (fun c => ?_) (fun c => ?_)
          · repeat walk_at "st"
            refine ⟨p, _, _, rfl, hp8, by omega, by decide, by decide, fun s1 H9 c9 hp9 v0 v1 => ?_⟩
            repeat walk_at "st"
            refine ⟨p, _, _, rfl, hp9, by omega, by decide, by decide, fun s2 H10 c10 hp10 u0 u1 => ?_⟩
            obtain ⟨n1, rfl⟩ := Int.eq_ofNat_of_zero_le v0
            obtain ⟨n2, rfl⟩ := Int.eq_ofNat_of_zero_le u0
            repeat walk_at "st"
            refine ⟨_, _, rfl, by omega, show Sm 8000 _ from (show Sm 10 (1 + (n2 : Int)) by unfold Sm; omega).mono (by decide), fun ff H11 s11 nf ef => ?_⟩
            repeat walk_at "st"
            refine ⟨sz rfl, fun tq ntq => ?_⟩
            obtain ⟨H12, e12, s12, k12⟩ := nw ntq (.tup [V.ref ff])
            rw [← e12]
            clear e12
            have b12 : But p H8 H12 := (c9.trans c10).trans (But.same (s11.trans s12))
            repeat walk_at "st"
            refine r_cat (hp8.tup b12 tm8) (tupOf k12) (by simp) (sz4 (by simp)) fun m2 H13 s13 t13 => ?_
            repeat walk_at "st"
            have nr := low_nr ⟨n1, by omega⟩ ⟨n2, by omega⟩
            have fq : Fq K H13 (.ref ff) (Rat.divInt ((n1 : Int) - 6) (1 + (n2 : Int))) := (Fq.of _ (by omega) rfl ef).up (s12.trans s13)
            exact J' _ _ ⟨m2, .sh (Rat.divInt ((n1 : Int) - 6) (1 + (n2 : Int))), _, rfl, b12.trans (But.same s13), hp10.same (s11.trans (s12.trans s13)), by omega, ⟨[.ref ff], t13, c, .ref ff, rfl, fq⟩, fun q e => by cases e; exact nr⟩
          · repeat walk_at "st"
            have f4 : ∀ y ∈ fourW, y ≠ "free" ∧ y ≠ "cut" := by decide +kernel
            exact J' _ _ ⟨m, .no, _, rfl, But.refl _ _, hp8, by omega, ⟨[], tm8, (f4 x hx).1, c, (f4 x hx).2, rfl⟩, fun q e => by cases e⟩
        rintro σ H9 ⟨m2, d, b9, rfl, c9, hp9, hb9, mq, hs⟩
        have eR9 := c9 _ _ nRp.symm eR8
        have rw9 := rw8.kp (Kp.but c9 hp8)
        have bt9 := bt8.trans c9
        clear rw8 bt8 eR8 c9 hp8 tm8 k8
        repeat walk_at "st"
        refine r_bm ?_
        repeat walk_at "st"
        refine ⟨.inl ⟨rfl, _, lstOf eR9⟩, ?_⟩
        repeat walk_at "st"
        refine ⟨sz rfl, fun tt ntt => ?_⟩
        obtain ⟨H10, e10, s10, k10⟩ := nw ntt (.tup [V.str z, .ref m2])
        rw [← e10]
        clear e10
        have eR10 := s10 _ _ eR9
        repeat walk_at "st"
        refine ⟨R, _, .ref tt, rfl, rfl, eR10, Nat.lt_of_lt_of_le (show us.length < 64 by omega) (by decide), ?_⟩
        have kp11 : Kp K H10 (upd H10 R (.lst (us ++ [.ref tt]))) := kp_list eR10
        have tg : Tg K (upd H10 R (.lst (us ++ [.ref tt]))) (.ref tt) ((z, x, [t.1, u.1], d) : Thq) := ⟨tt, m2, rfl, kp11 _ _ (tupOf k10), (mq.kp (Kp.same s10)).kp kp11⟩
        obtain ⟨ew, fx, _, _, sp⟩ := four_w (L := envOf [] (ts.map thOf)) (a := t.1) (c := u.1) hx
        obtain ⟨wt1, _⟩ := wa ia t ht
        obtain ⟨wt2, _⟩ := wa o u hu
        rw [if_pos lo] at wt2
        have wE : wOf x [t.1, u.1] (envOf [] (ts.map thOf)) = (i : Int) + 2 := by
          rw [ew, wt1, wt2]
          by_cases c : i = 0
          · rw [if_pos (hi0 c)]; omega
          · rw [if_neg (by have := hi1 (by omega); omega), hi1 (by omega)]; omega
        refine ⟨_, _, _, _, _, _, _, us ++ [.ref tt], ts ++ [((z, x, [t.1, u.1], d) : Thq)], rfl, but_updR (bt9.trans (But.same s10)) nR, (hp9.same s10).updR nRp, by omega, upd_same, rwq_snocQ ((rw9.kp (Kp.same s10)).kp kp11) tg, vp.snoc ⟨nz', sok, wtAt_fits wa hx ht hu, .inr ⟨fx, hs⟩, by rw [wE]; omega, by rw [wE]; omega⟩, ?_, wtAt_snoc wa nz' sok sp (by rw [if_neg (by omega)]; show wOf x [t.1, u.1] _ = _; rw [wE]; omega), by rw [List.length_append, lt]; simp only [List.length_cons, List.length_nil]; omega⟩
        intro j v hj hl
        by_cases c : j < ts.length
        · rw [List.getElem?_append_left c] at hj
          exact ha j v hj hl
        · rw [List.getElem?_append_right (by omega)] at hj
          have c2 : j - ts.length = 0 := by
            have := (List.getElem?_eq_some_iff.mp hj).1
            simp at this
            omega
          rw [c2] at hj
          cases hj
          exact (fig_noclaim fx).2.1
      · rintro σ H2 ⟨y4, y5, y6, y7, y8, y9, b2, us, ts, rfl, bt, hp2, hb2, eR, rw_, vp, ha, wa, lt⟩
        exact J _ _ ⟨_, _, _, _, _, _, b2, us, ts, rfl, bt, hp2, by omega, eR, rw_, vp, ha, by omega⟩
    rintro σ H2 ⟨y4, y5, y6, y7, y8, y9, b2, us, ts, rfl, bt, hp2, hb2, eR, rw_, vp, ha, lt⟩
    repeat walk_at "st"
    exact q R us ts b2 H2 bt hp2 (by omega) nR eR rw_ vp (frN_at ha) lt
  ) only [↓Mb.dischW]
theorem ok_law {f : Addr} {fd : FuncData} (FL : FnP K "law" s_law f fd) (G_pool : Kn P w K mg base 1 "_law_pool" ["_law_script", "_law_at"] (spPool K)) (G_take : Kn P w K mg base 1 "_law_take" ["_law_pool_here", "_law_wide"] spTake) (G_long : Kn P w K mg base 4 "_law_long" ["_law_pool_here", "_law_head", "_law_goal"] (spLongT K)) (G_steep : Kn P w K mg base 4 "_law_steep" ["_law_pool_here", "_law_head", "_law_most"] (spSteepT K)) (G_heavy : Kn P w K mg base 3 "_law_heavy" ["_law_part_here"] (spHeavyT K)) (G_look : Kn P w K mg base 10 "_law_look" ["_law_pool_here", "_law_row", "_law_name_here"] (spLookT K)) : FnOk P w K mg base CX0 (10 + 1) f fd ["_law_script"] (spLaw K) := by
  refine Mb.ofW ?_
  simp (discharger := with_unfolding_all
    refine fnp_ok FL sc_law (fun vs H Q E h => ?_) (fun cdv A outer s H vs Q E hr h => ?_)
    · obtain ⟨a, ns, rfl, _⟩ := h
      rfl
    obtain ⟨a, ns, rfl, hS, hl, q⟩ := h
    refine ⟨_, (pss_cons (ps_set (i := 1) sc_law.nd rfl (.inl rfl) (pe_kn G_pool (hr.mono (by decide)) (by rfl) (pa_cons (pv 0) (pa_cons pe_int pa_nil))))
      (pss_cons (ps_set (i := 2) sc_law.nd rfl (.inl rfl) (pe_kn G_take (hr.mono (by decide)) (by rfl) (pa_cons (pv 1) (pa_cons pe_int pa_nil))))
      (pss_cons (ps_set (i := 3) sc_law.nd rfl (.inl rfl) (pe_op op_add pe_int (pe_kn G_take (hr.mono (by decide)) (by rfl) (pa_cons (pv 1) (pa_cons pe_int pa_nil)))))
      (pss_cons (ps_if (pt_cmpR op_eq (pv 2) pe_int (nomark _))
      (pss_one (ps_set (i := 4) sc_law.nd rfl (.inl rfl) (pe_kn G_long (hr.mono (by decide)) (by rfl) (pa_cons (pv 1) (pa_cons (pv 3) (pa_cons (pe_ix ix_list (pe_lst (pa_cons pe_int (pa_cons pe_int (pa_cons pe_int (pa_cons pe_int pa_nil))))) (pe_op op_sub (pv 3) pe_int) (fun _ _ => rfl)) pa_nil))))))
      (pss_one (ps_set (i := 4) sc_law.nd rfl (.inl rfl) (pe_kn G_steep (hr.mono (by decide)) (by rfl) (pa_cons (pv 1) (pa_cons (pv 3) (pa_cons (pe_ix ix_list (pe_lst (pa_cons pe_int (pa_cons pe_int (pa_cons pe_int (pa_cons pe_int pa_nil))))) (pe_op op_sub (pv 3) pe_int) (fun _ _ => rfl)) pa_nil)))))))
      (pss_cons (ps_set (i := 5) sc_law.nd rfl (.inl rfl) (pe_kn G_heavy (hr.mono (by decide)) (by rfl) (pa_cons (pv 4) pa_nil)))
      (pss_cons (ps_set (i := 6) sc_law.nd rfl (.inl rfl) (pe_ix ix_tup (pe_ix ix_list (pv 4) pe_int (fun _ _ => rfl)) pe_int (fun _ _ => rfl)))
      (pss_cons (ps_for PassesOwn.never rfl (pi_list (pv 4)) (pg_tup (by rfl) (pgs_cons (pg_name (i := 7) sc_law.nd rfl (.inl rfl)) (pgs_cons (pg_name (i := 8) sc_law.nd rfl (.inl rfl)) pgs_nil)))
      (pss_one (ps_if (pt_cmpR op_ge (pe_dget (u1 hr.units) (pv 5) (pv 7) (fun _ _ => rfl)) (pe_dget (u1 hr.units) (pv 5) (pv 6) (fun _ _ => rfl)) (nomark _))
      (pss_one (ps_set (i := 6) sc_law.nd rfl (.inl rfl) (pv 7)))
      pss_nil)))
      (pss_cons (ps_if (pt_not (pt_val (pe_kn G_look (hr.mono (by decide)) (by rfl) (pa_cons (pe_kn G_pool (hr.mono (by decide)) (by rfl) (pa_cons (pv 0) (pa_cons pe_int pa_nil))) (pa_cons (pv 4) (pa_cons (pv 6) pa_nil))))))
      (pss_one (ps_ret pe_bl))
      pss_nil)
      (pss_one (ps_ret (pe_kn G_look (hr.mono (by decide)) (by rfl) (pa_cons (pe_kn G_pool (hr.mono (by decide)) (by rfl) (pa_cons (pv 0) (pa_cons pe_int pa_nil))) (pa_cons (pv 4) (pa_cons (pe_ix ix_tup (pe_ix ix_list (pv 4) (pe_un un_neg pe_int) (fun _ _ => rfl)) pe_int (fun _ _ => rfl)) pa_nil)))))))))))))), ?_⟩
    show (_ : TS) _ [some (.ref a), none, none, none, none, none, none, none, none] _
    repeat walk_at "st"
    refine ⟨a, ns, _, rfl, hS, hl, by decide, by decide, fun p H1 g1 np hp1 => ?_⟩
    repeat walk_at "st"
    refine ⟨p, _, _, rfl, hp1, by omega, by decide, by decide, fun wy H2 c2 hp2 w0 w1 => ?_⟩
    repeat walk_at "st"
    refine ⟨p, _, _, rfl, hp2, by omega, by decide, by decide, fun r H3 c3 hp3 r0 r1 => ?_⟩
    obtain ⟨hd, ehd⟩ : ∃ hd : Nat, 2 + r = (hd : Int) := ⟨(2 + r).toNat, by omega⟩
    have g3 : Same H H3 := Same.but g1 np (c2.trans c3)
    clear c2 c3 hp1 hp2 g1
    repeat walk_at "st"
    rw [ehd]
    with_reducible refine r_cut (fun σ H' => ∃ (R : Addr) (us : List V) (ts : List Thq) (W : Nat), σ = [some (.ref a), some (.ref p), some (.int wy), some (.int (hd : Int)), some (.ref R), none, none, none, none] ∧ Same H H' ∧ H' R = some (.lst us) ∧ Rwq K H' us ts ∧ Vp (W : Int) [] ts ∧ frN ts ≤ hd ∧ Wmax W hd ∧ 1 ≤ W ∧ W ≤ 40 ∧ 2 ≤ ts.length ∧ ts.length ≤ 60) ?U1 ?V1
    case V1 =>
      intro N J
      repeat walk_at "st"
      refine r_ite (fun c => ?_) (fun c => ?_)
      · repeat walk_at "st"
        refine ⟨sz rfl, fun l1 nl1 => ?_⟩
        obtain ⟨H4, e4, s4, k4⟩ := nw nl1 (.lst [V.int 24, .int 24, .int 12, .int 8])
        rw [← e4]
        clear e4
        obtain ⟨A_, aA, a1, a24, wA⟩ := goal_a r0 r1 ehd
        repeat walk_at "st"
        refine r_ixL (v := .int (A_ : Int)) (lstOf k4) aA ?_
        repeat walk_at "st"
        refine ⟨p, _, hd, A_, rfl, hp3.same s4, by omega, by omega, by omega, a1, a24, fun l us ts b' H5 c5 hp5 hb5 nl el rw5 vp5 fr5 lt5 => ?_⟩
        repeat walk_at "st"
        exact J _ _ ⟨l, us, ts, A_, rfl, Same.but (g3.trans s4) np c5, el, rw5, vp5, fr5, wA, a1, by omega, by omega, by omega⟩
      · repeat walk_at "st"
        refine ⟨sz rfl, fun l1 nl1 => ?_⟩
        obtain ⟨H4, e4, s4, k4⟩ := nw nl1 (.lst [V.int 14, .int 14, .int 8, .int 6])
        rw [← e4]
        clear e4
        obtain ⟨A_, aA, a1, a24, wA⟩ := most_s r0 r1 ehd
        repeat walk_at "st"
        refine r_ixL (v := .int (A_ : Int)) (lstOf k4) aA ?_
        repeat walk_at "st"
        refine ⟨p, _, hd, A_, rfl, hp3.same s4, by omega, by omega, by omega, by omega, by omega, fun l us ts b' H5 c5 hp5 hb5 nl el rw5 vp5 fr5 lt5 l60 => ?_⟩
        repeat walk_at "st"
        exact J _ _ ⟨l, us, ts, A_, rfl, Same.but (g3.trans s4) np c5, el, rw5, vp5, fr5, wA, by omega, by omega, by omega, l60⟩
    rintro σ H7 ⟨R, us, ts, W, rfl, g7, eR, rw7, vp7, hfr, wm, w1', w40, l2, l60⟩
    have lu := rw7.len
    have vr := vp7.vr (show (W : Int) ≤ 40 by omega)
    clear hp3 g3
    repeat walk_at "st"
    refine ⟨R, us, ts, rfl, lstOf eR, rw7, vr, l60, fun t ht => ?_, fun D H8 s8 nD eD => ?_⟩
    · obtain ⟨i, hi⟩ := List.getElem?_of_mem ht
      exact (vp7.at hi).2.2.2.1.cut
    obtain ⟨a0, m0, t0, ha0, ht0, ta0⟩ := pick_at (rw7.kp (Kp.same s8)) (show 0 < ts.length by omega)
    repeat walk_at "st"
    refine r_ixL (v := .ref a0) (lstOf (s8 _ _ eR)) (atI_nat ha0) ?_
    repeat walk_at "st"
    have nmz : ∀ y ∈ ts.map (·.1), y ∈ nmsE (envOf [] (ts.map thOf)) := fun y hy => by rw [nms_env0, nmsQ]; exact hy
    with_reducible refine r_cut (fun σ H' => ∃ (z : Str) (y7 y8 : Option V), σ = [some (.ref a), some (.ref p), some (.int wy), some (.int (hd : Int)), some (.ref R), some (.ref D), some (.str z), y7, y8] ∧ z ∈ ts.map (·.1) ∧ H' = H8) ?U2 ?V2
    case V2 =>
      intro N J
      refine ⟨.ref R, rfl, R, rfl, ⟨us, lstOf (s8 _ _ eR)⟩, ?_⟩
      refine for_list (xs := us) (fun i σ H' => ∃ (z : Str) (y7 y8 : Option V), σ = [some (.ref a), some (.ref p), some (.int wy), some (.int (hd : Int)), some (.ref R), some (.ref D), some (.str z), y7, y8] ∧ z ∈ ts.map (·.1) ∧ H' = H8) ?_ ?_ ?_ ?_
      · exact ⟨_, _, _, rfl, List.mem_map_of_mem (List.mem_of_getElem? ht0), rfl⟩
      · rintro i σ H' _ ⟨_, _, _, _, _, rfl⟩
        exact lstOf (s8 _ _ eR)
      · rintro i v σ H9 hv ⟨z, y7, y8, rfl, hz, rfl⟩
        obtain ⟨t, ht, a1, m1, rfl, ta1, _⟩ := (rw7.kp (Kp.same s8)).at hv
        have mt : t.1 ∈ ts.map (·.1) := List.mem_map_of_mem (List.mem_of_getElem? ht)
        refine r_gT ta1 rfl ?_
        refine r_g2 ?_
        repeat walk_at "st"
        refine r_dg ?_
        repeat walk_at "st"
        refine ⟨D, _, rfl, get_load eD (nmz _ mt), ?_⟩
        repeat walk_at "st"
        refine r_dg ?_
        repeat walk_at "st"
        refine ⟨D, _, rfl, get_load eD (nmz _ hz), ?_⟩
        repeat walk_at "st"
        refine r_ite (fun c => ?_) (fun c => ?_)
        · repeat walk_at "st"
          exact ⟨_, _, _, rfl, mt, rfl⟩
        · repeat walk_at "st"
          exact ⟨_, _, _, rfl, hz, rfl⟩
      · rintro σ H9 ⟨z, y7, y8, rfl, hz, rfl⟩
        exact J _ _ ⟨z, _, _, rfl, hz, rfl⟩
    rintro σ H9 ⟨z, y7, y8, rfl, hz, rfl⟩
    have look : ∀ {i : Int} {H' : Hp} {x : Str} {QQ : VK}, Same H7 H' → x ∈ ts.map (·.1) → ∀ {pp : Addr} {H'' : Hp} {b : Int}, Same H' H'' → H' pp = none → Pl H'' pp b → b ≤ 1500000 → (∀ H3, Same H7 H3 → QQ (.bl true) H3) → spLookT K [.ref pp, .ref R, .str x] H'' QQ E0 := fun {i H' x QQ} gs hx {pp H'' b} g' n' hp' hb k => by
      have gg := gs.trans g'
      exact ⟨pp, R, x, b, us, ts, W, hd, rfl, hp', hb, gg _ _ eR, ne_new (gs _ _ eR) n', rw7.kp (Kp.same gg), by omega, vp7, by omega, by omega, hfr, by omega, wm, hx, fun b' H3 k3 _ _ => k H3 (gs.trans (Same.but g' n' k3))⟩
    refine r_seq ?_
    repeat walk_at "st"
    refine ⟨a, ns, _, rfl, (g7.trans s8).seq hS, hl, by decide, by decide, fun p2 H11 g11 np2 hp11 => ?_⟩
    repeat walk_at "st"
    refine look (i := 0) s8 hz g11 np2 hp11 (by omega) fun H12 g12 => ?_
    repeat walk_at "st"
    refine ⟨a, ns, _, rfl, (g7.trans g12).seq hS, hl, by decide, by decide, fun p3 H13 g13 np3 hp13 => ?_⟩
    obtain ⟨a3, m3, t3, ha3, ht3, ta3⟩ := pick_at (rw7.kp (Kp.same (g12.trans g13))) (show ts.length - 2 < ts.length by omega)
    repeat walk_at "st"
    refine r_ixL (v := .ref a3) (lstOf ((g12.trans g13) _ _ eR)) (at_neg2 (by omega) (by rw [lu]; exact ha3)) ?_
    repeat walk_at "st"
    refine look (i := 0) g12 (List.mem_map_of_mem (List.mem_of_getElem? ht3)) g13 np3 hp13 (by omega) fun H17 g17 => ?_
    exact q H17
  ) only [↓Mb.dischW]
end
end Mb
namespace Mb
open PySem PySem.Spec PyProof.Rows L2
def d_sort_of : He.DefD := ⟨("sort_of", none), "sort_of", "sort_of", defArgs s_sort_of, defBody s_sort_of, defScope s_sort_of, [], []⟩
def d_wanted : He.DefD := ⟨("wanted", none), "wanted", "wanted", defArgs s_wanted, defBody s_wanted, defScope s_wanted, [], []⟩
def d_grounds : He.DefD := ⟨("grounds", none), "grounds", "grounds", defArgs s_grounds, defBody s_grounds, defScope s_grounds, [], []⟩
def d_weights : He.DefD := ⟨("weights", none), "weights", "weights", defArgs s_weights, defBody s_weights, defScope s_weights, [], []⟩
def d_beneath : He.DefD := ⟨("beneath", none), "beneath", "beneath", defArgs s_beneath, defBody s_beneath, defScope s_beneath, [], []⟩
def d_refuse_missing : He.DefD := ⟨("refuse_missing", none), "refuse_missing", "refuse_missing", defArgs s_refuse_missing, defBody s_refuse_missing, defScope s_refuse_missing, [], []⟩
def d_weight : He.DefD := ⟨("weight", none), "weight", "weight", defArgs s_weight, defBody s_weight, defScope s_weight, [], []⟩
def d_enter : He.DefD := ⟨("enter", none), "enter", "enter", defArgs s_enter, defBody s_enter, defScope s_enter, [], []⟩
def d_added : He.DefD := ⟨("added", none), "added", "added", defArgs s_added, defBody s_added, defScope s_added, [], []⟩
def d_taken : He.DefD := ⟨("taken", none), "taken", "taken", defArgs s_taken, defBody s_taken, defScope s_taken, [], []⟩
def d_scaled : He.DefD := ⟨("scaled", none), "scaled", "scaled", defArgs s_scaled, defBody s_scaled, defScope s_scaled, [], []⟩
def d_multiplied : He.DefD := ⟨("multiplied", none), "multiplied", "multiplied", defArgs s_multiplied, defBody s_multiplied, defScope s_multiplied, [], []⟩
def d_summed : He.DefD := ⟨("summed", none), "summed", "summed", defArgs s_summed, defBody s_summed, defScope s_summed, [], []⟩
def d_greatest_power : He.DefD := ⟨("greatest_power", none), "greatest_power", "greatest_power", defArgs s_greatest_power, defBody s_greatest_power, defScope s_greatest_power, [], []⟩
def d_packed : He.DefD := ⟨("packed", none), "packed", "packed", defArgs s_packed, defBody s_packed, defScope s_packed, [], []⟩
def d_joined : He.DefD := ⟨("joined", none), "joined", "joined", defArgs s_joined, defBody s_joined, defScope s_joined, [], []⟩
def d_unpacked : He.DefD := ⟨("unpacked", none), "unpacked", "unpacked", defArgs s_unpacked, defBody s_unpacked, defScope s_unpacked, [], []⟩
def d_free_at : He.DefD := ⟨("free_at", none), "free_at", "free_at", defArgs s_free_at, defBody s_free_at, defScope s_free_at, [], []⟩
def d_unknown : He.DefD := ⟨("unknown", none), "unknown", "unknown", defArgs s_unknown, defBody s_unknown, defScope s_unknown, [], []⟩
def d_figure_forms : He.DefD := ⟨("figure_forms", none), "figure_forms", "figure_forms", defArgs s_figure_forms, defBody s_figure_forms, defScope s_figure_forms, [], []⟩
def d_shared_out : He.DefD := ⟨("shared_out", none), "shared_out", "shared_out", defArgs s_shared_out, defBody s_shared_out, defScope s_shared_out, [], []⟩
def d_turned_about : He.DefD := ⟨("turned_about", none), "turned_about", "turned_about", defArgs s_turned_about, defBody s_turned_about, defScope s_turned_about, [], []⟩
def d_toward : He.DefD := ⟨("toward", none), "toward", "toward", defArgs s_toward, defBody s_toward, defScope s_toward, [], []⟩
def d_crossed : He.DefD := ⟨("crossed", none), "crossed", "crossed", defArgs s_crossed, defBody s_crossed, defScope s_crossed, [], []⟩
def d_cross : He.DefD := ⟨("cross", none), "cross", "cross", defArgs s_cross, defBody s_cross, defScope s_cross, [], []⟩
def d_line_at : He.DefD := ⟨("line_at", none), "line_at", "line_at", defArgs s_line_at, defBody s_line_at, defScope s_line_at, [], []⟩
def d_hinge_of_line : He.DefD := ⟨("hinge_of_line", none), "hinge_of_line", "hinge_of_line", defArgs s_hinge_of_line, defBody s_hinge_of_line, defScope s_hinge_of_line, [], []⟩
def d_squared : He.DefD := ⟨("squared", none), "squared", "squared", defArgs s_squared, defBody s_squared, defScope s_squared, [], []⟩
def d_worked : He.DefD := ⟨("worked", none), "worked", "worked", defArgs s_worked, defBody s_worked, defScope s_worked, [], []⟩
def d_rooted_in : He.DefD := ⟨("rooted_in", none), "rooted_in", "rooted_in", defArgs s_rooted_in, defBody s_rooted_in, defScope s_rooted_in, [], []⟩
def d_frees : He.DefD := ⟨("frees", none), "frees", "frees", defArgs s_frees, defBody s_frees, defScope s_frees, [], []⟩
def d_asked : He.DefD := ⟨("asked", none), "asked", "asked", defArgs s_asked, defBody s_asked, defScope s_asked, [], []⟩
def d_unknowns : He.DefD := ⟨("unknowns", none), "unknowns", "unknowns", defArgs s_unknowns, defBody s_unknowns, defScope s_unknowns, [], []⟩
def d_forms_of : He.DefD := ⟨("forms_of", none), "forms_of", "forms_of", defArgs s_forms_of, defBody s_forms_of, defScope s_forms_of, [], []⟩
def d_pool : He.DefD := ⟨("_law_pool", none), "_law_pool", "_law_pool", defArgs s_pool, defBody s_pool, defScope s_pool, [], []⟩
def d_take : He.DefD := ⟨("_law_take", none), "_law_take", "_law_take", defArgs s_take, defBody s_take, defScope s_take, [], []⟩
def d_gcd : He.DefD := ⟨("_law_gcd", none), "_law_gcd", "_law_gcd", defArgs s_gcd, defBody s_gcd, defScope s_gcd, [], []⟩
def d_low : He.DefD := ⟨("_law_low", none), "_law_low", "_law_low", defArgs s_low, defBody s_low, defScope s_low, [], []⟩
def d_whole : He.DefD := ⟨("_law_whole", none), "_law_whole", "_law_whole", defArgs s_whole, defBody s_whole, defScope s_whole, [], []⟩
def d_frac : He.DefD := ⟨("_law_frac", none), "_law_frac", "_law_frac", defArgs s_frac, defBody s_frac, defScope s_frac, [], []⟩
def d_place : He.DefD := ⟨("_law_place", none), "_law_place", "_law_place", defArgs s_place, defBody s_place, defScope s_place, [], []⟩
def d_name : He.DefD := ⟨("_law_name", none), "_law_name", "_law_name", defArgs s_name, defBody s_name, defScope s_name, [], []⟩
def d_l_grounds : He.DefD := ⟨("_law_grounds", none), "_law_grounds", "_law_grounds", defArgs s_l_grounds, defBody s_l_grounds, defScope s_l_grounds, [], []⟩
def d_sort : He.DefD := ⟨("_law_sort", none), "_law_sort", "_law_sort", defArgs s_sort, defBody s_sort, defScope s_sort, [], []⟩
def d_l_weight : He.DefD := ⟨("_law_weight", none), "_law_weight", "_law_weight", defArgs s_l_weight, defBody s_l_weight, defScope s_l_weight, [], []⟩
def d_form : He.DefD := ⟨("_law_form", none), "_law_form", "_law_form", defArgs s_form, defBody s_form, defScope s_form, [], []⟩
def d_power : He.DefD := ⟨("_law_power", none), "_law_power", "_law_power", defArgs s_power, defBody s_power, defScope s_power, [], []⟩
def d_worth : He.DefD := ⟨("_law_worth", none), "_law_worth", "_law_worth", defArgs s_worth, defBody s_worth, defScope s_worth, [], []⟩
def d_two : He.DefD := ⟨("_law_two", none), "_law_two", "_law_two", defArgs s_two, defBody s_two, defScope s_two, [], []⟩
def d_hung : He.DefD := ⟨("_law_hung", none), "_law_hung", "_law_hung", defArgs s_hung, defBody s_hung, defScope s_hung, [], []⟩
def d_part : He.DefD := ⟨("_law_part", none), "_law_part", "_law_part", defArgs s_part, defBody s_part, defScope s_part, [], []⟩
def d_made : He.DefD := ⟨("_law_made", none), "_law_made", "_law_made", defArgs s_made, defBody s_made, defScope s_made, [], []⟩
def d_got : He.DefD := ⟨("_law_got", none), "_law_got", "_law_got", defArgs s_got, defBody s_got, defScope s_got, [], []⟩
def d_l_spot : He.DefD := ⟨("_law_spot", none), "_law_spot", "_law_spot", defArgs s_l_spot, defBody s_l_spot, defScope s_l_spot, [], []⟩
def d_heavy : He.DefD := ⟨("_law_heavy", none), "_law_heavy", "_law_heavy", defArgs s_heavy, defBody s_heavy, defScope s_heavy, [], []⟩
def d_fit : He.DefD := ⟨("_law_fit", none), "_law_fit", "_law_fit", defArgs s_fit, defBody s_fit, defScope s_fit, [], []⟩
def d_look : He.DefD := ⟨("_law_look", none), "_law_look", "_law_look", defArgs s_look, defBody s_look, defScope s_look, [], []⟩
def d_steep : He.DefD := ⟨("_law_steep", none), "_law_steep", "_law_steep", defArgs s_steep, defBody s_steep, defScope s_steep, [], []⟩
def d_long : He.DefD := ⟨("_law_long", none), "_law_long", "_law_long", defArgs s_long, defBody s_long, defScope s_long, [], []⟩
def d_law : He.DefD := ⟨("law", none), "law", "law", defArgs s_law, defBody s_law, defScope s_law, [], []⟩
def fn : List He.DefD := [d_sort_of, d_wanted, d_grounds, d_weights, d_beneath, d_refuse_missing, d_weight, d_enter, d_added, d_taken, d_scaled, d_multiplied, d_summed, d_greatest_power, d_packed, d_joined, d_unpacked, d_free_at, d_unknown, d_figure_forms, d_shared_out, d_turned_about, d_toward, d_crossed, d_cross, d_line_at, d_hinge_of_line, d_squared, d_worked, d_rooted_in, d_frees, d_asked, d_unknowns, d_forms_of, d_pool, d_take, d_gcd, d_low, d_whole, d_frac, d_place, d_name, d_l_grounds, d_sort, d_l_weight, d_form, d_power, d_worth, d_two, d_hung, d_part, d_made, d_got, d_l_spot, d_heavy, d_fit, d_look, d_steep, d_long, d_law]
def fa : List He.Fa := [.glo "sort_of", .glo "wanted", .glo "grounds", .glo "weights", .glo "beneath", .glo "refuse_missing", .glo "weight", .glo "enter", .glo "added", .glo "taken", .glo "scaled", .glo "multiplied", .glo "summed", .glo "greatest_power", .glo "packed", .glo "joined", .glo "unpacked", .glo "free_at", .glo "unknown", .glo "figure_forms", .glo "shared_out", .glo "turned_about", .glo "toward", .glo "crossed", .glo "cross", .glo "line_at", .glo "hinge_of_line", .glo "squared", .glo "worked", .glo "rooted_in", .glo "frees", .glo "asked", .glo "unknowns", .glo "forms_of", .glo "_law_pool", .glo "_law_take", .glo "_law_gcd", .glo "_law_low", .glo "_law_whole", .glo "_law_frac", .glo "_law_place", .glo "_law_name", .glo "_law_grounds", .glo "_law_sort", .glo "_law_weight", .glo "_law_form", .glo "_law_power", .glo "_law_worth", .glo "_law_two", .glo "_law_hung", .glo "_law_part", .glo "_law_made", .glo "_law_got", .glo "_law_spot", .glo "_law_heavy", .glo "_law_fit", .glo "_law_look", .glo "_law_steep", .glo "_law_long", .glo "law", .free "abs", .free "bool", .free "int", .free "isinstance", .free "len", .free "list", .free "max", .free "min", .free "range", .free "reversed", .free "sorted", .free "str", .free "sum", .free "tuple", .glo "WORDS", .glo "WIDEST"]
abbrev R : PySem.W.OpenRow := PySem.W.OpenLaw.row PySem.Challenge.rw_movebook_k77_worked_heavy
def xb (K : PySem.W.Frag) : Bool := wtB K (He.ga K "WORDS") && (kiB K (He.ga K "WIDEST") wideL)
abbrev hk : PySem.W.Hook := hookW 5 fa fn wordsTs xb
def ob (s : PySem.W.SharedT) : He.AlT × Bool := obsWG 5 fa fn wordsTs xb (HandSHeadRun.getT s)
theorem ob_eq (s : PySem.W.SharedT) : ob s = hk.obs s.abs := obsWG_eq (HandSHeadRun.getT_eq s)
def names : List PySem.Str := [("BookError" : PySem.Str), ("NoThing" : PySem.Str), ("WrongSort" : PySem.Str), ("Rooted" : PySem.Str), ("TooWide" : PySem.Str), ("WORDS" : PySem.Str), ("sort_of" : PySem.Str), ("wanted" : PySem.Str), ("grounds" : PySem.Str), ("weights" : PySem.Str), ("beneath" : PySem.Str), ("refuse_missing" : PySem.Str), ("weight" : PySem.Str), ("enter" : PySem.Str), ("added" : PySem.Str), ("taken" : PySem.Str), ("scaled" : PySem.Str), ("multiplied" : PySem.Str), ("summed" : PySem.Str), ("greatest_power" : PySem.Str), ("packed" : PySem.Str), ("joined" : PySem.Str), ("unpacked" : PySem.Str), ("free_at" : PySem.Str), ("unknown" : PySem.Str), ("figure_forms" : PySem.Str), ("shared_out" : PySem.Str), ("turned_about" : PySem.Str), ("toward" : PySem.Str), ("crossed" : PySem.Str), ("cross" : PySem.Str), ("line_at" : PySem.Str), ("hinge_of_line" : PySem.Str), ("squared" : PySem.Str), ("WIDEST" : PySem.Str), ("worked" : PySem.Str), ("rooted_in" : PySem.Str), ("frees" : PySem.Str), ("asked" : PySem.Str), ("unknowns" : PySem.Str), ("forms_of" : PySem.Str), ("_law_pool" : PySem.Str), ("_law_take" : PySem.Str), ("_law_gcd" : PySem.Str), ("_law_low" : PySem.Str), ("_law_whole" : PySem.Str), ("_law_frac" : PySem.Str), ("_law_place" : PySem.Str), ("_law_name" : PySem.Str), ("_law_grounds" : PySem.Str), ("_law_sort" : PySem.Str), ("_law_weight" : PySem.Str), ("_law_form" : PySem.Str), ("_law_power" : PySem.Str), ("_law_worth" : PySem.Str), ("_law_two" : PySem.Str), ("_law_hung" : PySem.Str), ("_law_part" : PySem.Str), ("_law_made" : PySem.Str), ("_law_got" : PySem.Str), ("_law_spot" : PySem.Str), ("_law_heavy" : PySem.Str), ("_law_fit" : PySem.Str), ("_law_look" : PySem.Str), ("_law_steep" : PySem.Str), ("_law_long" : PySem.Str)]
theorem run1f (w : World) : HandSHeadRun.RunEq R (PySem.W.view R.prog [73]) hk ob 12000 names (wB false w) := by
  intro os
  kernel_rfl
theorem run1t (w : World) : HandSHeadRun.RunEq R (PySem.W.view R.prog [73]) hk ob 12000 names (wB true w) := by
  intro os
  kernel_rfl
/-! runs end -/
theorem run1 (b : Bool) (w : World) : HandSHeadRun.RunEq R (PySem.W.view R.prog [73]) hk ob 12000 names (wB b w) := by
  cases b
  · exact run1f w
  · exact run1t w
theorem run (w : World) : HandSHeadRun.RunEq R (PySem.W.view R.prog [73]) hk ob 12000 names w := by
  have h := run1 (w.params.followText "special-get-raises") w
  rw [wB_eq] at h
  exact h
theorem facts {P : Program} {w : World} {K : PySem.W.Frag} {h : Heap} {mg : Str → Option Value} {f : Addr} (X : K.In h) (G : h.Ns mainGlobals mg) (hfa : mg ("law" : Str) = some (.ref f)) (c : He.SaysD fa fn K) (cx : xb K = true) (ct : He.SaysT fa fn wordsTs w K) :
    ∃ fd : FuncData, (∀ (s : Shared) (v : Value), BindsTo s fd ⟨[v], []⟩ [("_law_script", v)]) ∧ ∀ base : Heap, K.In base → base.Ns mainGlobals mg → FnOk P w K mg base CX0 11 f fd ["_law_script"] (spLaw K) := by
  have F_sort_of : Fn K mg "sort_of" s_sort_of := by
    obtain ⟨fd, F⟩ := c.def_ 0 (d := d_sort_of) rfl
    exact ⟨_, fd, F, He.glo_ok X G (c.fact 0 (f := .glo "sort_of") rfl)⟩
  have F_wanted : Fn K mg "wanted" s_wanted := by
    obtain ⟨fd, F⟩ := c.def_ 1 (d := d_wanted) rfl
    exact ⟨_, fd, F, He.glo_ok X G (c.fact 1 (f := .glo "wanted") rfl)⟩
  have F_grounds : Fn K mg "grounds" s_grounds := by
    obtain ⟨fd, F⟩ := c.def_ 2 (d := d_grounds) rfl
    exact ⟨_, fd, F, He.glo_ok X G (c.fact 2 (f := .glo "grounds") rfl)⟩
  have F_weights : Fn K mg "weights" s_weights := by
    obtain ⟨fd, F⟩ := c.def_ 3 (d := d_weights) rfl
    exact ⟨_, fd, F, He.glo_ok X G (c.fact 3 (f := .glo "weights") rfl)⟩
  have F_beneath : Fn K mg "beneath" s_beneath := by
    obtain ⟨fd, F⟩ := c.def_ 4 (d := d_beneath) rfl
    exact ⟨_, fd, F, He.glo_ok X G (c.fact 4 (f := .glo "beneath") rfl)⟩
  have F_refuse_missing : Fn K mg "refuse_missing" s_refuse_missing := by
    obtain ⟨fd, F⟩ := c.def_ 5 (d := d_refuse_missing) rfl
    exact ⟨_, fd, F, He.glo_ok X G (c.fact 5 (f := .glo "refuse_missing") rfl)⟩
  have F_weight : Fn K mg "weight" s_weight := by
    obtain ⟨fd, F⟩ := c.def_ 6 (d := d_weight) rfl
    exact ⟨_, fd, F, He.glo_ok X G (c.fact 6 (f := .glo "weight") rfl)⟩
  have F_enter : Fn K mg "enter" s_enter := by
    obtain ⟨fd, F⟩ := c.def_ 7 (d := d_enter) rfl
    exact ⟨_, fd, F, He.glo_ok X G (c.fact 7 (f := .glo "enter") rfl)⟩
  have F_added : Fn K mg "added" s_added := by
    obtain ⟨fd, F⟩ := c.def_ 8 (d := d_added) rfl
    exact ⟨_, fd, F, He.glo_ok X G (c.fact 8 (f := .glo "added") rfl)⟩
  have F_taken : Fn K mg "taken" s_taken := by
    obtain ⟨fd, F⟩ := c.def_ 9 (d := d_taken) rfl
    exact ⟨_, fd, F, He.glo_ok X G (c.fact 9 (f := .glo "taken") rfl)⟩
  have F_scaled : Fn K mg "scaled" s_scaled := by
    obtain ⟨fd, F⟩ := c.def_ 10 (d := d_scaled) rfl
    exact ⟨_, fd, F, He.glo_ok X G (c.fact 10 (f := .glo "scaled") rfl)⟩
  have F_multiplied : Fn K mg "multiplied" s_multiplied := by
    obtain ⟨fd, F⟩ := c.def_ 11 (d := d_multiplied) rfl
    exact ⟨_, fd, F, He.glo_ok X G (c.fact 11 (f := .glo "multiplied") rfl)⟩
  have F_summed : Fn K mg "summed" s_summed := by
    obtain ⟨fd, F⟩ := c.def_ 12 (d := d_summed) rfl
    exact ⟨_, fd, F, He.glo_ok X G (c.fact 12 (f := .glo "summed") rfl)⟩
  have F_greatest_power : Fn K mg "greatest_power" s_greatest_power := by
    obtain ⟨fd, F⟩ := c.def_ 13 (d := d_greatest_power) rfl
    exact ⟨_, fd, F, He.glo_ok X G (c.fact 13 (f := .glo "greatest_power") rfl)⟩
  have F_packed : Fn K mg "packed" s_packed := by
    obtain ⟨fd, F⟩ := c.def_ 14 (d := d_packed) rfl
    exact ⟨_, fd, F, He.glo_ok X G (c.fact 14 (f := .glo "packed") rfl)⟩
  have F_joined : Fn K mg "joined" s_joined := by
    obtain ⟨fd, F⟩ := c.def_ 15 (d := d_joined) rfl
    exact ⟨_, fd, F, He.glo_ok X G (c.fact 15 (f := .glo "joined") rfl)⟩
  have F_unpacked : Fn K mg "unpacked" s_unpacked := by
    obtain ⟨fd, F⟩ := c.def_ 16 (d := d_unpacked) rfl
    exact ⟨_, fd, F, He.glo_ok X G (c.fact 16 (f := .glo "unpacked") rfl)⟩
  have F_free_at : Fn K mg "free_at" s_free_at := by
    obtain ⟨fd, F⟩ := c.def_ 17 (d := d_free_at) rfl
    exact ⟨_, fd, F, He.glo_ok X G (c.fact 17 (f := .glo "free_at") rfl)⟩
  have F_unknown : Fn K mg "unknown" s_unknown := by
    obtain ⟨fd, F⟩ := c.def_ 18 (d := d_unknown) rfl
    exact ⟨_, fd, F, He.glo_ok X G (c.fact 18 (f := .glo "unknown") rfl)⟩
  have F_figure_forms : Fn K mg "figure_forms" s_figure_forms := by
    obtain ⟨fd, F⟩ := c.def_ 19 (d := d_figure_forms) rfl
    exact ⟨_, fd, F, He.glo_ok X G (c.fact 19 (f := .glo "figure_forms") rfl)⟩
  have F_shared_out : Fn K mg "shared_out" s_shared_out := by
    obtain ⟨fd, F⟩ := c.def_ 20 (d := d_shared_out) rfl
    exact ⟨_, fd, F, He.glo_ok X G (c.fact 20 (f := .glo "shared_out") rfl)⟩
  have F_turned_about : Fn K mg "turned_about" s_turned_about := by
    obtain ⟨fd, F⟩ := c.def_ 21 (d := d_turned_about) rfl
    exact ⟨_, fd, F, He.glo_ok X G (c.fact 21 (f := .glo "turned_about") rfl)⟩
  have F_toward : Fn K mg "toward" s_toward := by
    obtain ⟨fd, F⟩ := c.def_ 22 (d := d_toward) rfl
    exact ⟨_, fd, F, He.glo_ok X G (c.fact 22 (f := .glo "toward") rfl)⟩
  have F_crossed : Fn K mg "crossed" s_crossed := by
    obtain ⟨fd, F⟩ := c.def_ 23 (d := d_crossed) rfl
    exact ⟨_, fd, F, He.glo_ok X G (c.fact 23 (f := .glo "crossed") rfl)⟩
  have F_cross : Fn K mg "cross" s_cross := by
    obtain ⟨fd, F⟩ := c.def_ 24 (d := d_cross) rfl
    exact ⟨_, fd, F, He.glo_ok X G (c.fact 24 (f := .glo "cross") rfl)⟩
  have F_line_at : Fn K mg "line_at" s_line_at := by
    obtain ⟨fd, F⟩ := c.def_ 25 (d := d_line_at) rfl
    exact ⟨_, fd, F, He.glo_ok X G (c.fact 25 (f := .glo "line_at") rfl)⟩
  have F_hinge_of_line : Fn K mg "hinge_of_line" s_hinge_of_line := by
    obtain ⟨fd, F⟩ := c.def_ 26 (d := d_hinge_of_line) rfl
    exact ⟨_, fd, F, He.glo_ok X G (c.fact 26 (f := .glo "hinge_of_line") rfl)⟩
  have F_squared : Fn K mg "squared" s_squared := by
    obtain ⟨fd, F⟩ := c.def_ 27 (d := d_squared) rfl
    exact ⟨_, fd, F, He.glo_ok X G (c.fact 27 (f := .glo "squared") rfl)⟩
  have F_worked : Fn K mg "worked" s_worked := by
    obtain ⟨fd, F⟩ := c.def_ 28 (d := d_worked) rfl
    exact ⟨_, fd, F, He.glo_ok X G (c.fact 28 (f := .glo "worked") rfl)⟩
  have F_rooted_in : Fn K mg "rooted_in" s_rooted_in := by
    obtain ⟨fd, F⟩ := c.def_ 29 (d := d_rooted_in) rfl
    exact ⟨_, fd, F, He.glo_ok X G (c.fact 29 (f := .glo "rooted_in") rfl)⟩
  have F_frees : Fn K mg "frees" s_frees := by
    obtain ⟨fd, F⟩ := c.def_ 30 (d := d_frees) rfl
    exact ⟨_, fd, F, He.glo_ok X G (c.fact 30 (f := .glo "frees") rfl)⟩
  have F_asked : Fn K mg "asked" s_asked := by
    obtain ⟨fd, F⟩ := c.def_ 31 (d := d_asked) rfl
    exact ⟨_, fd, F, He.glo_ok X G (c.fact 31 (f := .glo "asked") rfl)⟩
  have F_unknowns : Fn K mg "unknowns" s_unknowns := by
    obtain ⟨fd, F⟩ := c.def_ 32 (d := d_unknowns) rfl
    exact ⟨_, fd, F, He.glo_ok X G (c.fact 32 (f := .glo "unknowns") rfl)⟩
  have F_forms_of : Fn K mg "forms_of" s_forms_of := by
    obtain ⟨fd, F⟩ := c.def_ 33 (d := d_forms_of) rfl
    exact ⟨_, fd, F, He.glo_ok X G (c.fact 33 (f := .glo "forms_of") rfl)⟩
  have F_pool : Fn K mg "_law_pool" s_pool := by
    obtain ⟨fd, F⟩ := c.def_ 34 (d := d_pool) rfl
    exact ⟨_, fd, F, He.glo_ok X G (c.fact 34 (f := .glo "_law_pool") rfl)⟩
  have F_take : Fn K mg "_law_take" s_take := by
    obtain ⟨fd, F⟩ := c.def_ 35 (d := d_take) rfl
    exact ⟨_, fd, F, He.glo_ok X G (c.fact 35 (f := .glo "_law_take") rfl)⟩
  have F_gcd : Fn K mg "_law_gcd" s_gcd := by
    obtain ⟨fd, F⟩ := c.def_ 36 (d := d_gcd) rfl
    exact ⟨_, fd, F, He.glo_ok X G (c.fact 36 (f := .glo "_law_gcd") rfl)⟩
  have F_low : Fn K mg "_law_low" s_low := by
    obtain ⟨fd, F⟩ := c.def_ 37 (d := d_low) rfl
    exact ⟨_, fd, F, He.glo_ok X G (c.fact 37 (f := .glo "_law_low") rfl)⟩
  have F_whole : Fn K mg "_law_whole" s_whole := by
    obtain ⟨fd, F⟩ := c.def_ 38 (d := d_whole) rfl
    exact ⟨_, fd, F, He.glo_ok X G (c.fact 38 (f := .glo "_law_whole") rfl)⟩
  have F_frac : Fn K mg "_law_frac" s_frac := by
    obtain ⟨fd, F⟩ := c.def_ 39 (d := d_frac) rfl
    exact ⟨_, fd, F, He.glo_ok X G (c.fact 39 (f := .glo "_law_frac") rfl)⟩
  have F_place : Fn K mg "_law_place" s_place := by
    obtain ⟨fd, F⟩ := c.def_ 40 (d := d_place) rfl
    exact ⟨_, fd, F, He.glo_ok X G (c.fact 40 (f := .glo "_law_place") rfl)⟩
  have F_name : Fn K mg "_law_name" s_name := by
    obtain ⟨fd, F⟩ := c.def_ 41 (d := d_name) rfl
    exact ⟨_, fd, F, He.glo_ok X G (c.fact 41 (f := .glo "_law_name") rfl)⟩
  have F_l_grounds : Fn K mg "_law_grounds" s_l_grounds := by
    obtain ⟨fd, F⟩ := c.def_ 42 (d := d_l_grounds) rfl
    exact ⟨_, fd, F, He.glo_ok X G (c.fact 42 (f := .glo "_law_grounds") rfl)⟩
  have F_sort : Fn K mg "_law_sort" s_sort := by
    obtain ⟨fd, F⟩ := c.def_ 43 (d := d_sort) rfl
    exact ⟨_, fd, F, He.glo_ok X G (c.fact 43 (f := .glo "_law_sort") rfl)⟩
  have F_l_weight : Fn K mg "_law_weight" s_l_weight := by
    obtain ⟨fd, F⟩ := c.def_ 44 (d := d_l_weight) rfl
    exact ⟨_, fd, F, He.glo_ok X G (c.fact 44 (f := .glo "_law_weight") rfl)⟩
  have F_form : Fn K mg "_law_form" s_form := by
    obtain ⟨fd, F⟩ := c.def_ 45 (d := d_form) rfl
    exact ⟨_, fd, F, He.glo_ok X G (c.fact 45 (f := .glo "_law_form") rfl)⟩
  have F_power : Fn K mg "_law_power" s_power := by
    obtain ⟨fd, F⟩ := c.def_ 46 (d := d_power) rfl
    exact ⟨_, fd, F, He.glo_ok X G (c.fact 46 (f := .glo "_law_power") rfl)⟩
  have F_worth : Fn K mg "_law_worth" s_worth := by
    obtain ⟨fd, F⟩ := c.def_ 47 (d := d_worth) rfl
    exact ⟨_, fd, F, He.glo_ok X G (c.fact 47 (f := .glo "_law_worth") rfl)⟩
  have F_two : Fn K mg "_law_two" s_two := by
    obtain ⟨fd, F⟩ := c.def_ 48 (d := d_two) rfl
    exact ⟨_, fd, F, He.glo_ok X G (c.fact 48 (f := .glo "_law_two") rfl)⟩
  have F_hung : Fn K mg "_law_hung" s_hung := by
    obtain ⟨fd, F⟩ := c.def_ 49 (d := d_hung) rfl
    exact ⟨_, fd, F, He.glo_ok X G (c.fact 49 (f := .glo "_law_hung") rfl)⟩
  have F_part : Fn K mg "_law_part" s_part := by
    obtain ⟨fd, F⟩ := c.def_ 50 (d := d_part) rfl
    exact ⟨_, fd, F, He.glo_ok X G (c.fact 50 (f := .glo "_law_part") rfl)⟩
  have F_made : Fn K mg "_law_made" s_made := by
    obtain ⟨fd, F⟩ := c.def_ 51 (d := d_made) rfl
    exact ⟨_, fd, F, He.glo_ok X G (c.fact 51 (f := .glo "_law_made") rfl)⟩
  have F_got : Fn K mg "_law_got" s_got := by
    obtain ⟨fd, F⟩ := c.def_ 52 (d := d_got) rfl
    exact ⟨_, fd, F, He.glo_ok X G (c.fact 52 (f := .glo "_law_got") rfl)⟩
  have F_l_spot : Fn K mg "_law_spot" s_l_spot := by
    obtain ⟨fd, F⟩ := c.def_ 53 (d := d_l_spot) rfl
    exact ⟨_, fd, F, He.glo_ok X G (c.fact 53 (f := .glo "_law_spot") rfl)⟩
  have F_heavy : Fn K mg "_law_heavy" s_heavy := by
    obtain ⟨fd, F⟩ := c.def_ 54 (d := d_heavy) rfl
    exact ⟨_, fd, F, He.glo_ok X G (c.fact 54 (f := .glo "_law_heavy") rfl)⟩
  have F_fit : Fn K mg "_law_fit" s_fit := by
    obtain ⟨fd, F⟩ := c.def_ 55 (d := d_fit) rfl
    exact ⟨_, fd, F, He.glo_ok X G (c.fact 55 (f := .glo "_law_fit") rfl)⟩
  have F_look : Fn K mg "_law_look" s_look := by
    obtain ⟨fd, F⟩ := c.def_ 56 (d := d_look) rfl
    exact ⟨_, fd, F, He.glo_ok X G (c.fact 56 (f := .glo "_law_look") rfl)⟩
  have F_steep : Fn K mg "_law_steep" s_steep := by
    obtain ⟨fd, F⟩ := c.def_ 57 (d := d_steep) rfl
    exact ⟨_, fd, F, He.glo_ok X G (c.fact 57 (f := .glo "_law_steep") rfl)⟩
  have F_long : Fn K mg "_law_long" s_long := by
    obtain ⟨fd, F⟩ := c.def_ 58 (d := d_long) rfl
    exact ⟨_, fd, F, He.glo_ok X G (c.fact 58 (f := .glo "_law_long") rfl)⟩
  have F_law : Fn K mg "law" s_law := by
    obtain ⟨fd, F⟩ := c.def_ 59 (d := d_law) rfl
    exact ⟨_, fd, F, He.glo_ok X G (c.fact 59 (f := .glo "law") rfl)⟩
  have z_abs : mg "abs" = none := He.free_ok X G (c.fact 60 (f := .free "abs") rfl)
  have z_bool : mg "bool" = none := He.free_ok X G (c.fact 61 (f := .free "bool") rfl)
  have z_int : mg "int" = none := He.free_ok X G (c.fact 62 (f := .free "int") rfl)
  have z_isinstance : mg "isinstance" = none := He.free_ok X G (c.fact 63 (f := .free "isinstance") rfl)
  have z_len : mg "len" = none := He.free_ok X G (c.fact 64 (f := .free "len") rfl)
  have z_list : mg "list" = none := He.free_ok X G (c.fact 65 (f := .free "list") rfl)
  have z_max : mg "max" = none := He.free_ok X G (c.fact 66 (f := .free "max") rfl)
  have z_min : mg "min" = none := He.free_ok X G (c.fact 67 (f := .free "min") rfl)
  have z_range : mg "range" = none := He.free_ok X G (c.fact 68 (f := .free "range") rfl)
  have z_reversed : mg "reversed" = none := He.free_ok X G (c.fact 69 (f := .free "reversed") rfl)
  have z_sorted : mg "sorted" = none := He.free_ok X G (c.fact 70 (f := .free "sorted") rfl)
  have z_str : mg "str" = none := He.free_ok X G (c.fact 71 (f := .free "str") rfl)
  have z_sum : mg "sum" = none := He.free_ok X G (c.fact 72 (f := .free "sum") rfl)
  have z_tuple : mg "tuple" = none := He.free_ok X G (c.fact 73 (f := .free "tuple") rfl)
  have g_WORDS := He.glo_ok X G (c.fact 74 (f := .glo "WORDS") rfl)
  have g_WIDEST := He.glo_ok X G (c.fact 75 (f := .glo "WIDEST") rfl)
  obtain ⟨cx0, cx⟩ := He.ba cx
  have W_WORDS0 := id cx0
  have W_WIDEST := kiB_ok cx
  have W_WORDS : Wt K w (He.ga K "WORDS") := wt_of W_WORDS0 (ct.tab 0 rfl)
  obtain ⟨fd, FL⟩ := c.def_ 59 (d := d_law) rfl
  have e := hfa.symm.trans (He.glo_ok X G (c.fact 59 (f := .glo "law") rfl))
  cases e
  have b := FunD.bindsA (ps := ["_law_script"]) FL fun _ _ _ _ _ _ us hl => match us, hl with | [_], _ => rfl
  refine ⟨fd, fun s v => b s [v] rfl, fun base _ _ => ?_⟩
  have G_sort_of := ok_sort_of (P := P) (w := w) (base := base) g_WORDS W_WORDS F_sort_of
  have G_wanted := ok_wanted (P := P) (w := w) (base := base) g_WORDS W_WORDS F_wanted
  have G_grounds := ok_grounds (P := P) (w := w) (base := base) F_grounds G_wanted z_len z_list
  have G_weight := ok_weight (P := P) (w := w) (base := base) F_weight G_grounds z_sum
  have G_enter := ok_enter (P := P) (w := w) (base := base) F_enter G_weight G_sort_of
  have G_weights := ok_weights (P := P) (w := w) (base := base) F_weights G_enter z_list
  have G_refuse_missing := ok_refuse_missing (P := P) (w := w) (base := base) F_refuse_missing
  have G_beneath := ok_beneath (P := P) (w := w) (base := base) F_beneath G_refuse_missing G_grounds z_reversed
  have G_rooted_in := ok_rooted_in (P := P) (w := w) (base := base) F_rooted_in G_beneath
  have G_frees := ok_frees (P := P) (w := w) (base := base) F_frees
  have G_summed := ok_summed (P := P) (w := w) (base := base) F_summed z_sorted z_tuple
  have G_greatest_power := ok_greatest_power (P := P) (w := w) (base := base) F_greatest_power z_max
  have G_added := ok_added (P := P) (w := w) (base := base) F_added G_summed
  have G_scaled := ok_scaled (P := P) (w := w) (base := base) F_scaled G_summed
  have G_taken := ok_taken (P := P) (w := w) (base := base) F_taken G_added G_scaled
  have G_joined := ok_joined (P := P) (w := w) (base := base) F_joined
  have G_packed := ok_packed (P := P) (w := w) (base := base) F_packed G_joined
  have G_unpacked := ok_unpacked (P := P) (w := w) (base := base) F_unpacked z_range z_tuple
  have G_multiplied := ok_multiplied (P := P) (w := w) (base := base) F_multiplied G_greatest_power G_packed G_unpacked z_len z_sorted z_tuple
  replace G_added := G_added.of fun _ _ _ _ h => add_q (K := K) h
  replace G_taken := G_taken.of fun _ _ _ _ h => take_q (K := K) h
  replace G_scaled := G_scaled.of fun _ _ _ _ h => scale_q (K := K) h
  replace G_multiplied := G_multiplied.of fun _ _ _ _ h => mul_q (K := K) h
  have G_unknown := ok_unknown (P := P) (w := w) (base := base) F_unknown
  have G_free_at := ok_free_at (P := P) (w := w) (base := base) F_free_at G_unknown
  have G_cross := ok_cross (P := P) (w := w) (base := base) F_cross G_taken G_multiplied
  have G_crossed := ok_crossed (P := P) (w := w) (base := base) F_crossed G_cross
  have G_squared := ok_squared (P := P) (w := w) (base := base) F_squared G_multiplied
  have G_hinge_of_line := ok_hinge_of_line (P := P) (w := w) (base := base) F_hinge_of_line G_added G_squared
  have G_line_at := ok_line_at (P := P) (w := w) (base := base) F_line_at G_added G_multiplied
  have G_toward := ok_toward (P := P) (w := w) (base := base) F_toward G_added G_hinge_of_line G_multiplied G_scaled G_taken
  have G_turned_about := ok_turned_about (P := P) (w := w) (base := base) F_turned_about G_added G_multiplied G_taken
  have G_shared_out := ok_shared_out (P := P) (w := w) (base := base) F_shared_out G_added G_multiplied G_scaled
  have G_figure_forms := ok_figure_forms (P := P) (w := w) (base := base) F_figure_forms G_scaled G_shared_out G_turned_about G_toward G_crossed G_line_at
  have G_unknowns := ok_unknowns (P := P) (w := w) (base := base) F_unknowns G_frees z_len z_max
  have G_forms_of := ok_forms_of (P := P) (w := w) (base := base) F_forms_of G_unknowns G_frees G_free_at G_sort_of G_grounds G_figure_forms
  have G_asked := ok_asked (P := P) (w := w) (base := base) F_asked g_WIDEST W_WIDEST G_rooted_in G_sort_of G_weights G_frees z_len
  have G_worked := ok_worked (P := P) (w := w) (base := base) F_worked G_asked G_forms_of
  have G_pool := ok_pool (P := P) (w := w) (base := base) F_pool z_len
  have G_take := ok_take (P := P) (w := w) (base := base) F_take
  have G_gcd := ok_gcd (P := P) (w := w) (base := base) F_gcd z_abs
  have G_low := ok_low (P := P) (w := w) (base := base) F_low G_gcd
  have G_whole := ok_whole (P := P) (w := w) (base := base) F_whole z_isinstance z_int z_bool
  have G_frac := ok_frac (P := P) (w := w) (base := base) F_frac G_take G_low
  have G_place := ok_place (P := P) (w := w) (base := base) F_place G_frac
  have G_name := ok_name (P := P) (w := w) (base := base) F_name G_take z_len z_range z_str
  have G_l_grounds := ok_l_grounds (P := P) (w := w) (base := base) F_l_grounds z_list
  have G_sort := ok_sort (P := P) (w := w) (base := base) F_sort
  have G_l_weight := ok_l_weight (P := P) (w := w) (base := base) F_l_weight G_l_grounds z_sum
  have G_form := ok_form (P := P) (w := w) (base := base) F_form G_whole z_isinstance z_len z_range z_tuple
  have G_power := ok_power (P := P) (w := w) (base := base) F_power z_range
  have G_worth := ok_worth (P := P) (w := w) (base := base) F_worth G_power z_len z_range z_max
  have G_two := ok_two (P := P) (w := w) (base := base) F_two G_take z_len z_max
  have G_hung := ok_hung (P := P) (w := w) (base := base) F_hung G_take G_low G_two z_len
  have G_part := ok_part (P := P) (w := w) (base := base) F_part G_l_grounds z_reversed
  have G_made := ok_made (P := P) (w := w) (base := base) F_made z_int
  have G_got := ok_got (P := P) (w := w) (base := base) F_got G_sort G_made
  have G_l_spot := ok_l_spot (P := P) (w := w) (base := base) F_l_spot G_take G_low G_place z_len
  have G_fit := ok_fit (P := P) (w := w) (base := base) F_fit G_form G_worth z_isinstance z_len z_range z_tuple
  have G_look := ok_look (P := P) (w := w) (base := base) F_look G_part G_worked G_l_spot G_sort G_got G_fit z_len z_list z_max z_range
  have G_heavy := ok_heavy (P := P) (w := w) (base := base) F_heavy G_l_weight G_sort
  have G_steep := ok_steep (P := P) (w := w) (base := base) F_steep G_take G_name G_hung G_l_weight G_sort z_list z_range
  have G_long := ok_long (P := P) (w := w) (base := base) F_long G_take G_name G_low z_max z_min z_range
  have G_law := ok_law (P := P) (w := w) (base := base) FL G_pool G_take G_long G_steep G_heavy G_look
  exact G_law
end Mb
open PySem PySem.W PySem.Calls PyProof.Rows
set_option maxRecDepth 100000 in
set_option maxHeartbeats 0 in
theorem PySem.Challenge.cw_movebook_k77_worked_heavy_holds : PySem.Challenge.rw_movebook_k77_worked_heavy.Holds := by
  w_on; o_law
  refine HandSHeadRun.head_any (r := OpenLaw.row PySem.Challenge.rw_movebook_k77_worked_heavy) (q := view (OpenLaw.row PySem.Challenge.rw_movebook_k77_worked_heavy).prog [73]) (H := Mb.hk) (ob := Mb.ob) (M := 12000) (loose := Mb.names) (d := HandSHeadRun.topDef (OpenLaw.row PySem.Challenge.rw_movebook_k77_worked_heavy).prog 73) (kwd := []) Mb.ob_eq
    (by kernel_rfl) (fun s => by kernel_rfl) Mb.run (by kernel_rfl) (by kernel_rfl) (by kernel_rfl) (by rfl) (by first | assumption | decide +kernel) (by decide +kernel) ⟨rfl, rfl, rfl, rfl, rfl, by decide +kernel⟩ ?hw ?hc
  case hw => w_witness2
  case hc =>
    refine L2.walk_ofE (l := PySem.Challenge.rw_movebook_k77_worked_heavy) (n := 63) (k := 11) (x := "_law_script") (CX := L2.CX0) rfl (by decide) (by kernel_rfl) ⟨rfl, by decide, by decide⟩ ?F (fun _ _ _ _ z => z)
    intro w mg fa h Y G hmg0
    obtain ⟨K, KX, c, cx⟩ := Y
    have hmg : mg ("law" : PySem.Str) = some (.ref fa) := by
      have e : (HandSHeadRun.topDef (OpenLaw.row PySem.Challenge.rw_movebook_k77_worked_heavy).prog 73).name = ("law" : PySem.Str) := by kernel_rfl
      rw [← e]
      exact hmg0
    obtain ⟨fd, hb, hF⟩ := Mb.facts (P := (PySem.Challenge.rw_movebook_k77_worked_heavy).prog) (w := w) KX G hmg c.d cx c
    exact ⟨K, fd, Mb.spLaw K, KX, hb, fun H a ns hl _ hS => ⟨a, ns, rfl, hS, hl, fun _ => rfl⟩, hF⟩
