
import PyProof.Rows.All
import Wide.All
import OpenK.AllK
import Wide.FinOn
import KE.KStateDown
import Lean
import HandS.ForMost
import HandS.More
import HandS.WordsExc
import HandS.ExcIs
import HandS.ExcOwn
import HandS.TryOnly
import HandS.Exc
import HandS.Defaults
import HandS.Wide
import HandS.WideBits
import HandS.IsInst
import HandS.Head0
import HandS.Head1
import HandS.Head2
import HandS.HeadEnd
import HandS.HeadHook1
import HandS.HeadHook2
import HandS.Conv
import HandS.FStr
import HandS.DeepEq
import HandS.ExcInit
import HandS.ExcValue
import HandS.ExcField
import KE.KExcIs
import HandS.Head3
import HandS.HeadHook3
import HandS.ListItems
import HandS.Iter
import HandS.Dict
import HandS.Star
import HandS.Rev
import HandS.Style
import HandS.Walk
import HandS.More
import HandS.Sort
import HandS.SortOrd
import HandS.TupSets
import HandS.TupLe
import HandS.SortKw
import KE.DataMinMax
import HandS.TupAny
import HandS.SortInts
import HandS.Deep
import KE.KDictWalk
import PyProof.DictMoreH
import HandS.Nested
import HandS.Lambda
import KE.DataMinKey
import PyProof.SeqI3
import KE.GoesMore
import KE.GoesEnum
import HandS.Zip
import KE.GoesZip
import HandS.WordsDict
import HandS.HeadHook4
import HandS.HeadWalk
import KE.KNestM
import HandS.EndTab
import HandS.DictSubView
import PySem.Challenge.RW_movebook_k31_whole_tellings
set_option Elab.async false
set_option linter.all false
set_option maxRecDepth 100000
set_option maxHeartbeats 4000000
namespace Mb
def WrapW (P : Prop) : Prop := P
theorem ofW {P : Prop} (h : WrapW P) : P := h
theorem dischW {P : Prop} (h : P) : WrapW P = True := eq_true h
end Mb
namespace Mb
open PySem L2
/-! ### a def that keeps its promise, as its callers take it -/
structure Kn (P : Program) (w : World) (K : PySem.W.Frag) (mg : Str → Option Value) (base : Heap) (k : Nat) (x : Str) (ps : List Str) (sp : Sp) : Prop where
  ex : ∃ f fd, FnOk P w K mg base CX0 k f fd ps sp ∧ mg x = some (.ref f) ∧ PySem.W.keepIn K (.ref f) = true ∧ Binds K fd ps []
theorem pe_kn {X : Cx} {k : Nat} {x : Str} {ps : List Str} {sp : Sp} {e : Expr} {es : List Expr} {p pos : Pos} {t : TA} (G : Kn X.prog X.w X.K X.mg X.base k x ps sp) (hr : Room k X.A) (hg : Gl X x)
    (ha : PA X (e :: es) t) (hdb : (x == ("__debug__" : Str)) = false := by decide) (he : starEach (e :: es) X.env = (false, eval e X.env) :: starEach es X.env := by rfl) (hpl : (backTo pos (starEach es X.env)).any (·.1) = false := by rfl) :
    PE X (.Call (.Name x p) (e :: es) [] pos) (tCall sp [] E0 t) := by
  obtain ⟨f, fd, F, m, kp, b⟩ := G.ex
  exact pe_call F hr hg m kp b .nil pass0 ha hdb he hpl
/-- a def of the text: where it stands -/
abbrev FnP (K : PySem.W.Frag) (x : Str) (st : Stmt) (f : Addr) (fd : FuncData) : Prop := FunD K x x (defArgs st) (defBody st) (defScope st) [] [] f fd
structure Fn (K : PySem.W.Frag) (mg : Str → Option Value) (x : Str) (st : Stmt) : Prop where
  ex : ∃ f fd, FnP K x st f fd ∧ mg x = some (.ref f)
/-- from the walk of its body to its promise -/
theorem Fn.kn {P : Program} {w : World} {K : PySem.W.Frag} {mg : Str → Option Value} {base : Heap} {k : Nat} {x : Str} {st : Stmt} {N ps : List Str} {sp : Sp} (F : Fn K mg x st) (S : FnScope N ps (defScope st)) (len : ∀ vs H Q E, sp vs H Q E → vs.length = ps.length)
    (hbody : ∀ (f : Addr) (cdv : Value) (A : Around) (outer : List Env) (s : Shared) (H : Hp) (vs : List V) (Q : VK) (E : XK), Room k (A.deeper (PyProof.Rows.envOfC x (defScope st) s.heap.objs.size f cdv)) → sp vs H Q E →
      ∃ t, PSs (cxOf CX0 P w K mg base N x (defScope st) f cdv A outer s H E).nox (defBody st) t ∧ t { nx := fun _ H' => Q .non H', rt := Q } (start N vs) H)
    (hb : ∀ (kV doc pm : Value) (an : Option Addr) (cdv ct : Value) (us : List Value), us.length = ps.length → bindArgs (PySem.W.fnOf x x (defArgs st) (defBody st) (defScope st) .none kV doc pm an cdv ct) ⟨us, []⟩ = pure (ps.zip us)) :
    Kn P w K mg base (k + 1) x ps sp := by
  obtain ⟨f, fd, F, m⟩ := F.ex
  refine ⟨f, fd, F.ok S len fun cdv A outer s H vs Q E hr h => ?_, m, F.kp, F.bindsN hb⟩
  obtain ⟨t, p, q⟩ := hbody f cdv A outer s H vs Q E hr h
  exact ⟨t, p.nox, q⟩
/-- the same for the law itself, whose function object is known -/
theorem fnp_ok {P : Program} {w : World} {K : PySem.W.Frag} {mg : Str → Option Value} {base : Heap} {k : Nat} {x : Str} {st : Stmt} {N ps : List Str} {sp : Sp} {f : Addr} {fd : FuncData} (F : FnP K x st f fd) (S : FnScope N ps (defScope st)) (len : ∀ vs H Q E, sp vs H Q E → vs.length = ps.length)
    (hbody : ∀ (cdv : Value) (A : Around) (outer : List Env) (s : Shared) (H : Hp) (vs : List V) (Q : VK) (E : XK), Room k (A.deeper (PyProof.Rows.envOfC x (defScope st) s.heap.objs.size f cdv)) → sp vs H Q E →
      ∃ t, PSs (cxOf CX0 P w K mg base N x (defScope st) f cdv A outer s H E).nox (defBody st) t ∧ t { nx := fun _ H' => Q .non H', rt := Q } (start N vs) H) : FnOk P w K mg base CX0 (k + 1) f fd ps sp := by
  refine F.ok S len fun cdv A outer s H vs Q E hr h => ?_
  obtain ⟨t, p, q⟩ := hbody cdv A outer s H vs Q E hr h
  exact ⟨t, p.nox, q⟩
/-! ### x is True, x is False -/
/-! ### // by any great divisor but 0 -/
def CDivZ (_ j : Int) : Prop := j ≠ 0 ∧ j.natAbs.log2 < 9000
theorem op_fdivZ {X : Cx} : OpR X (binaryOp .FloorDiv) (rI CDivZ fun i j => .int (i.fdiv j)) := opI fun _ _ _ _ _ _ _ hc q => PyProof.Rows.floordiv_int hc.1 q (.inl (PyProof.noPylong_of_log2 hc.2))
theorem cdivZ {i j : Int} {b : Nat} (h : j ≠ 0) (hb : j.natAbs < 2 ^ b) (h0 : 0 < b) (h9 : b ≤ 9000) : CDivZ i j := ⟨h, Nat.lt_of_lt_of_le (PySem.Flt.log2_lt_of h0 hb) h9⟩
/-! ### readings, step by step -/
section
variable {σ : St} {H : Hp} {Q : VK} {D : Ends} {K : PySem.W.Frag}
theorem r_var {i : Nat} {v : V} (h : σ[i]? = some (some v)) (q : Q v H) : tVar i σ H Q := ⟨v, h, q⟩
theorem r_c {v : V} (q : Q v H) : tC v σ H Q := q
theorem r_op {r : R2} {ta tb : TE} (q : ta σ H fun x H1 => tb σ H1 fun y H2 => r x y H2 Q) : tOp r ta tb σ H Q := q
theorem r_un {r : V → Hp → VK → Prop} {ta : TE} (q : ta σ H fun x H1 => r x H1 Q) : tUn r ta σ H Q := q
theorem r_i {C : Int → Int → Prop} {g : Int → Int → V} {i j : Int} (c : C i j) (q : Q (g i j) H) : rI C g (.int i) (.int j) H Q := ⟨i, j, rfl, rfl, c, q⟩
theorem r_i0 {g : Int → Int → V} {i j : Int} (q : Q (g i j) H) : rI0 g (.int i) (.int j) H Q := ⟨i, j, rfl, rfl, q⟩
theorem r_u {g : Int → V} {i : Int} (q : Q (g i) H) : rU g (.int i) H Q := ⟨i, rfl, q⟩
theorem r_eqI {i j : Int} (q : Q (.bl (decide (i = j))) H) : rEq (.int i) (.int j) H Q := ⟨rfl, by
  rw [show decide (V.int i = V.int j) = decide (i = j) from by simp]; exact q⟩
theorem r_neI {i j : Int} (q : Q (.bl (!decide (i = j))) H) : rNe (.int i) (.int j) H Q := ⟨rfl, by
  rw [show decide (V.int i = V.int j) = decide (i = j) from by simp]; exact q⟩
theorem r_eqS {i j : Str} (q : Q (.bl (decide (i = j))) H) : rEq (.str i) (.str j) H Q := ⟨rfl, by
  rw [show decide (V.str i = V.str j) = decide (i = j) from by simp]; exact q⟩
theorem r_bits {to : TE} (q : to σ H fun x H1 => ∃ i, x = .int i ∧ Q (.int (Builtin.Int.intBits i : Nat)) H1) : tBits to σ H Q := q
theorem r_int {i : Int} {Q : Int → Prop} (q : Q i) : ∃ k, V.int i = .int k ∧ Q k := ⟨i, rfl, q⟩
theorem r_cb {r : List V → Hp → VK → Prop} {t : TA} (q : t σ H fun vs H1 => r vs H1 Q) : tCB r t σ H Q := q
theorem r_nil {Q : List V → Hp → Prop} (q : Q [] H) : tNil σ H Q := q
theorem r_cons {ta : TE} {tr : TA} {Q : List V → Hp → Prop} (q : ta σ H fun x H1 => tr σ H1 fun xs H2 => Q (x :: xs) H2) : tCons ta tr σ H Q := q
theorem r_tup {t : TA} (q : t σ H fun xs H1 => xs.length ≤ sizeLine ∧ ∀ p, H1 p = none → Q (.ref p) (upd H1 p (.tup xs))) : tTup t σ H Q := q
theorem r_lst {t : TA} (q : t σ H fun xs H1 => xs.length ≤ sizeLine ∧ ∀ p, H1 p = none → Q (.ref p) (upd H1 p (.lst xs))) : tLst t σ H Q := q
theorem r_call {sp : Sp} {E : XK} {t : TA} (q : t σ H fun vs H1 => sp (vs ++ []) H1 Q E) : tCall sp [] E t σ H Q := q
theorem r_seq {t u : TS} (q : t { D with nx := u D } σ H) : tSeq t u D σ H := q
theorem r_seqA {te : TE} {g : TG} {u : TS} (q : te σ H fun x H1 => g x σ H1 (u D)) : tSeq (tAsg te g) u D σ H := q
theorem r_seqD {te : TE} {u : TS} (q : te σ H fun _ H1 => u D σ H1) : tSeq (tDrop te) u D σ H := q
theorem r_seqP {i j : Nat} {ta : TA} {u : TS} (q : ta σ H fun vs H1 => ∃ v w, vs = [v, w] ∧ u D ((σ.set i (some v)).set j (some w)) H1) : tSeq (tPar i j ta) u D σ H := q
theorem r_cut {t u : TS} (R : St → Hp → Prop) (k : ∀ σ1 H1, R σ1 H1 → u D σ1 H1) (h : ∀ N : St → Hp → Prop, (∀ σ1 H1, R σ1 H1 → N σ1 H1) → t { D with nx := N } σ H) : tSeq t u D σ H := h _ k
theorem r_next (q : D.nx σ H) : tNext D σ H := q
theorem r_nx {a c d : St → Hp → Prop} {b : VK} (q : a σ H) : (Ends.mk a b c d).nx σ H := q
theorem r_asg {te : TE} {g : TG} (q : te σ H fun x H1 => g x σ H1 D.nx) : tAsg te g D σ H := q
theorem r_gname {i : Nat} {v : V} {Q : St → Hp → Prop} (q : Q (σ.set i (some v)) H) : gName i v σ H Q := q
theorem r_gsub {to ti : TE} {t : TSet} {v : V} {Q : St → Hp → Prop} (q : to σ H fun o H1 => ti σ H1 fun i H2 => t o i v H2 fun H3 => Q σ H3) : gSub to ti t v σ H Q := q
theorem r_ret {te : TE} (q : te σ H D.rt) : tRet te D σ H := q
theorem r_drop {te : TE} (q : te σ H fun _ H1 => D.nx σ H1) : tDrop te D σ H := q
theorem r_ifs {c : TT} {t u : TS} (q : c σ H fun b H1 => if b = true then t D σ H1 else u D σ H1) : tIfS c t u D σ H := q
theorem r_test {t : TE} {Q : Bool → Hp → Prop} (q : t σ H fun x H' => ∃ k, x = .bl k ∧ Q k H') : tTest t σ H Q := q
theorem r_tB {t : TE} {Q : Bool → Hp → Prop} (q : t σ H fun x H' => ∃ k, x = .bl k ∧ Q k H') : tB t σ H Q := q
theorem r_bl {b : Bool} {Q : Bool → Prop} (q : Q b) : ∃ k, V.bl b = .bl k ∧ Q k := ⟨b, rfl, q⟩
theorem r_and {t u : TT} {Q : Bool → Hp → Prop} (q : t σ H fun c H1 => if c = true then u σ H1 Q else Q false H1) : tAnd t u σ H Q := q
theorem r_or {t u : TT} {Q : Bool → Hp → Prop} (q : t σ H fun c H1 => if c = true then Q true H1 else u σ H1 Q) : tOr t u σ H Q := q
theorem r_not {t : TT} {Q : Bool → Hp → Prop} (q : t σ H fun c H1 => Q (!c) H1) : tNot t σ H Q := q
theorem r_andV {ta tb : TE} (q : ta σ H fun x H1 => ∃ c, x = .bl c ∧ if c = true then tb σ H1 Q else Q (.bl false) H1) : tAndV ta tb σ H Q := q
theorem r_notV {ta : TE} (q : ta σ H fun x H1 => ∃ c, x = .bl c ∧ Q (.bl (!c)) H1) : tNotV ta σ H Q := q
theorem r_par {i j : Nat} {ta : TA} (q : ta σ H fun vs H1 => ∃ v w, vs = [v, w] ∧ D.nx ((σ.set i (some v)).set j (some w)) H1) : tPar i j ta D σ H := q
theorem r_two {v w : V} {Q : V → V → Prop} (q : Q v w) : ∃ a b, [v, w] = [a, b] ∧ Q a b := ⟨v, w, rfl, q⟩
theorem r_ixL {p : Addr} {xs : List V} {i : Int} {v : V} (h : SqL K H p xs) (a : atI xs i = some v) (q : Q v H) : rIxL K (.ref p) (.int i) H Q := ⟨p, xs, i, v, rfl, rfl, h, a, q⟩
theorem r_ixT {p : Addr} {xs : List V} {i : Int} {v : V} (h : SqT K H p xs) (a : atI xs i = some v) (q : Q v H) : rIxT K (.ref p) (.int i) H Q := ⟨p, xs, i, v, rfl, rfl, h, a, q⟩
theorem r_setL {p : Addr} {xs : List V} {k : Int} {j : Nat} {v : V} {Q : Hp → Prop} (h : H p = some (.lst xs)) (a : ixN xs.length k = some j) (q : Q (upd H p (.lst (xs.set j v)))) : rSetL (.ref p) (.int k) v H Q := ⟨p, xs, k, j, rfl, rfl, h, a, q⟩
theorem r_isi {x : V} {a b : String} {r : Bool} (ty : TyX K H x (.type a)) (h : kitB a b = some r) (q : Q (.bl r) H) : rIsi K [x, .ty b] H Q := ⟨x, .ty b, .type a, .type b, r, rfl, .ty b, ty, kit_ty h, q⟩
/-- a test that is open -/
theorem r_ite {c : Prop} [Decidable c] {A B : Prop} (h1 : c → A) (h2 : ¬ c → B) : if decide c = true then A else B := by
  by_cases h : c
  · rw [decide_eq_true h]; exact h1 h
  · rw [decide_eq_false h]; exact h2 h
theorem r_iteN {c : Prop} [Decidable c] {A B : Prop} (h1 : ¬ c → A) (h2 : c → B) : if (!decide c) = true then A else B := by
  by_cases h : c
  · rw [decide_eq_true h]; exact h2 h
  · rw [decide_eq_false h]; exact h1 h
theorem r_T {A B : Prop} (h : A) : if true = true then A else B := iteT h
theorem r_dT {c : Bool} {A B : Prop} (hc : c = true) (h : A) : if c = true then A else B := by rw [hc]; exact iteT h
theorem r_dF {c : Bool} {A B : Prop} (hc : c = false) (h : B) : if c = true then A else B := by rw [hc]; exact iteF h
theorem r_nT {A B : Prop} (h : B) : if (!true) = true then A else B := iteF h
theorem r_nF {A B : Prop} (h : A) : if (!false) = true then A else B := iteT h
theorem r_F {A B : Prop} (h : B) : if false = true then A else B := iteF h
end
/-- a while by a word and a measure -/
theorem r_while {σ : St} {H : Hp} {D : Ends} {c : TT} {tb : TS} (Pv : St → Hp → Prop) (μ : St → Hp → Nat) (h0 : Pv σ H)
    (hs : ∀ σ1 H1, Pv σ1 H1 → c σ1 H1 fun b H2 => if b = true then ∃ N : St → Hp → Prop, (∀ σ2 H2, N σ2 H2 → ∃ m, m < μ σ1 H1 ∧ m = μ σ2 H2 ∧ Pv σ2 H2) ∧ tb { D with nx := N, ct := N, bk := D.nx } σ1 H2 else D.nx σ1 H2) : tWhile c tb D σ H := by
  refine ⟨fun m σ H => m = μ σ H ∧ Pv σ H, ⟨_, rfl, h0⟩, ?_⟩
  rintro m σ H ⟨rfl, p⟩
  exact hs σ H p
theorem r_turn {σ : St} {H : Hp} {D : Ends} {tb : TS} {Pv : St → Hp → Prop} {μ : St → Hp → Nat} {n : Nat} (q : tb { D with nx := fun σ2 H2 => Pv σ2 H2 ∧ μ σ2 H2 < n, ct := fun σ2 H2 => Pv σ2 H2 ∧ μ σ2 H2 < n, bk := D.nx } σ H) :
    ∃ N : St → Hp → Prop, (∀ σ2 H2, N σ2 H2 → ∃ m, m < n ∧ m = μ σ2 H2 ∧ Pv σ2 H2) ∧ tb { D with nx := N, ct := N, bk := D.nx } σ H :=
  ⟨_, fun _ _ h => ⟨_, h.2, rfl, h.1⟩, q⟩
theorem sz {n : Nat} (h : Nat.ble n 1000 = true) : n ≤ sizeLine := Nat.le_of_lt (small1000 (Nat.le_of_ble_eq_true h))
/-! ### heaps -/
/-- all but p is as it was -/
def But (p : Addr) (H H' : Hp) : Prop := ∀ b o, b ≠ p → H b = some o → H' b = some o
theorem But.refl (p : Addr) (H : Hp) : But p H H := fun _ _ _ h => h
theorem But.trans {p : Addr} {H H1 H2 : Hp} (a : But p H H1) (b : But p H1 H2) : But p H H2 := fun c o n h => b c o n (a c o n h)
theorem But.upd (p : Addr) (H : Hp) (o : HO) : But p H (upd H p o) := fun b o' n h => by rw [upd_ne n]; exact h
theorem But.same {p : Addr} {H H' : Hp} (s : Same H H') : But p H H' := fun b o _ h => s b o h
theorem same_new {H : Hp} {p : Addr} (h : H p = none) (o : HO) : Same H (upd H p o) := fun b u q => by rw [upd_ne (ne_of_none q h)]; exact q
theorem nw {H : Hp} {p : Addr} (n : H p = none) (o : HO) : ∃ H1, H1 = upd H p o ∧ Same H H1 ∧ H1 p = some o := ⟨_, rfl, same_new n o, upd_same⟩
theorem _root_.L2.Same.tp {K : PySem.W.Frag} {H H' : Hp} {a : Addr} {xs : List V} (e : Same H H') (h : SqT K H a xs) : SqT K H' a xs := by
  rcases h with (h | ⟨o, h⟩) | h
  · exact .inl (.inl (e _ _ h))
  · exact .inl (.inr ⟨o, e _ _ h⟩)
  · exact .inr h
theorem But.tup {K : PySem.W.Frag} {H H' : Hp} {a p : Addr} {xs ys : List V} (e : But p H H') (hp : H p = some (.lst ys)) (h : SqT K H a xs) : SqT K H' a xs := by
  rcases h with (h | ⟨o, h⟩) | h
  · exact .inl (.inl (e _ _ (fun z => by rw [z, hp] at h; cases h) h))
  · exact .inl (.inr ⟨o, e _ _ (fun z => by rw [z, hp] at h; cases h) h⟩)
  · exact .inr h
theorem tupOf {K : PySem.W.Frag} {H : Hp} {a : Addr} {xs : List V} (h : H a = some (.tup xs)) : SqT K H a xs := .inl (.inl h)
theorem lstOf {K : PySem.W.Frag} {H : Hp} {a : Addr} {xs : List V} (h : H a = some (.lst xs)) : SqL K H a xs := .inl (.inl h)
/-! ### sizes -/
abbrev Sm (n : Nat) (i : Int) : Prop := i.natAbs < 2 ^ n
theorem Sm.mono {m n : Nat} {i : Int} (h : Sm m i) (l : m ≤ n) : Sm n i := Nat.lt_of_lt_of_le h (Nat.pow_le_pow_right (by decide) l)
theorem Sm.le {n : Nat} {i j : Int} (h : Sm n j) (l : i.natAbs ≤ j.natAbs) : Sm n i := Nat.lt_of_le_of_lt l h
theorem Sm.mul {m n : Nat} {i j : Int} (h : Sm m i) (l : Sm n j) : Sm (m + n) (i * j) := wide_lt h l
theorem Sm.neg {n : Nat} {i : Int} (h : Sm n i) : Sm n (-i) := by rw [Sm, Int.natAbs_neg]; exact h
theorem Sm.add {n : Nat} {i j : Int} (h : Sm n i) (l : Sm n j) : Sm (n + 1) (i + j) := by
  have := Int.natAbs_add_le i j
  unfold Sm at *
  rw [Nat.pow_succ]
  omega
theorem Sm.sub {n : Nat} {i j : Int} (h : Sm n i) (l : Sm n j) : Sm (n + 1) (i - j) := by
  rw [Int.sub_eq_add_neg]; exact h.add l.neg
theorem Sm.cmul {m n : Nat} {i j : Int} (h : Sm m i) (l : Sm n j) (h0 : 0 < m := by decide) (h1 : 0 < n := by decide) (s : m + n ≤ 1000000 := by decide) : CMulW i j := wide_mul h l h0 h1 s
theorem Sm.cdiv {n : Nat} {i j : Int} (p : 0 < j) (l : Sm n j) (h1 : 0 < n := by decide) (s : n ≤ 9000 := by decide) : CDivW i j := wide_div p l h1 s
end Mb
namespace Mb
open PySem L2
theorem Sm.addm {m n : Nat} {i j : Int} (h : Sm m i) (l : Sm n j) : Sm (max m n + 1) (i + j) := (h.mono (Nat.le_max_left _ _)).add (l.mono (Nat.le_max_right _ _))
theorem Sm.subm {m n : Nat} {i j : Int} (h : Sm m i) (l : Sm n j) : Sm (max m n + 1) (i - j) := (h.mono (Nat.le_max_left _ _)).sub (l.mono (Nat.le_max_right _ _))
theorem Sm.lit {i : Int} (h : i.natAbs < 2 ^ 64) : Sm 64 i := h
/-! ### lowest terms -/
def lowT (t b : Int) : Int := (if b < 0 then -t else t) / (Int.gcd t b : Int)
def lowB (t b : Int) : Int := (if b < 0 then -b else b) / (Int.gcd t b : Int)
theorem gcd_pos {t b : Int} (hb : b ≠ 0) : 0 < (Int.gcd t b : Int) := by
  have := Int.gcd_pos_of_ne_zero_right t hb
  omega
theorem lowB_pos {t b : Int} (hb : b ≠ 0) : 0 < lowB t b := by
  unfold lowB
  have g := gcd_pos (t := t) hb
  have d : (Int.gcd t b : Int) ∣ (if b < 0 then -b else b) := by
    split
    · exact (Int.dvd_neg).mpr (Int.gcd_dvd_right t b)
    · exact Int.gcd_dvd_right t b
  have p : 0 < (if b < 0 then -b else b) := by split <;> omega
  exact Int.ediv_pos_of_pos_of_dvd p (by omega) d
theorem ediv_abs {x g : Int} (hg : 0 < g) (d : g ∣ x) : (x / g).natAbs ≤ x.natAbs := by
  obtain ⟨k, rfl⟩ := d
  rw [Int.mul_ediv_cancel_left k (by omega), Int.natAbs_mul]
  have : 1 ≤ g.natAbs := by omega
  calc k.natAbs = 1 * k.natAbs := by rw [Nat.one_mul]
    _ ≤ g.natAbs * k.natAbs := Nat.mul_le_mul_right _ this
theorem lowT_le {t b : Int} (hb : b ≠ 0) : (lowT t b).natAbs ≤ t.natAbs := by
  unfold lowT
  have g := gcd_pos (t := t) hb
  have d : (Int.gcd t b : Int) ∣ (if b < 0 then -t else t) := by
    split
    · exact (Int.dvd_neg).mpr (Int.gcd_dvd_left t b)
    · exact Int.gcd_dvd_left t b
  have := ediv_abs g d
  split at this <;> split <;> simp_all
theorem lowB_le {t b : Int} (hb : b ≠ 0) : (lowB t b).natAbs ≤ b.natAbs := by
  unfold lowB
  have g := gcd_pos (t := t) hb
  have d : (Int.gcd t b : Int) ∣ (if b < 0 then -b else b) := by
    split
    · exact (Int.dvd_neg).mpr (Int.gcd_dvd_right t b)
    · exact Int.gcd_dvd_right t b
  have := ediv_abs g d
  split at this <;> split <;> simp_all
theorem low_gcd {t b : Int} (hb : b ≠ 0) : Int.gcd (lowT t b) (lowB t b) = 1 := by
  have g : 0 < Int.gcd t b := Int.gcd_pos_of_ne_zero_right t hb
  have key : ∀ x y : Int, Int.gcd x y = Int.gcd t b → Int.gcd (x / (Int.gcd t b : Int)) (y / (Int.gcd t b : Int)) = 1 := by
    intro x y e
    rw [← e]
    rw [← e] at g
    exact Int.gcd_ediv_gcd_ediv_gcd g
  unfold lowT lowB
  split
  · exact key _ _ (by rw [Int.neg_gcd, Int.gcd_neg])
  · exact key _ _ rfl
theorem low_cross {t b : Int} (hb : b ≠ 0) : lowT t b * b = t * lowB t b := by
  have g := gcd_pos (t := t) hb
  obtain ⟨x, hx⟩ := Int.gcd_dvd_left t b
  obtain ⟨y, hy⟩ := Int.gcd_dvd_right t b
  have eT : ∀ s : Int, s = (Int.gcd t b : Int) * x → s / (Int.gcd t b : Int) = x := fun s e => by rw [e, Int.mul_ediv_cancel_left _ (by omega)]
  have eB : ∀ s : Int, s = (Int.gcd t b : Int) * y → s / (Int.gcd t b : Int) = y := fun s e => by rw [e, Int.mul_ediv_cancel_left _ (by omega)]
  unfold lowT lowB
  by_cases h : b < 0
  · rw [if_pos h, if_pos h]
    rw [show -t = (Int.gcd t b : Int) * (-x) by rw [Int.mul_neg, ← hx], show -b = (Int.gcd t b : Int) * (-y) by rw [Int.mul_neg, ← hy], Int.mul_ediv_cancel_left _ (by omega), Int.mul_ediv_cancel_left _ (by omega)]
    have e1 : b = (Int.gcd t b : Int) * y := hy
    have e2 : t = (Int.gcd t b : Int) * x := hx
    generalize (Int.gcd t b : Int) = q at *
    subst e1 e2
    simp only [Int.neg_mul, Int.mul_neg, Int.mul_assoc, Int.mul_comm, Int.mul_left_comm]
  · rw [if_neg h, if_neg h, eT t hx, eB b hy]
    have e1 : b = (Int.gcd t b : Int) * y := hy
    have e2 : t = (Int.gcd t b : Int) * x := hx
    generalize (Int.gcd t b : Int) = q at *
    subst e1 e2
    simp only [Int.mul_assoc, Int.mul_comm, Int.mul_left_comm]
theorem cop_dvd {u t y : Int} (g : Int.gcd t u = 1) (d : u ∣ t * y) : u ∣ y := by
  have d1 : u.natAbs ∣ t.natAbs * y.natAbs := by rw [← Int.natAbs_mul]; exact Int.natAbs_dvd_natAbs.mpr d
  have c : Nat.Coprime u.natAbs t.natAbs := by rw [Nat.coprime_comm]; exact g
  exact Int.natAbs_dvd_natAbs.mp (c.dvd_of_dvd_mul_left d1)
/-- one worth has one form in lowest terms -/
theorem frac_unique {t u x y : Int} (hu : 0 < u) (hy : 0 < y) (g1 : Int.gcd t u = 1) (g2 : Int.gcd x y = 1) (e : t * y = x * u) : t = x ∧ u = y := by
  have d1 : u ∣ y := cop_dvd g1 ⟨x, by rw [e, Int.mul_comm]⟩
  have d2 : y ∣ u := cop_dvd g2 ⟨t, by rw [← e, Int.mul_comm]⟩
  have e2 : u = y := Int.dvd_antisymm (by omega) (by omega) d1 d2
  subst e2
  exact ⟨Int.eq_of_mul_eq_mul_right (by omega) e, rfl⟩
theorem low_eq {a b t u : Int} (hb : b ≠ 0) (hu : 0 < u) (g : Int.gcd t u = 1) (e : a * u = t * b) : lowT a b = t ∧ lowB a b = u := by
  refine frac_unique (lowB_pos hb) hu (low_gcd hb) g ?_
  have c := low_cross (t := a) hb
  apply Int.eq_of_mul_eq_mul_right hb
  calc lowT a b * u * b = lowT a b * b * u := by simp only [Int.mul_assoc, Int.mul_comm, Int.mul_left_comm]
    _ = a * lowB a b * u := by rw [c]
    _ = a * u * lowB a b := by simp only [Int.mul_assoc, Int.mul_comm, Int.mul_left_comm]
    _ = t * b * lowB a b := by rw [e]
    _ = t * lowB a b * b := by simp only [Int.mul_assoc, Int.mul_comm, Int.mul_left_comm]
theorem fdiv_exact {x g : Int} (d : g ∣ x) (c : Bool) : x.fdiv (if c then -g else g) = (if c then -x else x) / g := by
  cases c with
  | false => exact Int.fdiv_eq_ediv_of_dvd d
  | true =>
    show x.fdiv (-g) = -x / g
    rw [Int.fdiv_eq_ediv_of_dvd (Int.neg_dvd.mpr d), Int.ediv_neg, Int.neg_ediv_of_dvd d]
theorem gcd_step {x y : Int} (hx : 0 ≤ x) (hy : 0 < y) : Int.gcd y (x % y) = Int.gcd x y := by
  have e : ∃ m n : Nat, x = m ∧ y = n := ⟨x.toNat, y.toNat, by omega, by omega⟩
  obtain ⟨m, n, rfl, rfl⟩ := e
  have c : ((m : Int) % (n : Int)) = ((m % n : Nat) : Int) := by norm_cast
  rw [c, Int.gcd_natCast_natCast, Int.gcd_natCast_natCast, Nat.gcd_comm n, ← Nat.gcd_rec, Nat.gcd_comm]
theorem gcd_sm {t b : Int} {n : Nat} (hb : b ≠ 0) (sb : Sm n b) : Sm n (Int.gcd t b : Int) := sb.le (by
  have : (Int.gcd t b : Int) ∣ b := Int.gcd_dvd_right t b
  have := Int.le_of_dvd (show 0 < (b.natAbs : Int) by omega) (Int.dvd_natAbs.mpr this)
  omega)
end Mb
namespace Mb
open PySem L2
/-! ### promises of the law's own drawing -/
/-- a pool of draws at p: three numbers, the second from 0 to b -/
def Pl (H : Hp) (p : Addr) (b : Int) : Prop := ∃ x y z : Int, H p = some (.lst [.int x, .int y, .int z]) ∧ 0 ≤ y ∧ y ≤ b
theorem Pl.mono {H : Hp} {p : Addr} {b c : Int} (h : Pl H p b) (l : b ≤ c) : Pl H p c := by
  obtain ⟨x, y, z, h1, h2, h3⟩ := h
  exact ⟨x, y, z, h1, h2, by omega⟩
theorem Pl.same {H H' : Hp} {p : Addr} {b : Int} (h : Pl H p b) (s : Same H H') : Pl H' p b := by
  obtain ⟨x, y, z, h1, h2, h3⟩ := h
  exact ⟨x, y, z, s _ _ h1, h2, h3⟩
theorem Pl.but {H H' : Hp} {p q : Addr} {b : Int} (h : Pl H p b) (n : p ≠ q) (s : But q H H') : Pl H' p b := by
  obtain ⟨x, y, z, h1, h2, h3⟩ := h
  exact ⟨x, y, z, s _ _ n h1, h2, h3⟩
theorem Pl.tup {K : PySem.W.Frag} {H H' : Hp} {a p : Addr} {b : Int} {xs : List V} (h : Pl H p b) (s : But p H H') (t : SqT K H a xs) : SqT K H' a xs := by
  obtain ⟨x, y, z, h1, _⟩ := h
  exact s.tup h1 t
def spPool (K : PySem.W.Frag) : Sp := fun vs H Q _ => ∃ (a : Addr) (ns : List Int) (i : Int), vs = [.ref a, .int i] ∧ SqL K H a (ns.map V.int) ∧ ns.length ≤ 63 ∧ 0 ≤ i ∧ i ≤ 1000 ∧
  ∀ (p : Addr) (H' : Hp), Same H H' → H p = none → Pl H' p 1000000 → Q (.ref p) H'
def spTake : Sp := fun vs H Q _ => ∃ (p : Addr) (k b : Int), vs = [.ref p, .int k] ∧ Pl H p b ∧ b ≤ 2000000 ∧ 1 ≤ k ∧ k ≤ 1000000 ∧
  ∀ (r : Int) (H' : Hp), But p H H' → Pl H' p (b + 1) → 0 ≤ r → r < k → Q (.int r) H'
def spGcd : Sp := fun vs H Q _ => ∃ a b : Int, vs = [.int a, .int b] ∧ Q (.int (Int.gcd a b)) H
def spLow : Sp := fun vs H Q _ => ∃ t b : Int, vs = [.int t, .int b] ∧ b ≠ 0 ∧ Sm 8000 b ∧
  ∀ (p : Addr) (H' : Hp), Same H H' → H p = none → H' p = some (.tup [.int (lowT t b), .int (lowB t b)]) → Q (.ref p) H'
/-- a fraction: its two numbers, in lowest terms -/
structure Fr (m : Nat) (t u : Int) : Prop where
  pos : 0 < u
  one : Int.gcd t u = 1
  st : Sm m t
  su : Sm m u
end Mb
namespace Mb
open PySem L2
/-! ### promises of what reckons with fractions -/
def spArith (K : PySem.W.Frag) (T B : Int → Int → Int → Int → Int) : Sp := fun vs H Q _ => ∃ (a b : Addr) (x y u v : Int) (n m : Nat), vs = [.ref a, .ref b] ∧ SqT K H a [.int x, .int y] ∧ SqT K H b [.int u, .int v] ∧ Sm n x ∧ Sm n y ∧ Sm m u ∧ Sm m v ∧ n + m ≤ 8000 ∧ B x y u v ≠ 0 ∧
  ∀ (p : Addr) (H' : Hp), Same H H' → H p = none → H' p = some (.tup [.int (lowT (T x y u v) (B x y u v)), .int (lowB (T x y u v) (B x y u v))]) → Q (.ref p) H'
def spRaw (K : PySem.W.Frag) (T B : Int → Int → Int → Int → Int) : Sp := fun vs H Q _ => ∃ (a b : Addr) (x y u v : Int), vs = [.ref a, .ref b] ∧ SqT K H a [.int x, .int y] ∧ SqT K H b [.int u, .int v] ∧ Sm 20000 x ∧ Sm 20000 y ∧ Sm 20000 u ∧ Sm 20000 v ∧
  ∀ (p : Addr) (H' : Hp), Same H H' → H p = none → H' p = some (.tup [.int (T x y u v), .int (B x y u v)]) → Q (.ref p) H'
def spEven (K : PySem.W.Frag) : Sp := fun vs H Q _ => ∃ (a b : Addr) (x y u v : Int), vs = [.ref a, .ref b] ∧ SqT K H a [.int x, .int y] ∧ SqT K H b [.int u, .int v] ∧ Sm 100000 x ∧ Sm 100000 y ∧ Sm 100000 u ∧ Sm 100000 v ∧ Q (.bl (decide (x * v = u * y))) H
def spWhole : Sp := fun vs H Q _ => ∃ i : Int, vs = [.int i] ∧ Q (.bl true) H
end Mb
namespace Mb
open PySem L2
/-! ### the drawing of the laws of places, lines and circles -/
/-- the bits of a number of so many sizes -/
def nb (k : Int) : Nat := if k ≤ 4 then 10 else if k ≤ 5 then 30 else 210
/-- a place at a: its two fractions -/
structure Pc (K : PySem.W.Frag) (H : Hp) (a : Addr) (m : Nat) (t u r s : Int) : Prop where
  at_ : ∃ f g, SqT K H a [.ref f, .ref g] ∧ SqT K H f [.int t, .int u] ∧ SqT K H g [.int r, .int s]
  x : Fr m t u
  y : Fr m r s
theorem tyT {K : PySem.W.Frag} {H : Hp} {a : Addr} {xs : List V} (h : SqT K H a xs) : TyX K H (.ref a) (.type "tuple") := by
  rcases h with (h | ⟨o, h⟩) | ⟨o, its, n, h, c, _⟩
  · exact .base (.tup h)
  · exact .fTuple h
  · exact .kTuple h c
def spIsFr (K : PySem.W.Frag) : Sp := fun vs H Q _ => ∃ (p : Addr) (t u : Int), vs = [.ref p] ∧ SqT K H p [.int t, .int u] ∧ 0 < u ∧ Int.gcd t u = 1 ∧ Q (.bl true) H
def spIsPl (K : PySem.W.Frag) : Sp := fun vs H Q _ => ∃ (p f g : Addr) (t u r s : Int), vs = [.ref p] ∧ SqT K H p [.ref f, .ref g] ∧ SqT K H f [.int t, .int u] ∧ SqT K H g [.int r, .int s] ∧ 0 < u ∧ Int.gcd t u = 1 ∧ 0 < s ∧ Int.gcd r s = 1 ∧ Q (.bl true) H
end Mb
namespace Mb
open PySem L2
/-! ### fractions as rationals -/
theorem low_rat {t b : Int} (hb : b ≠ 0) : lowT t b = (Rat.divInt t b).num ∧ lowB t b = ((Rat.divInt t b).den : Int) := by
  have hd : ((Rat.divInt t b).den : Int) ≠ 0 := by have := (Rat.divInt t b).den_nz; omega
  refine low_eq hb (by omega) (Rat.divInt t b).reduced ?_
  have e := Rat.num_divInt_den (Rat.divInt t b)
  exact ((Rat.divInt_eq_divInt_iff hd hb).mp e).symm
/-- the sizes of a rational's numbers -/
structure Sz (n : Nat) (q : Rat) : Prop where
  t : Sm n q.num
  b : Sm n (q.den : Int)
theorem Sz.mono {m n : Nat} {q : Rat} (h : Sz m q) (l : m ≤ n) : Sz n q := ⟨h.t.mono l, h.b.mono l⟩
theorem Sz.lit {q : Rat} (h1 : Sm 8 q.num) (h2 : Sm 8 (q.den : Int)) : Sz 8 q := ⟨h1, h2⟩
theorem Sz.divInt {n : Nat} {t b : Int} (hb : b ≠ 0) (h1 : Sm n t) (h2 : Sm n b) : Sz n (Rat.divInt t b) := by
  obtain ⟨e1, e2⟩ := low_rat (t := t) hb
  refine ⟨?_, ?_⟩
  · rw [← e1]; exact h1.le (lowT_le hb)
  · rw [← e2]; exact h2.le (lowB_le hb)
theorem den_ne (q : Rat) : (q.den : Int) ≠ 0 := by have := q.den_nz; omega
theorem den_pos (q : Rat) : 0 < (q.den : Int) := by have := q.den_nz; omega
theorem add_dv (p q : Rat) : p + q = Rat.divInt (p.num * q.den + q.num * p.den) (p.den * q.den) := by
  rw [← Rat.divInt_add_divInt _ _ (den_ne p) (den_ne q), Rat.num_divInt_den, Rat.num_divInt_den]
theorem sub_dv (p q : Rat) : p - q = Rat.divInt (p.num * q.den - q.num * p.den) (p.den * q.den) := by
  rw [← Rat.divInt_sub_divInt _ _ (den_ne p) (den_ne q), Rat.num_divInt_den, Rat.num_divInt_den]
theorem mul_dv (p q : Rat) : p * q = Rat.divInt (p.num * q.num) (p.den * q.den) := by
  rw [← Rat.divInt_mul_divInt, Rat.num_divInt_den, Rat.num_divInt_den]
theorem div_dv (p q : Rat) : p / q = Rat.divInt (p.num * q.den) (p.den * q.num) := by
  rw [Rat.div_def, ← Rat.divInt_mul_divInt, Rat.num_divInt_den, ← Rat.inv_divInt, Rat.num_divInt_den]
theorem Sz.add {m n : Nat} {p q : Rat} (h : Sz m p) (l : Sz n q) : Sz (m + n + 1) (p + q) := by
  rw [add_dv]
  exact Sz.divInt (Int.mul_ne_zero (den_ne p) (den_ne q)) (((h.t.mul l.b).add ((l.t.mul h.b).mono (by omega)))) ((h.b.mul l.b).mono (by omega))
theorem Sz.sub {m n : Nat} {p q : Rat} (h : Sz m p) (l : Sz n q) : Sz (m + n + 1) (p - q) := by
  rw [sub_dv]
  exact Sz.divInt (Int.mul_ne_zero (den_ne p) (den_ne q)) (((h.t.mul l.b).sub ((l.t.mul h.b).mono (by omega)))) ((h.b.mul l.b).mono (by omega))
theorem Sz.mul {m n : Nat} {p q : Rat} (h : Sz m p) (l : Sz n q) : Sz (m + n) (p * q) := by
  rw [mul_dv]
  exact Sz.divInt (Int.mul_ne_zero (den_ne p) (den_ne q)) (h.t.mul l.t) (h.b.mul l.b)
/-- a fraction stands at v -/
def Fq (K : PySem.W.Frag) (H : Hp) (v : V) (q : Rat) : Prop := ∃ a, v = .ref a ∧ SqT K H a [.int q.num, .int q.den]
theorem Fq.up {K : PySem.W.Frag} {H H' : Hp} {v : V} {q : Rat} (h : Fq K H v q) (s : Same H H') : Fq K H' v q := by
  obtain ⟨a, rfl, t⟩ := h
  exact ⟨a, rfl, s.tp t⟩
theorem Fq.of {K : PySem.W.Frag} {H : Hp} {a : Addr} {t b : Int} (q : Rat) (hb : b ≠ 0) (e : q = Rat.divInt t b) (h : H a = some (.tup [.int (lowT t b), .int (lowB t b)])) : Fq K H (.ref a) q := by
  obtain ⟨e1, e2⟩ := low_rat (t := t) hb
  rw [e1, e2, ← e] at h
  exact ⟨a, rfl, tupOf h⟩
/-- a fraction stands at v, in lowest terms or not -/
def Rq (K : PySem.W.Frag) (H : Hp) (v : V) (q : Rat) (n : Nat) : Prop := ∃ a t b, v = .ref a ∧ SqT K H a [.int t, .int b] ∧ b ≠ 0 ∧ q = Rat.divInt t b ∧ Sm n t ∧ Sm n b
theorem Rq.up {K : PySem.W.Frag} {H H' : Hp} {v : V} {q : Rat} {n : Nat} (h : Rq K H v q n) (s : Same H H') : Rq K H' v q n := by
  obtain ⟨a, t, b, rfl, h1, h2⟩ := h
  exact ⟨a, t, b, rfl, s.tp h1, h2⟩
theorem Fq.rq {K : PySem.W.Frag} {H : Hp} {v : V} {q : Rat} {n : Nat} (h : Fq K H v q) (s : Sz n q) : Rq K H v q n := by
  obtain ⟨a, rfl, t⟩ := h
  exact ⟨a, _, _, rfl, t, den_ne q, (Rat.num_divInt_den q).symm, s.t, s.b⟩
/-- a place stands at v -/
def Pq (K : PySem.W.Frag) (H : Hp) (v : V) (x y : Rat) : Prop := ∃ a f g, v = .ref a ∧ SqT K H a [f, g] ∧ Fq K H f x ∧ Fq K H g y
theorem Pq.up {K : PySem.W.Frag} {H H' : Hp} {v : V} {x y : Rat} (h : Pq K H v x y) (s : Same H H') : Pq K H' v x y := by
  obtain ⟨a, f, g, rfl, t, h1, h2⟩ := h
  exact ⟨a, f, g, rfl, s.tp t, h1.up s, h2.up s⟩
theorem Fq.but {K : PySem.W.Frag} {H H' : Hp} {v : V} {q : Rat} {p : Addr} {xs : List V} (h : Fq K H v q) (hp : H p = some (.lst xs)) (s : But p H H') : Fq K H' v q := by
  obtain ⟨a, rfl, t⟩ := h
  exact ⟨a, rfl, s.tup hp t⟩
/-! ### == of fractions, of places -/
def dq (q : Rat) : PyData := .tuple [.int q.num, .int q.den]
def dpl (x y : Rat) : PyData := .tuple [dq x, dq y]
theorem Fq.dp {K : PySem.W.Frag} {H : Hp} {v : V} {q : Rat} (h : Fq K H v q) : Dp K H v (dq q) := by
  obtain ⟨a, rfl, t⟩ := h
  exact .tup t (.cons (.int _) (.cons (.int _) .nil))
theorem Pq.dp {K : PySem.W.Frag} {H : Hp} {v : V} {x y : Rat} (h : Pq K H v x y) : Dp K H v (dpl x y) := by
  obtain ⟨a, f, g, rfl, t, h1, h2⟩ := h
  exact .tup t (.cons h1.dp (.cons h2.dp .nil))
section
variable {H : Hp} {Q : VK} {K : PySem.W.Frag}
theorem r_eqTrue {v w : V} {d : PyData} (h1 : Dp K H v d) (h2 : Dp K H w d) (sh : SeqAt.shaped d = true) (cl : PyData.canLay0 d = true) (k : Q (.bl true) H) : rEqD K v w H Q := by
  refine ⟨d, d, h1, h2, sh, sh, ?_⟩
  rw [SeqAt.eqv_refl _ cl]
  exact k
theorem r_eqP {v w : V} {x y x' y' : Rat} (h1 : Pq K H v x y) (h2 : Pq K H w x' y') (e : x = x' ∧ y = y') (k : Q (.bl true) H) : rEqD K v w H Q := by
  obtain ⟨rfl, rfl⟩ := e
  exact r_eqTrue h1.dp h2.dp rfl rfl k
end
/-! ### promises over rationals -/
def spQ2 (K : PySem.W.Frag) (pre : Rat → Rat → Prop) (op : Rat → Rat → Rat) : Sp := fun vs H Q _ => ∃ (v w : V) (p q : Rat) (n m : Nat), vs = [v, w] ∧ Fq K H v p ∧ Fq K H w q ∧ Sz n p ∧ Sz m q ∧ n + m ≤ 8000 ∧ pre p q ∧
  ∀ (r : V) (H' : Hp), Same H H' → Fq K H' r (op p q) → Q r H'
theorem q2_arith {K : PySem.W.Frag} {pre : Rat → Rat → Prop} {op : Rat → Rat → Rat} {T B : Int → Int → Int → Int → Int}
    (hop : ∀ p q, pre p q → B p.num p.den q.num q.den ≠ 0 ∧ op p q = Rat.divInt (T p.num p.den q.num q.den) (B p.num p.den q.num q.den)) {vs : List V} {H : Hp} {Q : VK} {E : XK} (h : spQ2 K pre op vs H Q E) : spArith K T B vs H Q E := by
  obtain ⟨_, _, p, q, n, m, rfl, ⟨a, rfl, ha⟩, ⟨b, rfl, hb⟩, s1, s2, l, pr, k⟩ := h
  obtain ⟨h1, h2⟩ := hop p q pr
  exact ⟨a, b, _, _, _, _, n, m, rfl, ha, hb, s1.t, s1.b, s2.t, s2.b, l, h1, fun o H' g _ ho => k _ _ g (Fq.of _ h1 h2 ho)⟩
theorem plus_q2 {K : PySem.W.Frag} {vs : List V} {H : Hp} {Q : VK} {E : XK} (h : spQ2 K (fun _ _ => True) (· + ·) vs H Q E) : spArith K (fun x y u v => x * v + u * y) (fun x y u v => y * v) vs H Q E :=
  q2_arith (fun p q _ => ⟨Int.mul_ne_zero (den_ne p) (den_ne q), add_dv p q⟩) h
theorem minus_q2 {K : PySem.W.Frag} {vs : List V} {H : Hp} {Q : VK} {E : XK} (h : spQ2 K (fun _ _ => True) (· - ·) vs H Q E) : spArith K (fun x y u v => x * v - u * y) (fun x y u v => y * v) vs H Q E :=
  q2_arith (fun p q _ => ⟨Int.mul_ne_zero (den_ne p) (den_ne q), sub_dv p q⟩) h
/-- the raw ones -/
def spR2 (K : PySem.W.Frag) (op : Rat → Rat → Rat) : Sp := fun vs H Q _ => ∃ (v w : V) (p q : Rat) (n m : Nat), vs = [v, w] ∧ Rq K H v p n ∧ Rq K H w q m ∧ n ≤ 20000 ∧ m ≤ 20000 ∧
  ∀ (r : V) (H' : Hp), Same H H' → Rq K H' r (op p q) (n + m + 1) → Q r H'
def spS2 (K : PySem.W.Frag) : Sp := fun vs H Q _ => ∃ (v w : V) (p q : Rat) (n m : Nat), vs = [v, w] ∧ Rq K H v p n ∧ Rq K H w q m ∧ n ≤ 100000 ∧ m ≤ 100000 ∧ Q (.bl (decide (p = q))) H
theorem r2_raw {K : PySem.W.Frag} {op : Rat → Rat → Rat} {T B : Int → Int → Int → Int → Int}
    (hop : ∀ x y u v : Int, ∀ n m : Nat, y ≠ 0 → v ≠ 0 → Sm n x → Sm n y → Sm m u → Sm m v → B x y u v ≠ 0 ∧ op (Rat.divInt x y) (Rat.divInt u v) = Rat.divInt (T x y u v) (B x y u v) ∧ Sm (n + m + 1) (T x y u v) ∧ Sm (n + m + 1) (B x y u v)) {vs : List V} {H : Hp} {Q : VK} {E : XK} (h : spR2 K op vs H Q E) : spRaw K T B vs H Q E := by
  obtain ⟨_, _, p, q, n, m, rfl, ⟨a, x, y, rfl, ha, y0, rfl, sx, sy⟩, ⟨b, u, v, rfl, hb, v0, rfl, su, sv⟩, l1, l2, k⟩ := h
  obtain ⟨h1, h2, h3, h4⟩ := hop x y u v n m y0 v0 sx sy su sv
  exact ⟨a, b, _, _, _, _, rfl, ha, hb, sx.mono l1, sy.mono l1, su.mono l2, sv.mono l2, fun o H' g _ ho => k _ _ g ⟨o, _, _, rfl, tupOf ho, h1, h2, h3, h4⟩⟩
theorem plus_r2 {K : PySem.W.Frag} {vs : List V} {H : Hp} {Q : VK} {E : XK} (h : spR2 K (· + ·) vs H Q E) : spRaw K (fun x y u v => x * v + u * y) (fun x y u v => y * v) vs H Q E :=
  r2_raw (fun x y u v n m y0 v0 sx sy su sv => ⟨Int.mul_ne_zero y0 v0, Rat.divInt_add_divInt _ _ y0 v0, (sx.mul sv).add ((su.mul sy).mono (by omega)), (sy.mul sv).mono (by omega)⟩) h
theorem minus_r2 {K : PySem.W.Frag} {vs : List V} {H : Hp} {Q : VK} {E : XK} (h : spR2 K (· - ·) vs H Q E) : spRaw K (fun x y u v => x * v - u * y) (fun x y u v => y * v) vs H Q E :=
  r2_raw (fun x y u v n m y0 v0 sx sy su sv => ⟨Int.mul_ne_zero y0 v0, Rat.divInt_sub_divInt _ _ y0 v0, (sx.mul sv).sub ((su.mul sy).mono (by omega)), (sy.mul sv).mono (by omega)⟩) h
theorem times_r2 {K : PySem.W.Frag} {vs : List V} {H : Hp} {Q : VK} {E : XK} (h : spR2 K (· * ·) vs H Q E) : spRaw K (fun x y u v => x * u) (fun x y u v => y * v) vs H Q E :=
  r2_raw (fun x y u v n m y0 v0 sx sy su sv => ⟨Int.mul_ne_zero y0 v0, Rat.divInt_mul_divInt _ _, (sx.mul su).mono (by omega), (sy.mul sv).mono (by omega)⟩) h
theorem same_r2 {K : PySem.W.Frag} {vs : List V} {H : Hp} {Q : VK} {E : XK} (h : spS2 K vs H Q E) : spEven K vs H Q E := by
  obtain ⟨_, _, p, q, n, m, rfl, ⟨a, x, y, rfl, ha, y0, rfl, sx, sy⟩, ⟨b, u, v, rfl, hb, v0, rfl, su, sv⟩, l1, l2, k⟩ := h
  refine ⟨a, b, _, _, _, _, rfl, ha, hb, sx.mono l1, sy.mono l1, su.mono l2, sv.mono l2, ?_⟩
  have e : decide (Rat.divInt x y = Rat.divInt u v) = decide (x * v = u * y) := decide_eq_decide.mpr (Rat.divInt_eq_divInt_iff y0 v0)
  rw [← e]
  exact k
/-- a promise that is asked for less -/
theorem Kn.of {P : Program} {w : World} {K : PySem.W.Frag} {mg : Str → Option Value} {base : Heap} {k : Nat} {x : Str} {ps : List Str} {sp sp' : Sp} (G : Kn P w K mg base k x ps sp) (i : ∀ vs H Q E, sp' vs H Q E → sp vs H Q E) : Kn P w K mg base k x ps sp' := by
  obtain ⟨f, fd, F, m, kp, b⟩ := G.ex
  exact ⟨f, fd, F.imp i, m, kp, b⟩
def newT (Q : VK) (xs : List V) (H : Hp) : Prop := xs.length ≤ sizeLine ∧ ∀ p, H p = none → Q (.ref p) (upd H p (.tup xs))
def newL (Q : VK) (xs : List V) (H : Hp) : Prop := xs.length ≤ sizeLine ∧ ∀ p, H p = none → Q (.ref p) (upd H p (.lst xs))
theorem r_tup2 {σ : St} {H : Hp} {Q : VK} {t : TA} (q : t σ H fun xs H1 => newT Q xs H1) : tTup t σ H Q := q
theorem r_lst2 {σ : St} {H : Hp} {Q : VK} {t : TA} (q : t σ H fun xs H1 => newL Q xs H1) : tLst t σ H Q := q
theorem r_newT {H : Hp} {Q : VK} {xs : List V} (l : Nat.ble xs.length 1000 = true) (q : ∀ p H2, Same H H2 → H p = none → H2 p = some (.tup xs) → Q (.ref p) H2) : newT Q xs H :=
  ⟨sz l, fun p hp => q p _ (same_new hp _) hp upd_same⟩
theorem r_newL {H : Hp} {Q : VK} {xs : List V} (l : Nat.ble xs.length 1000 = true) (q : ∀ p H2, Same H H2 → H p = none → H2 p = some (.lst xs) → Q (.ref p) H2) : newL Q xs H :=
  ⟨sz l, fun p hp => q p _ (same_new hp _) hp upd_same⟩
/-! ### steps over rationals -/
section
variable {σ : St} {H : Hp} {Q : VK} {E : XK} {K : PySem.W.Frag}
theorem Fq.int {H : Hp} {a : Addr} {t : Int} (h : H a = some (.tup [.int t, .int 1])) : Fq K H (.ref a) (t : Rat) := ⟨a, rfl, tupOf h⟩
theorem Pq.mk {H : Hp} {a : Addr} {f g : V} {x y : Rat} (h : H a = some (.tup [f, g])) (h1 : Fq K H f x) (h2 : Fq K H g y) : Pq K H (.ref a) x y := ⟨a, f, g, rfl, tupOf h, h1, h2⟩
theorem r_ixF0 {v : V} {q : Rat} (h : Fq K H v q) (k : Q (.int q.num) H) : rIxT K v (.int 0) H Q := by
  obtain ⟨a, rfl, t⟩ := h
  exact ⟨a, _, 0, _, rfl, rfl, t, rfl, k⟩
theorem r_ixF1 {v : V} {q : Rat} (h : Fq K H v q) (k : Q (.int q.den) H) : rIxT K v (.int 1) H Q := by
  obtain ⟨a, rfl, t⟩ := h
  exact ⟨a, _, 1, _, rfl, rfl, t, rfl, k⟩
theorem r_ixP0 {v : V} {x y : Rat} (h : Pq K H v x y) (k : ∀ f, Fq K H f x → Q f H) : rIxT K v (.int 0) H Q := by
  obtain ⟨a, f, g, rfl, t, h1, h2⟩ := h
  exact ⟨a, _, 0, f, rfl, rfl, t, rfl, k f h1⟩
theorem r_ixP1 {v : V} {x y : Rat} (h : Pq K H v x y) (k : ∀ f, Fq K H f y → Q f H) : rIxT K v (.int 1) H Q := by
  obtain ⟨a, f, g, rfl, t, h1, h2⟩ := h
  exact ⟨a, _, 1, g, rfl, rfl, t, rfl, k g h2⟩
theorem r_q2 {pre : Rat → Rat → Prop} {op : Rat → Rat → Rat} {v w : V} {p q : Rat} {n m : Nat} (h1 : Fq K H v p) (h2 : Fq K H w q) (s1 : Sz n p) (s2 : Sz m q) (l : Nat.ble (n + m) 8000 = true) (pr : pre p q)
    (k : ∀ (r : V) (H' : Hp), Same H H' → Fq K H' r (op p q) → Q r H') : spQ2 K pre op ([v, w] ++ []) H Q E :=
  ⟨v, w, p, q, n, m, rfl, h1, h2, s1, s2, Nat.le_of_ble_eq_true l, pr, k⟩
end
/-- two places in, a place out -/
def spP2 (K : PySem.W.Frag) (X Y : Rat → Rat → Rat → Rat → Rat) : Sp := fun vs H Q _ => ∃ (v w : V) (x y x' y' : Rat) (n m : Nat), vs = [v, w] ∧ Pq K H v x y ∧ Pq K H w x' y' ∧ Sz n x ∧ Sz n y ∧ Sz m x' ∧ Sz m y' ∧ n + m ≤ 3800 ∧
  ∀ (r : V) (H' : Hp), Same H H' → Pq K H' r (X x y x' y') (Y x y x' y') → Q r H'
def spIsP (K : PySem.W.Frag) : Sp := fun vs H Q _ => ∃ (v : V) (x y : Rat), vs = [v] ∧ Pq K H v x y ∧ Q (.bl true) H
theorem isP_of {K : PySem.W.Frag} {vs : List V} {H : Hp} {Q : VK} {E : XK} (h : spIsP K vs H Q E) : spIsPl K vs H Q E := by
  obtain ⟨_, x, y, rfl, ⟨a, _, _, rfl, t, ⟨f, rfl, h1⟩, ⟨g, rfl, h2⟩⟩, k⟩ := h
  exact ⟨a, f, g, _, _, _, _, rfl, t, h1, h2, den_pos x, x.reduced, den_pos y, y.reduced, k⟩
/-! ### drawing, over rationals -/
section
variable {H : Hp} {Q : VK} {E : XK} {K : PySem.W.Frag}
end
/-! ### more of the drawing, over rationals -/
section
variable {H : Hp} {Q : VK} {E : XK} {K : PySem.W.Frag}
end
theorem Pq.cast {K : PySem.W.Frag} {H : Hp} {v : V} {x y x' y' : Rat} (h : Pq K H v x y) (ex : x = x') (ey : y = y') : Pq K H v x' y' := by
  subst ex; subst ey; exact h
theorem r_no {c : Prop} [Decidable c] {A B : Prop} (h : ¬ c) (k : B) : if decide c = true then A else B := by
  rw [decide_eq_false h]; exact k
theorem r_neP {H : Hp} {Q : VK} {K : PySem.W.Frag} {v w : V} {x y x' y' : Rat} (h1 : Pq K H v x y) (h2 : Pq K H w x' y') (e : x = x' ∧ y = y') (k : Q (.bl false) H) : rNeD K v w H Q := by
  obtain ⟨rfl, rfl⟩ := e
  refine ⟨_, _, h1.dp, h2.dp, rfl, rfl, ?_⟩
  rw [SeqAt.eqv_refl _ rfl]
  exact k
theorem Sz.int {i : Int} {n : Nat} (h : Sm n i) (l : 0 < n) : Sz n (i : Rat) := ⟨h, by
  show Sm n ((1 : Nat) : Int)
  unfold Sm
  exact Nat.one_lt_two_pow (by omega)⟩
end Mb
namespace Mb
open PySem L2
/-! ### lines -/
structure Ln (a b c : Int) : Prop where
  sg : 0 < a ∨ (a = 0 ∧ 0 < b)
  one : Int.gcd (Int.gcd a b) c = 1
theorem gcd3_mul (k a b c : Int) : Int.gcd (Int.gcd (k * a) (k * b)) (k * c) = k.natAbs * Int.gcd (Int.gcd a b) c := by
  rw [Int.gcd_mul_left]
  have e : ((k.natAbs * Int.gcd a b : Nat) : Int).natAbs = (k * (Int.gcd a b : Int)).natAbs := by
    rw [Int.natAbs_mul]; rfl
  have : Int.gcd ((k.natAbs * Int.gcd a b : Nat) : Int) (k * c) = Int.gcd (k * (Int.gcd a b : Int)) (k * c) := by
    show Nat.gcd (((k.natAbs * Int.gcd a b : Nat) : Int).natAbs) _ = Nat.gcd ((k * (Int.gcd a b : Int)).natAbs) _
    rw [e]
  rw [this, Int.gcd_mul_left]
theorem line_unique {a b c a' b' c' : Int} (h : Ln a b c) (h' : Ln a' b' c') (e1 : a * b' = b * a') (e2 : a * c' = c * a') (e3 : b * c' = c * b') : a = a' ∧ b = b' ∧ c = c' := by
  have k1 := gcd3_mul a' a b c
  have k2 := gcd3_mul a a' b' c'
  rw [h.one] at k1
  rw [h'.one] at k2
  have m1 := gcd3_mul b' a b c
  have m2 := gcd3_mul b a' b' c'
  rw [h.one] at m1
  rw [h'.one] at m2
  rw [show a' * a = a * a' from Int.mul_comm _ _, show a' * b = a * b' by rw [e1, Int.mul_comm], show a' * c = a * c' by rw [e2, Int.mul_comm], k2] at k1
  rw [show b' * a = b * a' by rw [← e1, Int.mul_comm], show b' * b = b * b' from Int.mul_comm _ _, show b' * c = b * c' by rw [e3, Int.mul_comm], m2] at m1
  have ea : a = a' := by
    have := h.sg
    have := h'.sg
    omega
  subst ea
  rcases h.sg with p | ⟨rfl, p⟩
  · refine ⟨rfl, ?_, ?_⟩
    · exact (Int.eq_of_mul_eq_mul_left (show a ≠ 0 by omega) (by rw [e1, Int.mul_comm])).symm
    · exact (Int.eq_of_mul_eq_mul_left (show a ≠ 0 by omega) (by rw [e2, Int.mul_comm])).symm
  · have p' : 0 < b' := by have := h'.sg; omega
    have eb : b = b' := by omega
    subst eb
    refine ⟨rfl, rfl, ?_⟩
    exact (Int.eq_of_mul_eq_mul_left (show b ≠ 0 by omega) (by rw [e3, Int.mul_comm])).symm
theorem cast_inj {i j : Int} (h : (i : Rat) = j) : i = j := by
  have := congrArg Rat.num h
  exact this
end Mb
namespace Mb
open PySem L2
/-- a line stands at v -/
def Lq (K : PySem.W.Frag) (H : Hp) (v : V) (a b c : Int) : Prop := ∃ p, v = .ref p ∧ SqT K H p [.int a, .int b, .int c]
theorem Lq.up {K : PySem.W.Frag} {H H' : Hp} {v : V} {a b c : Int} (h : Lq K H v a b c) (s : Same H H') : Lq K H' v a b c := by
  obtain ⟨p, rfl, t⟩ := h
  exact ⟨p, rfl, s.tp t⟩
/-- the divisor with its sign -/
def formG (a b c : Int) : Int := if decide (a < 0 ∨ (a = 0 ∧ b < 0)) then -(Int.gcd (Int.gcd a b) c : Int) else (Int.gcd (Int.gcd a b) c : Int)
theorem gcd3_pos {a b c : Int} (h : ¬ (a = 0 ∧ b = 0)) : 0 < Int.gcd (Int.gcd a b) c := by
  have : 0 < Int.gcd a b := by
    by_cases ha : a = 0
    · exact Int.gcd_pos_of_ne_zero_right a (fun z => h ⟨ha, z⟩)
    · exact Int.gcd_pos_of_ne_zero_left b ha
  exact Int.gcd_pos_of_ne_zero_left c (by omega)
theorem form_dvd (a b c : Int) : formG a b c ∣ a ∧ formG a b c ∣ b ∧ formG a b c ∣ c := by
  have d1 : ((Int.gcd (Int.gcd a b) c : Nat) : Int) ∣ (Int.gcd a b : Int) := Int.gcd_dvd_left _ _
  have d2 : ((Int.gcd (Int.gcd a b) c : Nat) : Int) ∣ c := Int.gcd_dvd_right _ _
  have d3 := Int.dvd_trans d1 (Int.gcd_dvd_left a b)
  have d4 := Int.dvd_trans d1 (Int.gcd_dvd_right a b)
  unfold formG
  split
  · exact ⟨Int.neg_dvd.mpr d3, Int.neg_dvd.mpr d4, Int.neg_dvd.mpr d2⟩
  · exact ⟨d3, d4, d2⟩
theorem form_ne {a b c : Int} (h : ¬ (a = 0 ∧ b = 0)) : formG a b c ≠ 0 := by
  have := gcd3_pos (c := c) h
  unfold formG
  split <;> omega
theorem form_ln {a b c A B C : Int} (h : ¬ (a = 0 ∧ b = 0)) (e1 : a = formG a b c * A) (e2 : b = formG a b c * B) (e3 : c = formG a b c * C) : Ln A B C := by
  have p := gcd3_pos (c := c) h
  have na : (formG a b c).natAbs = Int.gcd (Int.gcd a b) c := by
    unfold formG
    split <;> omega
  have k := gcd3_mul (formG a b c) A B C
  rw [← e1, ← e2, ← e3, na] at k
  refine ⟨?_, ?_⟩
  · by_cases c1 : a < 0 ∨ (a = 0 ∧ b < 0)
    · have g : formG a b c < 0 := by
        unfold formG
        rw [decide_eq_true c1]
        simp only [if_true]
        omega
      rcases c1 with c1 | ⟨rfl, c1⟩
      · left
        rw [e1] at c1
        exact Int.pos_of_mul_neg_right c1 g
      · right
        refine ⟨?_, ?_⟩
        · rcases Int.mul_eq_zero.mp e1.symm with z | z
          · omega
          · exact z
        · rw [e2] at c1
          exact Int.pos_of_mul_neg_right c1 g
    · have g : 0 < formG a b c := by
        unfold formG
        rw [decide_eq_false c1]
        simp only [Bool.false_eq_true, if_false]
        omega
      by_cases z : a = 0
      · right
        subst z
        refine ⟨?_, ?_⟩
        · rcases Int.mul_eq_zero.mp e1.symm with z | z
          · omega
          · exact z
        · have hb : 0 < b := by omega
          rw [e2] at hb
          exact Int.pos_of_mul_pos_right hb g
      · left
        have ha : 0 < a := by omega
        rw [e1] at ha
        exact Int.pos_of_mul_pos_right ha g
  · have : 0 < Int.gcd (Int.gcd a b) c := p
    exact (Nat.eq_of_mul_eq_mul_left this (by omega : _ * 1 = _ * _)).symm
def spOneForm (K : PySem.W.Frag) : Sp := fun vs H Q _ => ∃ (a b c : Int) (n : Nat), vs = [.int a, .int b, .int c] ∧ ¬ (a = 0 ∧ b = 0) ∧ Sm n a ∧ Sm n b ∧ Sm n c ∧ n ≤ 8000 ∧
  ∀ (v : V) (H' : Hp) (A B C g : Int), Same H H' → Lq K H' v A B C → Ln A B C → g ≠ 0 → a = g * A → b = g * B → c = g * C → Sm n A → Sm n B → Sm n C → Q v H'
theorem fdiv_dvd {a g : Int} (h : g ≠ 0) (d : g ∣ a) : a = g * a.fdiv g := by
  rw [Int.fdiv_eq_ediv_of_dvd d, Int.mul_ediv_cancel' d]
theorem sm_quot {n : Nat} {a g A : Int} (h : g ≠ 0) (e : a = g * A) (s : Sm n a) : Sm n A := by
  refine s.le ?_
  rw [e, Int.natAbs_mul]
  have : 1 ≤ g.natAbs := by omega
  exact Nat.le_mul_of_pos_left _ this
theorem form_sm {a b c : Int} {n : Nat} (h : ¬ (a = 0 ∧ b = 0)) (sa : Sm n a) (sb : Sm n b) : Sm n (formG a b c) := by
  obtain ⟨d1, d2, _⟩ := form_dvd a b c
  by_cases z : a = 0
  · have nb : b ≠ 0 := fun y => h ⟨z, y⟩
    refine sb.le ?_
    exact Nat.le_of_dvd (by omega) (Int.natAbs_dvd_natAbs.mpr d2)
  · refine sa.le ?_
    exact Nat.le_of_dvd (by omega) (Int.natAbs_dvd_natAbs.mpr d1)
theorem den_ne' (x : Rat) : ((x.den : Int) : Rat) ≠ 0 := by
  intro z
  have := congrArg Rat.num z
  exact x.den_nz (Int.ofNat_inj.mp this)
theorem hden (x : Rat) : x * (x.den : Int) = ((x.num : Int) : Rat) := by
  have e := Rat.num_divInt_den x
  rw [Rat.divInt_eq_div] at e
  have d := den_ne' x
  grind
def spIsLn (K : PySem.W.Frag) : Sp := fun vs H Q _ => ∃ (v : V) (a b c : Int), vs = [v] ∧ Lq K H v a b c ∧ Ln a b c ∧ Q (.bl true) H
theorem eqv_dq (p q : Rat) : PyData.eqv (dq p) (dq q) = decide (p = q) := by
  by_cases h : p = q
  · subst h
    rw [decide_eq_true rfl]
    exact SeqAt.eqv_refl _ rfl
  · rw [decide_eq_false h]
    have : ¬ (p.num = q.num ∧ p.den = q.den) := fun z => h (Rat.ext z.1 z.2)
    simp [dq, PyData.eqv, PyData.eqvAll]
    intro z
    intro y
    exact this ⟨z, by omega⟩
theorem eqv_dpl (x y x' y' : Rat) : PyData.eqv (dpl x y) (dpl x' y') = decide (x = x' ∧ y = y') := by
  have e : PyData.eqv (dpl x y) (dpl x' y') = (PyData.eqv (dq x) (dq x') && PyData.eqv (dq y) (dq y')) := by
    simp [dpl, PyData.eqv, PyData.eqvAll]
  rw [e, eqv_dq, eqv_dq, Bool.decide_and]
theorem r_eqPd {H : Hp} {Q : VK} {K : PySem.W.Frag} {v w : V} {x y x' y' : Rat} (h1 : Pq K H v x y) (h2 : Pq K H w x' y') (k : Q (.bl (decide (x = x' ∧ y = y'))) H) : rEqD K v w H Q := by
  refine ⟨_, _, h1.dp, h2.dp, rfl, rfl, ?_⟩
  rw [eqv_dpl]
  exact k
end Mb
namespace Mb
open PySem L2
/-! ### whole numbers under rationals -/
theorem ratz {b : Int} (h : b ≠ 0) : (b : Rat) ≠ 0 := fun z => h (cast_inj (by rw [z]; rfl))
theorem divInt_of {t b : Int} {q : Rat} (hb : b ≠ 0) (e : (t : Rat) = q * (b : Rat)) : q = Rat.divInt t b := by
  have nb := ratz hb
  rw [Rat.divInt_eq_div]
  grind
def spFrQ (K : PySem.W.Frag) : Sp := fun vs H Q _ => ∃ (t b : Int) (q : Rat), vs = [.int t, .int b] ∧ b ≠ 0 ∧ Sm 8000 b ∧ (t : Rat) = q * (b : Rat) ∧ ∀ (r : V) (H' : Hp), Same H H' → Fq K H' r q → Q r H'
theorem frQ_of {K : PySem.W.Frag} {vs : List V} {H : Hp} {Q : VK} {E : XK} (h : spFrQ K vs H Q E) : spLow vs H Q E := by
  obtain ⟨t, b, q, rfl, hb, sb, e, k⟩ := h
  exact ⟨t, b, rfl, hb, sb, fun p H' g _ ho => k _ _ g (Fq.of q hb (divInt_of hb e) ho)⟩
section
variable {K : PySem.W.Frag} {σ : St} {H : Hp} {Q : St → Hp → Prop}
theorem r_gnil (q : Q σ H) : gNil [] σ H Q := ⟨rfl, q⟩
theorem r_gcons {t : TG} {u : TGs} {v : V} {r : List V} (q : t v σ H fun σ' H' => u r σ' H' Q) : gCons t u (v :: r) σ H Q := ⟨v, r, rfl, q⟩
theorem r_gL {t : TGs} {v : V} {a b c : Int} {n : Nat} (h : Lq K H v a b c) (l : 3 = n) (q : t [.int a, .int b, .int c] σ H Q) : gTup K n t v σ H Q := by
  obtain ⟨p, rfl, h⟩ := h
  exact ⟨p, _, rfl, h, l, q⟩
theorem r_gF {t : TGs} {v : V} {x : Rat} {n : Nat} (h : Fq K H v x) (l : 2 = n) (q : t [.int x.num, .int x.den] σ H Q) : gTup K n t v σ H Q := by
  obtain ⟨p, rfl, h⟩ := h
  exact ⟨p, _, rfl, h, l, q⟩
theorem r_gP {t : TGs} {v : V} {x y : Rat} {n : Nat} (h : Pq K H v x y) (l : 2 = n) (q : ∀ f g, Fq K H f x → Fq K H g y → t [f, g] σ H Q) : gTup K n t v σ H Q := by
  obtain ⟨p, f, g, rfl, h, h1, h2⟩ := h
  exact ⟨p, _, rfl, h, l, q f g h1 h2⟩
end
section
variable {K : PySem.W.Frag} {H : Hp} {Q : VK} {E : XK}
theorem r_ixL0 {v : V} {a b c : Int} (h : Lq K H v a b c) (k : Q (.int a) H) : rIxT K v (.int 0) H Q := by
  obtain ⟨p, rfl, t⟩ := h
  exact ⟨p, _, 0, _, rfl, rfl, t, rfl, k⟩
theorem r_ixL1 {v : V} {a b c : Int} (h : Lq K H v a b c) (k : Q (.int b) H) : rIxT K v (.int 1) H Q := by
  obtain ⟨p, rfl, t⟩ := h
  exact ⟨p, _, 1, _, rfl, rfl, t, rfl, k⟩
end
theorem Lq.mk {K : PySem.W.Frag} {H : Hp} {p : Addr} {a b c : Int} (h : H p = some (.tup [.int a, .int b, .int c])) : Lq K H (.ref p) a b c := ⟨p, rfl, tupOf h⟩
def rIsNo : R2 := fun x y H Q => y = .non ∧ Q (.bl (decide (x = .non))) H
theorem op_isNo {X : Cx} : OpR X (compareOp .Is) rIsNo := op_isN
section
variable {K : PySem.W.Frag} {H : Hp} {Q : VK}
theorem r_isNN (k : Q (.bl true) H) : rIsNo .non .non H Q := ⟨rfl, k⟩
theorem r_isNR {a : Addr} (k : Q (.bl false) H) : rIsNo (.ref a) .non H Q := ⟨rfl, k⟩
end
/-! ### promises of the program's places and lines -/
def spWayI (K : PySem.W.Frag) : Sp := fun vs H Q _ => ∃ (v w : V) (x y x' y' : Rat) (n m : Nat), vs = [v, w] ∧ Pq K H v x y ∧ Pq K H w x' y' ∧ Sz n x ∧ Sz n y ∧ Sz m x' ∧ Sz m y' ∧ n ≤ 3800 ∧ m ≤ 3800 ∧
  ∀ (r : V) (H' : Hp) (X Y W : Int), Same H H' → Lq K H' r X Y W → 0 < W → (X : Rat) = (x' - x) * W → (Y : Rat) = (y' - y) * W → Sm (n + n + (m + m) + 1) X → Sm (n + n + (m + m) + 1) Y → Sm (n + n + (m + m)) W → Q r H'
def RAl (A B a b : Int) : Prop := (A : Rat) * b = B * a
def RUp (A B a b : Int) : Prop := (A : Rat) * a + B * b = 0
theorem Ln.nz {a b c : Int} (h : Ln a b c) : ¬ (a = 0 ∧ b = 0) := by
  have := h.sg
  omega
/-- where two lines meet -/
def spMeet (K : PySem.W.Frag) : Sp := fun vs H Q _ => ∃ (v w : V) (a b c a' b' c' : Int) (n m : Nat), vs = [v, w] ∧ Lq K H v a b c ∧ Lq K H w a' b' c' ∧ Sm n a ∧ Sm n b ∧ Sm n c ∧ Sm m a' ∧ Sm m b' ∧ Sm m c' ∧ n + m ≤ 7600 ∧
  (a * b' = b * a' → Q .non H) ∧
  (a * b' ≠ b * a' → ∀ (r : V) (H' : Hp) (x y : Rat), Same H H' → Pq K H' r x y → (a : Rat) * x + b * y = c → (a' : Rat) * x + b' * y = c' → Sz (n + m + 1) x → Sz (n + m + 1) y → Q r H')
theorem cross_rat {a b a' b' : Int} (h : a * b' ≠ b * a') : (a : Rat) * b' - b * a' ≠ 0 := fun z => h (cast_inj (by
  simp only [Rat.intCast_mul]
  grind))
end Mb
namespace Mb
open PySem L2
theorem Fq.half {K : PySem.W.Frag} {H : Hp} {a : Addr} (h : H a = some (.tup [.int 1, .int 2])) : Fq K H (.ref a) (1 / 2 : Rat) := ⟨a, rfl, tupOf (by rw [show ((1 / 2 : Rat)).num = 1 from by decide +kernel, show ((1 / 2 : Rat)).den = 2 from by decide +kernel]; exact h)⟩
theorem Fq.two {K : PySem.W.Frag} {H : Hp} {a : Addr} (h : H a = some (.tup [.int 2, .int 1])) : Fq K H (.ref a) (2 : Rat) := ⟨a, rfl, tupOf h⟩
theorem gcd_quot {a b : Int} {n : Nat} (ha : 0 < a) (hb : 0 < b) (s : Sm n a) : ∃ g A B : Int, (Int.gcd a b : Int) = g ∧ 0 < g ∧ Sm n g ∧ a = g * A ∧ b = g * B ∧ a / g = A ∧ b / g = B ∧ 0 < A ∧ 0 < B := by
  have g0 := gcd_pos (t := a) (show b ≠ 0 by omega)
  have d1 : (Int.gcd a b : Int) ∣ a := Int.gcd_dvd_left a b
  have d2 : (Int.gcd a b : Int) ∣ b := Int.gcd_dvd_right a b
  have e1 := (Int.mul_ediv_cancel' d1).symm
  have e2 := (Int.mul_ediv_cancel' d2).symm
  refine ⟨_, _, _, rfl, g0, s.le (Nat.le_of_dvd (by omega) (Int.natAbs_dvd_natAbs.mpr d1)), e1, e2, rfl, rfl, ?_, ?_⟩
  · rw [e1] at ha
    exact Int.pos_of_mul_pos_right ha g0
  · rw [e2] at hb
    exact Int.pos_of_mul_pos_right hb g0
end Mb
namespace Mb
open PySem L2
theorem sq_nn (a : Int) : 0 ≤ a * a := by
  rcases (show a < 0 ∨ 0 ≤ a by omega) with h | h
  · exact Int.le_of_lt (Int.mul_pos_of_neg_of_neg h h)
  · exact Int.mul_nonneg h h
theorem up_ne {a b c A B C : Int} (h : Ln a b c) (hL : Ln A B C) (e : RUp A B a b) : a * B ≠ b * A := by
  unfold RUp at e
  have e : A * a + B * b = 0 := cast_inj (by simp only [Rat.intCast_add, Rat.intCast_mul]; exact e)
  intro z
  have n1 := h.nz
  have n2 := hL.nz
  have p : 0 < a * a + b * b := by
    by_cases ha : a = 0
    · have : b ≠ 0 := fun y => n1 ⟨ha, y⟩
      have := sq_nn a
      have : 0 < b * b := by
        rcases Int.lt_or_gt_of_ne ‹b ≠ 0› with h | h
        · exact Int.mul_pos_of_neg_of_neg h h
        · exact Int.mul_pos h h
      omega
    · have := sq_nn b
      have : 0 < a * a := by
        rcases Int.lt_or_gt_of_ne ha with h | h
        · exact Int.mul_pos_of_neg_of_neg h h
        · exact Int.mul_pos h h
      omega
  have z1 : A * (a * a + b * b) = 0 := by grind
  have z2 : B * (a * a + b * b) = 0 := by grind
  refine n2 ⟨?_, ?_⟩
  · rcases Int.mul_eq_zero.mp z1 with y | y
    · exact y
    · omega
  · rcases Int.mul_eq_zero.mp z2 with y | y
    · exact y
    · omega
theorem up_way {a b A B C : Int} {x y fx fy : Rat} (hL : Ln A B C) (e : RUp A B a b) (o : (A : Rat) * x + B * y = C) (o2 : (A : Rat) * fx + B * fy = C) : (b : Rat) * (fx - x) = a * (fy - y) := by
  unfold RUp at e
  have n2 := hL.nz
  have z1 : (A : Rat) * ((b : Rat) * (fx - x) - a * (fy - y)) = 0 := by grind
  have z2 : (B : Rat) * ((b : Rat) * (fx - x) - a * (fy - y)) = 0 := by grind
  rcases Rat.mul_eq_zero.mp z1 with y1 | y1
  · rcases Rat.mul_eq_zero.mp z2 with y2 | y2
    · exact absurd ⟨cast_inj y1, cast_inj y2⟩ n2
    · grind
  · grind
section
variable {K : PySem.W.Frag} {H : Hp} {Q : VK} {E : XK} {v w : V} {x y : Rat} {a b c : Int} {n n2 k k2 k3 : Nat}
end
end Mb
namespace Mb
open PySem L2
/-! ### lines and places, or none -/
section
variable {K : PySem.W.Frag} {H : Hp} {Q : VK}
theorem r_neTrue {v w : V} {d : PyData} (h1 : Dp K H v d) (h2 : Dp K H w d) (sh : SeqAt.shaped d = true) (cl : PyData.canLay0 d = true) (k : Q (.bl false) H) : rNeD K v w H Q := by
  refine ⟨d, d, h1, h2, sh, sh, ?_⟩
  rw [SeqAt.eqv_refl _ cl]
  exact k
end
/-! ### the line through two places -/
def Thr (x y x' y' : Rat) (l : Int × Int × Int) : Prop := Ln l.1 l.2.1 l.2.2 ∧ (l.1 : Rat) * x + l.2.1 * y = l.2.2 ∧ (l.1 : Rat) * x' + l.2.1 * y' = l.2.2 ∧ ¬ (x = x' ∧ y = y')
open Classical in
noncomputable def thr (x y x' y' : Rat) : Option (Int × Int × Int) := if h : ∃ l, Thr x y x' y' l then some h.choose else none
/-! ### where two lines meet -/
/-! ### steps of the laws -/
section
variable {K : PySem.W.Frag} {H : Hp} {Q : VK} {E : XK}
end
/-! ### a place of a line -/
theorem Ln.sq {a b c : Int} (h : Ln a b c) : 0 < a * a + b * b := by
  have n := h.nz
  have p1 := sq_nn a
  have p2 := sq_nn b
  by_cases z : a * a = 0
  · by_cases y : b * b = 0
    · exact absurd ⟨by rcases Int.mul_eq_zero.mp z with z | z <;> exact z, by rcases Int.mul_eq_zero.mp y with z | z <;> exact z⟩ n
    · omega
  · omega
end Mb
namespace Mb
open PySem L2
end Mb
namespace Mb
open PySem L2
/-! ### circles -/
def Cq (K : PySem.W.Frag) (H : Hp) (v : V) (x y s : Rat) : Prop := ∃ a f g h, v = .ref a ∧ SqT K H a [f, g, h] ∧ Fq K H f x ∧ Fq K H g y ∧ Fq K H h s
theorem Cq.up {K : PySem.W.Frag} {H H' : Hp} {v : V} {x y s : Rat} (h : Cq K H v x y s) (e : Same H H') : Cq K H' v x y s := by
  obtain ⟨a, f, g, k, rfl, t, h1, h2, h3⟩ := h
  exact ⟨a, f, g, k, rfl, e.tp t, h1.up e, h2.up e, h3.up e⟩
theorem Cq.mk {K : PySem.W.Frag} {H : Hp} {a : Addr} {f g k : V} {x y s : Rat} (h : H a = some (.tup [f, g, k])) (h1 : Fq K H f x) (h2 : Fq K H g y) (h3 : Fq K H k s) : Cq K H (.ref a) x y s := ⟨a, f, g, k, rfl, tupOf h, h1, h2, h3⟩
section
variable {K : PySem.W.Frag} {H : Hp} {Q : VK} {E : XK}
theorem r_ixC2 {v : V} {x y s : Rat} (h : Cq K H v x y s) (k : ∀ f, Fq K H f s → Q f H) : rIxT K v (.int 2) H Q := by
  obtain ⟨a, f, g, h, rfl, t, h1, h2, h3⟩ := h
  exact ⟨a, _, 2, _, rfl, rfl, t, rfl, k _ h3⟩
end
def spIsF (K : PySem.W.Frag) : Sp := fun vs H Q _ => ∃ (v : V) (x : Rat), vs = [v] ∧ Fq K H v x ∧ Q (.bl true) H
theorem isF_of {K : PySem.W.Frag} {vs : List V} {H : Hp} {Q : VK} {E : XK} (h : spIsF K vs H Q E) : spIsFr K vs H Q E := by
  obtain ⟨_, x, rfl, ⟨a, rfl, t⟩, k⟩ := h
  exact ⟨a, _, _, rfl, t, den_pos x, x.reduced, k⟩
/-! ### what five words mean -/
def spIn (K : PySem.W.Frag) : Sp := fun vs H Q _ => ∃ (v w u : V) (x y x' y' x2 y2 : Rat) (n : Nat), vs = [v, w, u] ∧ Pq K H v x y ∧ Pq K H w x' y' ∧ Pq K H u x2 y2 ∧ Sz n x ∧ Sz n y ∧ Sz n x' ∧ Sz n y' ∧ Sz n x2 ∧ Sz n y2 ∧ n ≤ 3000 ∧
  ∀ H', Same H H' → Q (.bl (decide ((x' - x) * (y2 - y) = (y' - y) * (x2 - x)))) H'
def spL2 (K : PySem.W.Frag) (R : Int → Int → Int → Int → Prop) [∀ a b c d, Decidable (R a b c d)] : Sp := fun vs H Q _ => ∃ (v w : V) (a b c a' b' c' : Int), vs = [v, w] ∧ Lq K H v a b c ∧ Lq K H w a' b' c' ∧ Sm 8000 a ∧ Sm 8000 b ∧ Sm 8000 a' ∧ Sm 8000 b' ∧ Q (.bl (decide (R a b a' b'))) H
abbrev RSide (a b a' b' : Int) : Prop := a * b' = b * a'
abbrev RSq (a b a' b' : Int) : Prop := a * a' + b * b' = 0
end Mb
namespace Mb
open PySem L2
/-- a raw fraction's top is nought just where it is nought -/
theorem Rq.top {K : PySem.W.Frag} {H : Hp} {v : V} {x : Rat} {n : Nat} (h : Rq K H v x n) : ∃ (p : Addr) (t b : Int), v = .ref p ∧ SqT K H p [.int t, .int b] ∧ Sm n t ∧ (t = 0 ↔ x = 0) := by
  obtain ⟨p, t, b, rfl, h1, nz, rfl, s1, _⟩ := h
  refine ⟨p, t, b, rfl, h1, s1, ?_⟩
  rw [Rat.divInt_eq_div]
  have nb := ratz nz
  constructor
  · rintro rfl
    grind
  · intro e
    refine cast_inj ?_
    grind
theorem r_ixR0 {K : PySem.W.Frag} {H : Hp} {Q : VK} {v : V} {x : Rat} {n : Nat} (h : Rq K H v x n) (k : ∀ t : Int, (t = 0 ↔ x = 0) → Q (.int t) H) : rIxT K v (.int 0) H Q := by
  obtain ⟨p, t, b, rfl, h1, _, e⟩ := h.top
  exact ⟨p, _, 0, _, rfl, rfl, h1, rfl, k t e⟩
end Mb
namespace Mb
open PySem L2
/-! ### whole roots -/
def Sq (n : Int) : Prop := ∃ a : Int, 0 ≤ a ∧ a * a = n
theorem mul_self_lt {a b : Int} (h0 : 0 ≤ a) (h : a < b) : a * a < b * b := by
  have h1 : a * a ≤ a * b := Int.mul_le_mul_of_nonneg_left (by omega) h0
  have h2 : a * b < b * b := Int.mul_lt_mul_of_pos_right h (by omega)
  omega
theorem isq_iff {n g : Int} (g0 : 0 ≤ g) (hg : g * g ≤ n) (mx : ∀ k, 0 ≤ k → k * k ≤ n → k ≤ g) : g * g = n ↔ Sq n := by
  constructor
  · intro e
    exact ⟨g, g0, e⟩
  · rintro ⟨a, a0, e⟩
    have l := mx a a0 (by omega)
    by_cases h : a = g
    · rw [← h]; exact e
    · have := mul_self_lt a0 (show a < g by omega)
      omega
theorem newton {n g : Int} (g0 : 0 < g) (mx : ∀ k, 0 ≤ k → k * k ≤ n → k ≤ g) : ∀ k, 0 ≤ k → k * k ≤ n → k ≤ (g + n / g) / 2 := by
  intro k k0 hk
  have l := mx k k0 hk
  have h1 : (2 * k - g) * g ≤ n := by
    have s := Int.mul_nonneg (show 0 ≤ g - k by omega) (show 0 ≤ g - k by omega)
    have e : (2 * k - g) * g = k * k - (g - k) * (g - k) := by grind
    omega
  have h2 : 2 * k - g ≤ n / g := (Int.le_ediv_iff_mul_le g0).mpr h1
  omega
theorem newton_lt {n g : Int} (n0 : 0 ≤ n) (g0 : 0 < g) (h : n < g * g) : (g + n / g) / 2 < g ∧ 0 ≤ (g + n / g) / 2 := by
  have h1 : n / g < g := (Int.ediv_lt_iff_lt_mul g0).mpr h
  have h2 : 0 ≤ n / g := Int.ediv_nonneg n0 (by omega)
  omega
theorem lt_bits (n : Int) : n.natAbs < 2 ^ Builtin.Int.intBits n := by
  unfold Builtin.Int.intBits
  split
  · rename_i h
    have : n = 0 := by simpa using h
    subst this
    decide
  · exact Nat.lt_log2_self
/-- the first guess lies above the root -/
theorem guess_above {n : Int} (n0 : 0 ≤ n) {e : Nat} (he : Builtin.Int.intBits n ≤ 2 * e) : ∀ k, 0 ≤ k → k * k ≤ n → k ≤ (2 : Int) ^ e := by
  intro k k0 hk
  have h1 : n.natAbs < 2 ^ (2 * e) := Nat.lt_of_lt_of_le (lt_bits n) (Nat.pow_le_pow_right (by decide) he)
  have h2 : n < (2 : Int) ^ (2 * e) := by
    have : ((2 ^ (2 * e) : Nat) : Int) = (2 : Int) ^ (2 * e) := by norm_cast
    omega
  have h3 : (2 : Int) ^ (2 * e) = (2 : Int) ^ e * (2 : Int) ^ e := by rw [Nat.two_mul, Int.pow_add]
  apply Int.not_lt.mp
  intro c
  have := mul_self_lt (Int.le_of_lt (Int.pow_pos (show (0 : Int) < 2 by decide))) c
  omega
/-- n is 0 or more: the greatest whole number whose square is not above it -/
def spIsqrt : Sp := fun vs H Q _ => ∃ n : Int, vs = [.int n] ∧ 0 ≤ n ∧ Sm 16000 n ∧ ∀ g : Int, 0 ≤ g → g * g ≤ n → (∀ k, 0 ≤ k → k * k ≤ n → k ≤ g) → Q (.int g) H
def spRoot (K : PySem.W.Frag) : Sp := fun vs H Q _ => ∃ (p : Addr) (t u : Int), vs = [.ref p] ∧ SqT K H p [.int t, .int u] ∧ 0 < u ∧ Sm 16000 t ∧ Sm 16000 u ∧
  (t < 0 ∨ ¬ Sq t ∨ ¬ Sq u → Q .non H) ∧ ∀ (a b : Int) (r : Addr) (H' : Hp), 0 ≤ a → 0 ≤ b → a * a = t → b * b = u → Same H H' → H' r = some (.tup [.int a, .int b]) → Q (.ref r) H'
theorem le_mul_self {a : Int} (h : 0 ≤ a) : a ≤ a * a := by
  by_cases c : a = 0
  · subst c; decide
  · have := Int.mul_le_mul_of_nonneg_left (show 1 ≤ a by omega) h
    omega
theorem root_sm {g n : Int} {k : Nat} (g0 : 0 ≤ g) (h : g * g ≤ n) (s : Sm k n) : Sm k g := s.le (by
  have := le_mul_self g0
  omega)
theorem root_gcd {a b t u : Int} (e1 : a * a = t) (e2 : b * b = u) (g : Int.gcd t u = 1) : Int.gcd a b = 1 := by
  have d1 : (Int.gcd a b : Int) ∣ t := e1 ▸ Int.dvd_mul_of_dvd_left (Int.gcd_dvd_left a b)
  have d2 : (Int.gcd a b : Int) ∣ u := e2 ▸ Int.dvd_mul_of_dvd_left (Int.gcd_dvd_right a b)
  have d3 := Int.dvd_coe_gcd d1 d2
  rw [g] at d3
  have := Int.natAbs_dvd_natAbs.mpr d3
  simpa using this
end Mb
namespace Mb
open PySem L2
/-! ### roots of rationals -/
theorem gcd_sq {a b : Int} (h : Int.gcd a b = 1) : Int.gcd (a * a) (b * b) = 1 := by
  have c : Nat.Coprime a.natAbs b.natAbs := h
  have := Nat.Coprime.mul_left (Nat.Coprime.mul_right c c) (Nat.Coprime.mul_right c c)
  show Nat.gcd (a * a).natAbs (b * b).natAbs = 1
  rw [Int.natAbs_mul, Int.natAbs_mul]
  exact this
theorem sq_parts {r q : Rat} (e : r * r = q) : q.num = r.num * r.num ∧ (q.den : Int) = r.den * r.den := by
  rw [mul_dv] at e
  have hd : (r.den : Int) * r.den ≠ 0 := Int.mul_ne_zero (den_ne r) (den_ne r)
  rw [← Rat.num_divInt_den q] at e
  have c := (Rat.divInt_eq_divInt_iff hd (den_ne q)).mp e
  refine frac_unique (den_pos q) (Int.mul_pos (den_pos r) (den_pos r)) q.reduced (gcd_sq r.reduced) ?_
  exact c.symm
def spRootQ (K : PySem.W.Frag) : Sp := fun vs H Q _ => ∃ (v : V) (q : Rat), vs = [v] ∧ Fq K H v q ∧ Sz 16000 q ∧
  ((¬ ∃ r : Rat, r * r = q) → Q .non H) ∧ ∀ r : Rat, 0 ≤ r → r * r = q → ∀ (o : V) (H' : Hp), Same H H' → Fq K H' o r → Q o H'
theorem rootQ_of {K : PySem.W.Frag} {vs : List V} {H : Hp} {Q : VK} {E : XK} (h : spRootQ K vs H Q E) : spRoot K vs H Q E := by
  obtain ⟨_, q, rfl, ⟨p, rfl, hp⟩, sz, h0, h1⟩ := h
  refine ⟨p, _, _, rfl, hp, den_pos q, sz.t, sz.b, fun hn => h0 ?_, fun a b r H' a0 b0 e1 e2 g hr => ?_⟩
  · rintro ⟨r, e⟩
    obtain ⟨n1, n2⟩ := sq_parts e
    have habs : ∀ z : Int, ∃ a : Int, 0 ≤ a ∧ a * a = z * z := fun z => ⟨z.natAbs, by omega, by
      rcases (show z = (z.natAbs : Int) ∨ z = -(z.natAbs : Int) by omega) with h | h
      · rw [← h]
      · generalize (z.natAbs : Int) = w at h
        rw [h, Int.neg_mul_neg]⟩
    rcases hn with h | h | h
    · have := sq_nn r.num
      omega
    · exact h (by obtain ⟨a, h1, h2⟩ := habs r.num; exact ⟨a, h1, by rw [h2, n1]⟩)
    · exact h (by obtain ⟨a, h1, h2⟩ := habs (r.den : Int); exact ⟨a, h1, by rw [h2, n2]⟩)
  · have bp : 0 < b := by
      have := den_pos q
      by_cases z : b = 0
      · subst z; simp at e2; omega
      · omega
    have gc := root_gcd e1 e2 q.reduced
    obtain ⟨f1, f2⟩ := low_rat (t := a) (show b ≠ 0 by omega)
    obtain ⟨f3, f4⟩ := low_eq (a := a) (b := b) (show b ≠ 0 by omega) bp gc rfl
    have en : (Rat.divInt a b).num = a := by rw [← f1, f3]
    have ed : ((Rat.divInt a b).den : Int) = b := by rw [← f2, f4]
    refine h1 (Rat.divInt a b) ?_ ?_ _ _ g ⟨r, rfl, tupOf (by rw [en, ed]; exact hr)⟩
    · rw [← Rat.num_nonneg, en]
      exact a0
    · rw [mul_dv, en, ed, e1, e2, Rat.num_divInt_den]
/-! ### slices, tuples with lists -/
section
variable {K : PySem.W.Frag} {σ : St} {H : Hp} {Q : VK}
theorem r_slC {v : V} {x y s : Rat} (h : Cq K H v x y s) (k : ∀ (p : Addr) (H' : Hp), Same H H' → Pq K H' (.ref p) x y → Q (.ref p) H') : rSlT K v none (some 2) H Q := by
  obtain ⟨a, f, g, z, rfl, t, h1, h2, h3⟩ := h
  refine ⟨a, _, rfl, t, ?_, fun p hp => ?_⟩
  · rintro ⟨_, z⟩
    exact absurd (show (2 : Nat) = 3 from z) (by decide)
  · have sn := same_new hp (.tup (cutV [f, g, z] none (some 2)))
    exact k p _ sn ⟨p, f, g, rfl, tupOf upd_same, h1.up sn, h2.up sn⟩
theorem r_sl {r : V → Option Int → Option Int → Hp → VK → Prop} {te : TE} {tl th : TO} (q : te σ H fun x H1 => tl σ H1 fun l H2 => th σ H2 fun u H3 => r x l u H3 Q) : tSl r te tl th σ H Q := q
theorem r_noP {Q : Option Int → Hp → Prop} (q : Q none H) : tNoPart σ H Q := q
theorem r_part {te : TE} {Q : Option Int → Hp → Prop} (q : te σ H fun x H1 => ∃ i, x = .int i ∧ Q (some i) H1) : tPart te σ H Q := q
theorem r_if {c : TT} {ta tb : TE} (q : c σ H fun b H1 => if b = true then ta σ H1 Q else tb σ H1 Q) : tIf c ta tb σ H Q := q
end
/-- a word and an empty list; a word and two places -/
def Ct0 (K : PySem.W.Frag) (H : Hp) (v : V) (w : Str) (l : Addr) : Prop := ∃ o, v = .ref o ∧ SqT K H o [.str w, .ref l] ∧ H l = some (.lst [])
def Ct2 (K : PySem.W.Frag) (H : Hp) (v : V) (l : Addr) (x y x' y' : Rat) : Prop := ∃ o f g, v = .ref o ∧ SqT K H o [.str "at", .ref l] ∧ H l = some (.lst [f, g]) ∧ Pq K H f x y ∧ Pq K H g x' y'
/-- what a line and a circle have in common -/
structure Cd (a b c : Int) (x y s d : Rat) : Prop where
  e : d = s * ((a : Rat) * a + b * b) - (c - a * x - b * y) * (c - a * x - b * y)
/-- the place one way along the line -/
def cX (a b c : Int) (x y r : Rat) : Rat := x + ((a : Rat) * (c - a * x - b * y) + b * r) / ((a : Rat) * a + b * b)
def cY (a b c : Int) (x y r : Rat) : Rat := y + ((b : Rat) * (c - a * x - b * y) - a * r) / ((a : Rat) * a + b * b)
end Mb
namespace Mb
open PySem L2
theorem num_lt {q : Rat} : q.num < 0 ↔ q < 0 := by
  have h := Rat.num_nonneg (q := q)
  constructor
  · intro z
    apply Rat.not_le.mp
    intro y
    have := h.mpr y
    omega
  · intro z
    have : ¬ 0 ≤ q := Rat.not_le.mpr z
    have : ¬ 0 ≤ q.num := fun y => this (h.mp y)
    omega
theorem Sz.dvd {n : Nat} {q : Rat} {t b : Int} (hb : b ≠ 0) (e : q = Rat.divInt t b) (s : Sm n b) : Sm n (q.den : Int) := by
  obtain ⟨_, e2⟩ := low_rat (t := t) hb
  rw [e, ← e2]
  exact s.le (lowB_le hb)
theorem Fq.neg {K : PySem.W.Frag} {H : Hp} {p : Addr} {r : Rat} (h : H p = some (.tup [.int (-r.num), .int r.den])) : Fq K H (.ref p) (-r) := ⟨p, rfl, tupOf (by rw [Rat.neg_num, Rat.neg_den]; exact h)⟩
theorem mul_nn {a b : Rat} (h : 0 ≤ a) (k : 0 ≤ b) : 0 ≤ a * b := Rat.mul_nonneg h k
theorem sq_nnR (a : Rat) : 0 ≤ a * a := by
  rcases (Rat.le_total : 0 ≤ a ∨ a ≤ 0) with h | h
  · exact Rat.mul_nonneg h h
  · have h2 : 0 ≤ -a := by grind
    have := Rat.mul_nonneg h2 h2
    grind
theorem pos_int {W : Int} (h : 0 < W) : (0 : Rat) < (W : Rat) := by
  have : (0 : Rat) ≤ (W : Rat) := by
    rw [← Rat.num_nonneg]
    show 0 ≤ W
    omega
  have n := ratz (show W ≠ 0 by omega)
  grind
theorem Ct0.mk {K : PySem.W.Frag} {H : Hp} {o l : Addr} {w : Str} (h : H o = some (.tup [.str w, .ref l])) (k : H l = some (.lst [])) : Ct0 K H (.ref o) w l := ⟨o, rfl, tupOf h, k⟩
theorem Ct2.mk {K : PySem.W.Frag} {H : Hp} {o l : Addr} {f g : V} {x y x' y' : Rat} (h : H o = some (.tup [.str "at", .ref l])) (k : H l = some (.lst [f, g])) (h1 : Pq K H f x y) (h2 : Pq K H g x' y') : Ct2 K H (.ref o) l x y x' y' := ⟨o, f, g, rfl, tupOf h, k, h1, h2⟩
end Mb
namespace Mb
theorem reach_x {n W x a b e t : Rat} (hn : n ≠ 0) (hW : W ≠ 0) : (n * (x * W) + a * (e * W) + b * (t * W)) / (W * n) = x + (a * e + b * t) / n := by
  have h : W * n ≠ 0 := fun z => by rcases Rat.mul_eq_zero.mp z with z | z <;> contradiction
  have e1 : (n * (x * W) + a * (e * W) + b * (t * W)) = (x * n + (a * e + b * t)) * W := by grind
  rw [e1]
  grind
theorem reach_y {n W x a b e t : Rat} (hn : n ≠ 0) (hW : W ≠ 0) : (n * (x * W) + b * (e * W) - a * (t * W)) / (W * n) = x + (b * e - a * t) / n := by
  have h : W * n ≠ 0 := fun z => by rcases Rat.mul_eq_zero.mp z with z | z <;> contradiction
  have e1 : (n * (x * W) + b * (e * W) - a * (t * W)) = (x * n + (b * e - a * t)) * W := by grind
  rw [e1]
  grind
end Mb
namespace Mb
open PySem L2
inductive GoodC (K : PySem.W.Frag) (H : Hp) (v : V) (d x y s : Rat) : Prop
  | miss (l : Addr) : d < 0 → Ct0 K H v "miss" l → GoodC K H v d x y s
  | root (l : Addr) : 0 ≤ d → (¬ ∃ r : Rat, r * r = d) → Ct0 K H v "root" l → GoodC K H v d x y s
  | at_ (l : Addr) (x1 y1 x2 y2 : Rat) : 0 ≤ d → (∃ r : Rat, r * r = d) → Ct2 K H v l x1 y1 x2 y2 → (x1 - x) * (x1 - x) + (y1 - y) * (y1 - y) = s → (x2 - x) * (x2 - x) + (y2 - y) * (y2 - y) = s → (d = 0 → x1 = x2 ∧ y1 = y2) → (d ≠ 0 → x1 < x2 ∨ (x1 = x2 ∧ y1 < y2)) → Sz 8000 x1 → Sz 8000 y1 → Sz 8000 x2 → Sz 8000 y2 → GoodC K H v d x y s
end Mb
namespace Mb
open PySem L2
section
variable {K : PySem.W.Frag} {H : Hp} {Q : VK}
end
end Mb
namespace Mb
open PySem L2
theorem Rq.mono {K : PySem.W.Frag} {H : Hp} {v : V} {x : Rat} {n m : Nat} (h : Rq K H v x n) (l : n ≤ m) : Rq K H v x m := by
  obtain ⟨p, t, b, rfl, h1, nz, e, s1, s2⟩ := h
  exact ⟨p, t, b, rfl, h1, nz, e, s1.mono l, s2.mono l⟩
end Mb
namespace Mb
open PySem L2
end Mb
namespace Mb
open PySem L2
section
variable {K : PySem.W.Frag} {H : Hp} {Q : VK} {E : XK} {v w : V} {a b c : Int} {x y s d : Rat} {n1 n2 n3 : Nat}
end
end Mb
namespace Mb
open PySem L2
end Mb
namespace Mb
open PySem L2
/-! ### two circles -/
def Eq4 (K : PySem.W.Frag) (H : Hp) (v : V) (m g h k : Int) : Prop := ∃ p, v = .ref p ∧ SqT K H p [.int m, .int g, .int h, .int k]
theorem r_gE {K : PySem.W.Frag} {σ : St} {H : Hp} {Q : St → Hp → Prop} {t : TGs} {v : V} {m g h k : Int} {n : Nat} (e : Eq4 K H v m g h k) (l : 4 = n) (q : t [.int m, .int g, .int h, .int k] σ H Q) : gTup K n t v σ H Q := by
  obtain ⟨p, rfl, e⟩ := e
  exact ⟨p, _, rfl, e, l, q⟩
end Mb
namespace Mb
open PySem L2
end Mb
namespace Mb
open PySem L2
/-- the line of the places whose squared distances differ as the circles' s do -/
structure Rad (a b c : Int) (g x y s x' y' s' : Rat) : Prop where
  ln : Ln a b c
  nz : g ≠ 0
  ea : g * a = 2 * (x' - x)
  eb : g * b = 2 * (y' - y)
  ec : g * c = (s - x * x - y * y) - (s' - x' * x' - y' * y')
end Mb
namespace Mb
open PySem L2
section
variable {K : PySem.W.Frag} {H : Hp} {Q : VK} {E : XK} {v w : V} {x y s x' y' s' d g : Rat} {a b c : Int}
end
end Mb
namespace Mb
end Mb
namespace Mb
open PySem L2
/-! ### small places, lists of places, four places judged -/
/-- a list of places at D -/
def Ps (K : PySem.W.Frag) (H : Hp) (D : Addr) (n : Nat) (vs : List V) : Prop := H D = some (.lst vs) ∧ ∀ v ∈ vs, ∃ x y : Rat, Pq K H v x y ∧ Sz n x ∧ Sz n y
def detQ (x1 y1 x2 y2 x3 y3 x4 y4 : Rat) : Rat := ((x1 - x4) * (x1 - x4) + (y1 - y4) * (y1 - y4)) * ((x2 - x4) * (y3 - y4) - (y2 - y4) * (x3 - x4)) + (((x2 - x4) * (x2 - x4) + (y2 - y4) * (y2 - y4)) * ((x3 - x4) * (y1 - y4) - (y3 - y4) * (x1 - x4)) + ((x3 - x4) * (x3 - x4) + (y3 - y4) * (y3 - y4)) * ((x1 - x4) * (y2 - y4) - (y1 - y4) * (x2 - x4)))
theorem det_key (x1 y1 x2 y2 x3 y3 x4 y4 a b c : Rat) : ((x2 - x1) * a) * (((y3 - y1) * b) * (((x4 - x1) * (x4 - x1) + (y4 - y1) * (y4 - y1)) * c) - (((x3 - x1) * (x3 - x1) + (y3 - y1) * (y3 - y1)) * b) * ((y4 - y1) * c)) + ((y2 - y1) * a) * ((((x3 - x1) * (x3 - x1) + (y3 - y1) * (y3 - y1)) * b) * ((x4 - x1) * c) - ((x3 - x1) * b) * (((x4 - x1) * (x4 - x1) + (y4 - y1) * (y4 - y1)) * c)) + (((x2 - x1) * (x2 - x1) + (y2 - y1) * (y2 - y1)) * a) * (((x3 - x1) * b) * ((y4 - y1) * c) - ((y3 - y1) * b) * ((x4 - x1) * c)) = (-1) * (a * b * c) * detQ x1 y1 x2 y2 x3 y3 x4 y4 := by
  unfold detQ
  grind
def spLifted (K : PySem.W.Frag) : Sp := fun vs H Q _ => ∃ (v w : V) (x y x' y' : Rat) (n : Nat), vs = [v, w] ∧ Pq K H v x y ∧ Pq K H w x' y' ∧ Sz n x ∧ Sz n y ∧ Sz n x' ∧ Sz n y' ∧ n ≤ 3800 ∧
  ∀ (r : V) (H' : Hp) (X Y Z W : Int), Same H H' → Lq K H' r X Y Z → 0 < W → (X : Rat) = (x' - x) * ((W : Rat) * W) → (Y : Rat) = (y' - y) * ((W : Rat) * W) → (Z : Rat) = ((x' - x) * (x' - x) + (y' - y) * (y' - y)) * ((W : Rat) * W) → Sm (8 * n + 1) X → Sm (8 * n + 1) Y → Sm (8 * n + 3) Z → Q r H'
def spRound (K : PySem.W.Frag) : Sp := fun vs H Q _ => ∃ (v1 v2 v3 v4 : V) (x1 y1 x2 y2 x3 y3 x4 y4 : Rat) (n : Nat), vs = [v1, v2, v3, v4] ∧ Pq K H v1 x1 y1 ∧ Pq K H v2 x2 y2 ∧ Pq K H v3 x3 y3 ∧ Pq K H v4 x4 y4 ∧ Sz n x1 ∧ Sz n y1 ∧ Sz n x2 ∧ Sz n y2 ∧ Sz n x3 ∧ Sz n y3 ∧ Sz n x4 ∧ Sz n y4 ∧ n ≤ 3800 ∧
  ∀ (b : Bool) (H' : Hp), Same H H' → (b = true ↔ detQ x1 y1 x2 y2 x3 y3 x4 y4 = 0) → Q (.bl b) H'
def spAsFar (K : PySem.W.Frag) : Sp := fun vs H Q _ => ∃ (v1 v2 v3 v4 : V) (x1 y1 x2 y2 x3 y3 x4 y4 : Rat) (n : Nat), vs = [v1, v2, v3, v4] ∧ Pq K H v1 x1 y1 ∧ Pq K H v2 x2 y2 ∧ Pq K H v3 x3 y3 ∧ Pq K H v4 x4 y4 ∧ Sz n x1 ∧ Sz n y1 ∧ Sz n x2 ∧ Sz n y2 ∧ Sz n x3 ∧ Sz n y3 ∧ Sz n x4 ∧ Sz n y4 ∧ n ≤ 3800 ∧
  ∀ (b : Bool) (H' : Hp), Same H H' → (b = true ↔ (x1 - x2) * (x1 - x2) + (y1 - y2) * (y1 - y2) = (x3 - x4) * (x3 - x4) + (y3 - y4) * (y3 - y4)) → Q (.bl b) H'
theorem r_keep {A B : Prop} (h : A) : if true = true then A else B := by rw [if_pos rfl]; exact h
theorem r_gLst {K : PySem.W.Frag} {σ : St} {H : Hp} {Q : St → Hp → Prop} {t : TGs} {a : Addr} {xs : List V} {n : Nat} (h : SqL K H a xs) (l : xs.length = n) (q : t xs σ H Q) : gLst K n t (.ref a) σ H Q := ⟨a, xs, rfl, h, l, q⟩
theorem _root_.Rat.neg_eq_zero_iff' {a : Rat} : -a = 0 ↔ a = 0 := by constructor <;> intro h <;> grind
section
variable {K : PySem.W.Frag} {H : Hp} {Q : VK} {E : XK}
end
end Mb
namespace Mb
open PySem L2
/-! ### heights: a place over one bottom -/
def Jh (n : Nat) (x y : Rat) : Prop := ∃ X Y D : Int, D ≠ 0 ∧ (X : Rat) = x * D ∧ (Y : Rat) = y * D ∧ Sm n X ∧ Sm n Y ∧ Sm n D
theorem Jh.mono {m n : Nat} {x y : Rat} (h : Jh m x y) (l : m ≤ n) : Jh n x y := by
  obtain ⟨X, Y, D, h0, h1, h2, h3, h4, h5⟩ := h
  exact ⟨X, Y, D, h0, h1, h2, h3.mono l, h4.mono l, h5.mono l⟩
theorem Jh.x {n : Nat} {x y : Rat} (h : Jh n x y) : Sz n x := by
  obtain ⟨X, Y, D, h0, h1, h2, h3, h4, h5⟩ := h
  rw [divInt_of h0 h1]
  exact Sz.divInt h0 h3 h5
theorem Jh.y {n : Nat} {x y : Rat} (h : Jh n x y) : Sz n y := by
  obtain ⟨X, Y, D, h0, h1, h2, h3, h4, h5⟩ := h
  rw [divInt_of h0 h2]
  exact Sz.divInt h0 h4 h5
theorem Jh.of_sz {n m : Nat} {x y : Rat} (h : Sz n x) (k : Sz m y) : Jh (n + m) x y := by
  have e1 := hden x
  have e2 := hden y
  refine ⟨x.num * y.den, y.num * x.den, x.den * y.den, Int.mul_ne_zero (den_ne x) (den_ne y), ?_, ?_, h.t.mul k.b, (k.t.mul h.b).mono (by omega), h.b.mul k.b⟩
  · simp only [Rat.intCast_mul]
    grind
  · simp only [Rat.intCast_mul]
    grind
theorem nat_dvd {n : Nat} {z : Int} : ((n : Int) ∣ z) ↔ n ∣ z.natAbs := (Int.natAbs_dvd_natAbs (a := (n : Int)) (b := z)).symm
theorem den_dvd {x : Rat} {X D : Int} (e : (X : Rat) = x * D) : (x.den : Int) ∣ D := by
  have h := hden x
  have k : X * (x.den : Int) = x.num * D := cast_inj (by simp only [Rat.intCast_mul]; rw [e, ← h]; grind)
  have d : (x.den : Int) ∣ x.num * D := ⟨X, by rw [← k, Int.mul_comm]⟩
  have d2 := nat_dvd.mp d
  rw [Int.natAbs_mul] at d2
  exact nat_dvd.mpr (Nat.Coprime.dvd_of_dvd_mul_left x.reduced.symm d2)
theorem clear_dvd {x y : Rat} {g dx D : Int} (eg : (Int.gcd (x.den : Int) (y.den : Int) : Int) = g) (g0 : 0 < g) (ex : (x.den : Int) = g * dx) (d1 : (x.den : Int) ∣ D) (d2 : (y.den : Int) ∣ D) : dx * y.den ∣ D := by
  have hl : ((Nat.lcm x.den y.den : Nat) : Int) ∣ D := nat_dvd.mpr (Nat.lcm_dvd (nat_dvd.mp d1) (nat_dvd.mp d2))
  have e : dx * y.den = ((Nat.lcm x.den y.den : Nat) : Int) := by
    have k := congrArg (Nat.cast (R := Int)) (Nat.gcd_mul_lcm x.den y.den)
    rw [Int.natCast_mul, Int.natCast_mul, show ((Nat.gcd x.den y.den : Nat) : Int) = g from eg, ex, Int.mul_assoc] at k
    exact (Int.eq_of_mul_eq_mul_left (show g ≠ 0 by omega) k).symm
  rw [e]
  exact hl
theorem clear_sm {n : Nat} {x : Rat} {X W X' D : Int} (d : W ∣ D) (nz : D ≠ 0) (e : (X : Rat) = x * W) (e' : (X' : Rat) = x * D) (s : Sm n X') : Sm n X := by
  obtain ⟨k, rfl⟩ := d
  have nk : k ≠ 0 := by
    rintro rfl
    simp at nz
  refine sm_quot nk (cast_inj ?_) s
  simp only [Rat.intCast_mul] at e' ⊢
  rw [e', e]
  grind
theorem dvd_sm {n : Nat} {a b : Int} (h : a ∣ b) (nz : b ≠ 0) (s : Sm n b) : Sm n a := s.le (Nat.le_of_dvd (by omega) (Int.natAbs_dvd_natAbs.mpr h))
/-! ### lines -/
theorem ln_tri {n : Nat} {a b c A B C : Int} (h : Ln a b c) (nz : ¬ (A = 0 ∧ B = 0)) (e1 : (a : Rat) * B = b * A) (e2 : (a : Rat) * C = c * A) (e3 : (b : Rat) * C = c * B) (s1 : Sm n A) (s2 : Sm n B) (s3 : Sm n C) : Sm n a ∧ Sm n b ∧ Sm n c := by
  obtain ⟨⟨A', d1⟩, ⟨B', d2⟩, ⟨C', d3⟩⟩ := form_dvd A B C
  have g := form_ne (c := C) nz
  have L' := form_ln nz d1 d2 d3
  have i1 : a * B = b * A := cast_inj (by simp only [Rat.intCast_mul]; exact e1)
  have i2 : a * C = c * A := cast_inj (by simp only [Rat.intCast_mul]; exact e2)
  have i3 : b * C = c * B := cast_inj (by simp only [Rat.intCast_mul]; exact e3)
  generalize formG A B C = G at *
  subst d1 d2 d3
  have mm : ∀ u v : Int, G * u = G * v → u = v := fun u v z => Int.eq_of_mul_eq_mul_left g z
  obtain ⟨rfl, rfl, rfl⟩ := line_unique h L' (mm _ _ (by grind)) (mm _ _ (by grind)) (mm _ _ (by grind))
  exact ⟨sm_quot g rfl s1, sm_quot g rfl s2, sm_quot g rfl s3⟩
theorem jh_line {n m : Nat} {a b c : Int} {x y x' y' : Rat} (h : Ln a b c) (ne : ¬ (x = x' ∧ y = y')) (o : (a : Rat) * x + b * y = c) (o' : (a : Rat) * x' + b * y' = c) (p : Jh n x y) (q : Jh m x' y') : Sm (n + m + 1) a ∧ Sm (n + m + 1) b ∧ Sm (n + m + 1) c := by
  obtain ⟨X, Y, D, d0, eX, eY, s1, s2, s3⟩ := p
  obtain ⟨X', Y', D', d0', eX', eY', s1', s2', s3'⟩ := q
  have r1 := ratz d0
  have r2 := ratz d0'
  have c1 : ((Y * D' - Y' * D : Int) : Rat) = (y - y') * (D * D') := by simp only [Rat.intCast_mul, Rat.intCast_sub]; rw [eY, eY']; grind
  have c2 : ((X' * D - X * D' : Int) : Rat) = (x' - x) * (D * D') := by simp only [Rat.intCast_mul, Rat.intCast_sub]; rw [eX, eX']; grind
  have c3 : ((X' * Y - X * Y' : Int) : Rat) = (x' * y - x * y') * (D * D') := by simp only [Rat.intCast_mul, Rat.intCast_sub]; rw [eX, eX', eY, eY']; grind
  have nn : (D : Rat) * D' ≠ 0 := fun z => by rcases Rat.mul_eq_zero.mp z with z | z <;> contradiction
  refine ln_tri (A := Y * D' - Y' * D) (B := X' * D - X * D') (C := X' * Y - X * Y') h ?_ ?_ ?_ ?_ (Sm.sub (s2.mul s3') ((s2'.mul s3).mono (by omega))) (Sm.sub ((s1'.mul s3).mono (by omega)) (s1.mul s3')) (Sm.sub ((s1'.mul s2).mono (by omega)) (s1.mul s2'))
  · rintro ⟨z1, z2⟩
    rw [z1] at c1
    rw [z2] at c2
    refine ne ⟨?_, ?_⟩
    · rcases Rat.mul_eq_zero.mp c2.symm with z | z
      · grind
      · contradiction
    · rcases Rat.mul_eq_zero.mp c1.symm with z | z
      · grind
      · contradiction
  · rw [c1, c2]; generalize (D : Rat) * D' = r at *; grind
  · rw [c1, c3]; generalize (D : Rat) * D' = r at *; grind
  · rw [c2, c3]; generalize (D : Rat) * D' = r at *; grind
theorem jh_along {n k : Nat} {a b A B C : Int} {x y : Rat} (h : Ln A B C) (nz : ¬ (a = 0 ∧ b = 0)) (o : (A : Rat) * x + B * y = C) (r : RAl A B a b) (p : Jh n x y) (sa : Sm k a) (sb : Sm k b) : Sm (k + n + 1) A ∧ Sm (k + n + 1) B ∧ Sm (k + n + 1) C := by
  unfold RAl at r
  obtain ⟨X, Y, D, d0, eX, eY, s1, s2, s3⟩ := p
  have c1 : ((a * D : Int) : Rat) = a * D := by simp only [Rat.intCast_mul]
  have c2 : ((b * D : Int) : Rat) = b * D := by simp only [Rat.intCast_mul]
  have c3 : ((a * X + b * Y : Int) : Rat) = (a * x + b * y) * D := by simp only [Rat.intCast_mul, Rat.intCast_add]; rw [eX, eY]; grind
  refine ln_tri (A := a * D) (B := b * D) (C := a * X + b * Y) h ?_ ?_ ?_ ?_ ((sa.mul s3).mono (by omega)) ((sb.mul s3).mono (by omega)) (Sm.add (sa.mul s1) (sb.mul s2))
  · rintro ⟨z1, z2⟩
    refine nz ⟨?_, ?_⟩
    · rcases Int.mul_eq_zero.mp z1 with z | z
      · exact z
      · contradiction
    · rcases Int.mul_eq_zero.mp z2 with z | z
      · exact z
      · contradiction
  · rw [c1, c2]; grind
  · rw [c1, c3]; grind
  · rw [c2, c3]; grind
theorem jh_up {n k : Nat} {a b A B C : Int} {x y : Rat} (h : Ln A B C) (nz : ¬ (a = 0 ∧ b = 0)) (o : (A : Rat) * x + B * y = C) (r : RUp A B a b) (p : Jh n x y) (sa : Sm k a) (sb : Sm k b) : Sm (k + n + 1) A ∧ Sm (k + n + 1) B ∧ Sm (k + n + 1) C := by
  unfold RUp at r
  refine jh_along (a := b) (b := -a) h (fun z => nz ⟨by omega, by omega⟩) o ?_ p sb sa.neg
  unfold RAl
  rw [Rat.intCast_neg]
  grind
/-! ### places -/
theorem two_sm : Sm 2 (2 : Int) := by decide
theorem jh_share {n m : Nat} {x y x' y' t : Rat} (p : Jh n x y) (q : Jh m x' y') (s : Sz 10 t) : Jh (n + m + 12) (x + t * (x' - x)) (y + t * (y' - y)) := by
  obtain ⟨X, Y, D, d0, eX, eY, s1, s2, s3⟩ := p
  obtain ⟨X', Y', D', d0', eX', eY', s1', s2', s3'⟩ := q
  have ht := hden t
  have st := s.t
  have sb := s.b
  have nb := den_ne t
  generalize t.num = u at *
  generalize (t.den : Int) = w at *
  refine ⟨X * D' * (w - u) + X' * D * u, Y * D' * (w - u) + Y' * D * u, D * D' * w, Int.mul_ne_zero (Int.mul_ne_zero d0 d0') nb, ?_, ?_, ?_, ?_, ?_⟩
  · simp only [Rat.intCast_mul, Rat.intCast_add, Rat.intCast_sub]; rw [eX, eX']; grind
  · simp only [Rat.intCast_mul, Rat.intCast_add, Rat.intCast_sub]; rw [eY, eY']; grind
  · exact (Sm.addm (Sm.mul (Sm.mul s1 s3') (Sm.subm sb st)) (Sm.mul (Sm.mul s1' s3) st)).mono (by omega)
  · exact (Sm.addm (Sm.mul (Sm.mul s2 s3') (Sm.subm sb st)) (Sm.mul (Sm.mul s2' s3) st)).mono (by omega)
  · exact (Sm.mul (Sm.mul s3 s3') sb).mono (by omega)
theorem jh_mid {n m : Nat} {x y x' y' : Rat} (p : Jh n x y) (q : Jh m x' y') : Jh (n + m + 12) ((x + x') / 2) ((y + y') / 2) := by
  obtain ⟨X, Y, D, d0, eX, eY, s1, s2, s3⟩ := p
  obtain ⟨X', Y', D', d0', eX', eY', s1', s2', s3'⟩ := q
  refine ⟨X * D' + X' * D, Y * D' + Y' * D, 2 * (D * D'), Int.mul_ne_zero (by decide) (Int.mul_ne_zero d0 d0'), ?_, ?_, ?_, ?_, ?_⟩
  · simp only [Rat.intCast_mul, Rat.intCast_add]; rw [eX, eX', show ((2 : Int) : Rat) = 2 from rfl]; grind
  · simp only [Rat.intCast_mul, Rat.intCast_add]; rw [eY, eY', show ((2 : Int) : Rat) = 2 from rfl]; grind
  · exact (Sm.addm (Sm.mul s1 s3') (Sm.mul s1' s3)).mono (by omega)
  · exact (Sm.addm (Sm.mul s2 s3') (Sm.mul s2' s3)).mono (by omega)
  · exact (Sm.mul two_sm (Sm.mul s3 s3')).mono (by omega)
theorem jh_next {n m : Nat} {x y x' y' : Rat} (p : Jh n x y) (q : Jh m x' y') : Jh (n + m + 12) (x' + x' - x) (y' + y' - y) := by
  obtain ⟨X, Y, D, d0, eX, eY, s1, s2, s3⟩ := p
  obtain ⟨X', Y', D', d0', eX', eY', s1', s2', s3'⟩ := q
  refine ⟨X' * D + X' * D - X * D', Y' * D + Y' * D - Y * D', D * D', Int.mul_ne_zero d0 d0', ?_, ?_, ?_, ?_, ?_⟩
  · simp only [Rat.intCast_mul, Rat.intCast_add, Rat.intCast_sub]; rw [eX, eX']; grind
  · simp only [Rat.intCast_mul, Rat.intCast_add, Rat.intCast_sub]; rw [eY, eY']; grind
  · exact (Sm.subm (Sm.addm (Sm.mul s1' s3) (Sm.mul s1' s3)) (Sm.mul s1 s3')).mono (by omega)
  · exact (Sm.subm (Sm.addm (Sm.mul s2' s3) (Sm.mul s2' s3)) (Sm.mul s2 s3')).mono (by omega)
  · exact (Sm.mul s3 s3').mono (by omega)
theorem jh_turn {n m : Nat} {x y x' y' : Rat} (p : Jh n x y) (q : Jh m x' y') : Jh (n + m + 12) (x' - (y - y')) (y' + (x - x')) := by
  obtain ⟨X, Y, D, d0, eX, eY, s1, s2, s3⟩ := p
  obtain ⟨X', Y', D', d0', eX', eY', s1', s2', s3'⟩ := q
  refine ⟨X' * D - (Y * D' - Y' * D), Y' * D + (X * D' - X' * D), D * D', Int.mul_ne_zero d0 d0', ?_, ?_, ?_, ?_, ?_⟩
  · simp only [Rat.intCast_mul, Rat.intCast_add, Rat.intCast_sub]; rw [eX', eY, eY']; grind
  · simp only [Rat.intCast_mul, Rat.intCast_add, Rat.intCast_sub]; rw [eY', eX, eX']; grind
  · exact (Sm.subm (Sm.mul s1' s3) (Sm.subm (Sm.mul s2 s3') (Sm.mul s2' s3))).mono (by omega)
  · exact (Sm.addm (Sm.mul s2' s3) (Sm.subm (Sm.mul s1 s3') (Sm.mul s1' s3))).mono (by omega)
  · exact (Sm.mul s3 s3').mono (by omega)
theorem jh_foot {n k : Nat} {a b c : Int} {x y fx fy : Rat} (h : Ln a b c) (o : (a : Rat) * fx + b * fy = c) (u : (b : Rat) * (fx - x) = a * (fy - y)) (p : Jh n x y) (sa : Sm k a) (sb : Sm k b) (sc : Sm k c) : Jh (n + (k + k) + 12) fx fy := by
  obtain ⟨X, Y, D, d0, eX, eY, s1, s2, s3⟩ := p
  have hs := h.sq
  refine ⟨a * (c * D) + b * (b * X - a * Y), b * (c * D) - a * (b * X - a * Y), (a * a + b * b) * D, Int.mul_ne_zero (by omega) d0, ?_, ?_, ?_, ?_, ?_⟩
  · simp only [Rat.intCast_mul, Rat.intCast_add, Rat.intCast_sub]; rw [eX, eY, ← o]; grind
  · simp only [Rat.intCast_mul, Rat.intCast_add, Rat.intCast_sub]; rw [eX, eY, ← o]; grind
  · exact (Sm.addm (Sm.mul sa (Sm.mul sc s3)) (Sm.mul sb (Sm.subm (Sm.mul sb s1) (Sm.mul sa s2)))).mono (by omega)
  · exact (Sm.subm (Sm.mul sb (Sm.mul sc s3)) (Sm.mul sa (Sm.subm (Sm.mul sb s1) (Sm.mul sa s2)))).mono (by omega)
  · exact (Sm.mul (Sm.addm (Sm.mul sa sa) (Sm.mul sb sb)) s3).mono (by omega)
theorem jh_mirror {n k : Nat} {a b c : Int} {x y fx fy : Rat} (h : Ln a b c) (o : (a : Rat) * fx + b * fy = c) (u : (b : Rat) * (fx - x) = a * (fy - y)) (p : Jh n x y) (sa : Sm k a) (sb : Sm k b) (sc : Sm k c) : Jh (n + (k + k) + 12) (fx + fx - x) (fy + fy - y) := by
  obtain ⟨X, Y, D, d0, eX, eY, s1, s2, s3⟩ := p
  have hs := h.sq
  have f1 : ((a * (c * D) + b * (b * X - a * Y) : Int) : Rat) = fx * ((a * a + b * b) * D) := by simp only [Rat.intCast_mul, Rat.intCast_add, Rat.intCast_sub]; rw [eX, eY, ← o]; grind
  have f2 : ((b * (c * D) - a * (b * X - a * Y) : Int) : Rat) = fy * ((a * a + b * b) * D) := by simp only [Rat.intCast_mul, Rat.intCast_add, Rat.intCast_sub]; rw [eX, eY, ← o]; grind
  have g1 := Sm.addm (Sm.mul sa (Sm.mul sc s3)) (Sm.mul sb (Sm.subm (Sm.mul sb s1) (Sm.mul sa s2)))
  have g2 := Sm.subm (Sm.mul sb (Sm.mul sc s3)) (Sm.mul sa (Sm.subm (Sm.mul sb s1) (Sm.mul sa s2)))
  generalize a * (c * D) + b * (b * X - a * Y) = U at *
  generalize b * (c * D) - a * (b * X - a * Y) = W at *
  refine ⟨U + U - (a * a + b * b) * X, W + W - (a * a + b * b) * Y, (a * a + b * b) * D, Int.mul_ne_zero (by omega) d0, ?_, ?_, ?_, ?_, ?_⟩
  · simp only [Rat.intCast_mul, Rat.intCast_add, Rat.intCast_sub]; rw [f1, eX]; grind
  · simp only [Rat.intCast_mul, Rat.intCast_add, Rat.intCast_sub]; rw [f2, eY]; grind
  · exact (Sm.subm (Sm.addm g1 g1) (Sm.mul (Sm.addm (Sm.mul sa sa) (Sm.mul sb sb)) s1)).mono (by omega)
  · exact (Sm.subm (Sm.addm g2 g2) (Sm.mul (Sm.addm (Sm.mul sa sa) (Sm.mul sb sb)) s2)).mono (by omega)
  · exact (Sm.mul (Sm.addm (Sm.mul sa sa) (Sm.mul sb sb)) s3).mono (by omega)
theorem jh_meet {n m : Nat} {a b c a' b' c' : Int} {x y : Rat} (d : a * b' ≠ b * a') (o : (a : Rat) * x + b * y = c) (o' : (a' : Rat) * x + b' * y = c') (sa : Sm n a) (sb : Sm n b) (sc : Sm n c) (sa' : Sm m a') (sb' : Sm m b') (sc' : Sm m c') : Jh (n + m + 1) x y := by
  refine ⟨c * b' - b * c', a * c' - c * a', a * b' - b * a', by omega, ?_, ?_, ?_, ?_, ?_⟩
  · simp only [Rat.intCast_mul, Rat.intCast_sub]; rw [← o, ← o']; grind
  · simp only [Rat.intCast_mul, Rat.intCast_sub]; rw [← o, ← o']; grind
  · exact (Sm.subm (Sm.mul sc sb') (Sm.mul sb sc')).mono (by omega)
  · exact (Sm.subm (Sm.mul sa sc') (Sm.mul sc sa')).mono (by omega)
  · exact (Sm.subm (Sm.mul sa sb') (Sm.mul sb sa')).mono (by omega)
/-! ### circles: a centre and a place -/
def Ch (n : Nat) (x y s : Rat) : Prop := ∃ (x' y' : Rat) (k m : Nat), k + m ≤ n ∧ Jh k x y ∧ Jh m x' y' ∧ s = (x' - x) * (x' - x) + (y' - y) * (y' - y)
theorem Ch.mono {m n : Nat} {x y s : Rat} (h : Ch m x y s) (l : m ≤ n) : Ch n x y s := by
  obtain ⟨x', y', k, j, h1, h2⟩ := h
  exact ⟨x', y', k, j, by omega, h2⟩
theorem Ch.jh {n : Nat} {x y s : Rat} (h : Ch n x y s) : Jh n x y := by
  obtain ⟨x', y', k, j, h1, h2, _⟩ := h
  exact h2.mono (by omega)
/-- the square of the radius over the square of the bottoms -/
theorem Ch.sq {n : Nat} {x y s : Rat} (h : Ch n x y s) : ∃ R M : Int, M ≠ 0 ∧ (R : Rat) = s * (M * M) ∧ Sm (n + n + 3) R ∧ Sm n M := by
  obtain ⟨x', y', k, m, l, ⟨X, Y, D, d0, eX, eY, s1, s2, s3⟩, ⟨X', Y', D', d0', eX', eY', s1', s2', s3'⟩, rfl⟩ := h
  refine ⟨(X' * D - X * D') * (X' * D - X * D') + (Y' * D - Y * D') * (Y' * D - Y * D'), D * D', Int.mul_ne_zero d0 d0', ?_, ?_, ?_⟩
  · simp only [Rat.intCast_mul, Rat.intCast_add, Rat.intCast_sub]; rw [eX, eX', eY, eY']; grind
  · have z1 := Sm.subm (Sm.mul s1' s3) (Sm.mul s1 s3')
    have z2 := Sm.subm (Sm.mul s2' s3) (Sm.mul s2 s3')
    exact (Sm.addm (Sm.mul z1 z1) (Sm.mul z2 z2)).mono (by omega)
  · exact (Sm.mul s3 s3').mono (by omega)
theorem Ch.sz {n : Nat} {x y s : Rat} (h : Ch n x y s) : Sm (n + n + 3) s.num ∧ Sm (n + n) (s.den : Int) := by
  obtain ⟨R, M, m0, e, s1, s2⟩ := h.sq
  have nz := Int.mul_ne_zero m0 m0
  have e2 : (R : Rat) = s * ((M * M : Int) : Rat) := by rw [e, Rat.intCast_mul]
  have s3 := Sm.mul s2 s2
  have z := Sz.divInt nz s1 (s3.mono (show n + n ≤ n + n + 3 by omega))
  rw [← divInt_of nz e2] at z
  exact ⟨z.t, dvd_sm (den_dvd e2) nz s3⟩
end Mb
namespace Mb
open PySem L2
/-! ### heights of cuts -/
theorem rat_int {r : Rat} {N : Int} (e : r * r = (N : Rat)) : ∃ S : Int, r = (S : Rat) ∧ S * S = N := by
  obtain ⟨h1, h2⟩ := sq_parts e
  have d1 : ((N : Rat).den : Int) = 1 := rfl
  rw [d1] at h2
  have d2 : (r.den : Int) = 1 := by
    have p := den_pos r
    rcases (show (r.den : Int) = 1 ∨ 2 ≤ (r.den : Int) by omega) with h | h
    · exact h
    · have := Int.mul_le_mul h h (by decide) (by omega)
      omega
  have hr := hden r
  rw [d2] at hr
  refine ⟨r.num, by rw [← hr]; exact (Rat.mul_one r).symm, ?_⟩
  rw [← h1]
  rfl
theorem sq_sm {S N : Int} {m : Nat} (e : S * S = N) (s : Sm (m + m) N) : Sm m S := by
  apply Nat.lt_of_not_le
  intro z
  have h := Nat.mul_le_mul z z
  rw [← Nat.pow_add, ← Int.natAbs_mul, e] at h
  exact absurd s (Nat.not_lt.mpr h)
theorem cX_mul {a b c : Int} {x y u : Rat} (nn : (a : Rat) * a + b * b ≠ 0) : cX a b c x y u * ((a : Rat) * a + b * b) = x * ((a : Rat) * a + b * b) + (a * (c - a * x - b * y) + b * u) := by
  unfold cX
  rw [Rat.add_mul, Rat.div_mul_cancel nn]
theorem cY_mul {a b c : Int} {x y u : Rat} (nn : (a : Rat) * a + b * b ≠ 0) : cY a b c x y u * ((a : Rat) * a + b * b) = y * ((a : Rat) * a + b * b) + (b * (c - a * x - b * y) - a * u) := by
  unfold cY
  rw [Rat.add_mul, Rat.div_mul_cancel nn]
theorem jh_cut {k r : Nat} {a b c : Int} {x y s t u : Rat} (h : Ln a b c) (C : Ch r x y s) (e : t * t = s * ((a : Rat) * a + b * b) - (c - a * x - b * y) * (c - a * x - b * y)) (hu : u = t ∨ u = -t) (sa : Sm k a) (sb : Sm k b) (sc : Sm k c) : Jh (k + k + r + 12) (cX a b c x y u) (cY a b c x y u) := by
  obtain ⟨x', y', k1, m1, l, ⟨X, Y, D, d0, eX, eY, s1, s2, s3⟩, ⟨X', Y', D', d0', eX', eY', s1', s2', s3'⟩, rfl⟩ := C
  have uu : u * u = t * t := by rcases hu with rfl | rfl <;> grind
  have hs := h.sq
  have nn := ratz (show a * a + b * b ≠ 0 by omega)
  simp only [Rat.intCast_add, Rat.intCast_mul] at nn
  obtain ⟨E, hE⟩ : ∃ E : Int, E = c * D - a * X - b * Y := ⟨_, rfl⟩
  have eE : (E : Rat) = (c - a * x - b * y) * D := by rw [hE]; simp only [Rat.intCast_mul, Rat.intCast_sub]; rw [eX, eY]; grind
  obtain ⟨R, hR⟩ : ∃ R : Int, R = (X' * D - X * D') * (X' * D - X * D') + (Y' * D - Y * D') * (Y' * D - Y * D') := ⟨_, rfl⟩
  have eR : (R : Rat) = ((x' - x) * (x' - x) + (y' - y) * (y' - y)) * ((D * D') * (D * D')) := by rw [hR]; simp only [Rat.intCast_mul, Rat.intCast_sub, Rat.intCast_add]; rw [eX, eX', eY, eY']; grind
  have z1 := Sm.subm (Sm.mul s1' s3) (Sm.mul s1 s3')
  have z2 := Sm.subm (Sm.mul s2' s3) (Sm.mul s2 s3')
  have sR : Sm ((k1 + m1 + 1) + (k1 + m1 + 1) + 1) R := by rw [hR]; exact (Sm.addm (Sm.mul z1 z1) (Sm.mul z2 z2)).mono (by omega)
  have sE : Sm (k + k1 + 2) E := by rw [hE]; exact (Sm.subm (Sm.subm (Sm.mul sc s3) (Sm.mul sa s1)) (Sm.mul sb s2)).mono (by omega)
  have eN : (u * (D * D')) * (u * (D * D')) = ((R * (a * a + b * b) - (E * D') * (E * D') : Int) : Rat) := by
    simp only [Rat.intCast_mul, Rat.intCast_sub, Rat.intCast_add]
    rw [eR, eE]
    have : (u * (D * D')) * (u * (D * D')) = (u * u) * ((D * D') * (D * D') : Rat) := by grind
    rw [this, uu, e]
    grind
  obtain ⟨S, eS, eSS⟩ := rat_int eN
  have sS : Sm (k1 + m1 + k + 2) S := by
    refine sq_sm eSS ?_
    have p1 := sq_nn S
    have p2 := sq_nn (E * D')
    have sA : Sm ((k1 + m1 + k + 2) + (k1 + m1 + k + 2)) (R * (a * a + b * b)) := (Sm.mul sR (Sm.addm (Sm.mul sa sa) (Sm.mul sb sb))).mono (by omega)
    refine sA.le ?_
    rw [eSS] at p1
    generalize R * (a * a + b * b) = A at *
    generalize (E * D') * (E * D') = B at *
    omega
  have cx := cX_mul (c := c) (x := x) (y := y) (u := u) nn
  have cy := cY_mul (c := c) (x := x) (y := y) (u := u) nn
  generalize cX a b c x y u = p at *
  generalize cY a b c x y u = q at *
  clear z1 z2 hR hE eR eN eSS uu
  refine ⟨X * D' * (a * a + b * b) + a * (E * D') + b * S, Y * D' * (a * a + b * b) + b * (E * D') - a * S, (a * a + b * b) * (D * D'), Int.mul_ne_zero (by omega) (Int.mul_ne_zero d0 d0'), ?_, ?_, ?_, ?_, ?_⟩
  · simp only [Rat.intCast_mul, Rat.intCast_sub, Rat.intCast_add]
    rw [show p * (((a : Rat) * a + b * b) * (D * D')) = (p * ((a : Rat) * a + b * b)) * (D * D') from (Rat.mul_assoc _ _ _).symm, cx, eX, eE, ← eS]
    grind
  · simp only [Rat.intCast_mul, Rat.intCast_sub, Rat.intCast_add]
    rw [show q * (((a : Rat) * a + b * b) * (D * D')) = (q * ((a : Rat) * a + b * b)) * (D * D') from (Rat.mul_assoc _ _ _).symm, cy, eY, eE, ← eS]
    grind
  · exact (Sm.addm (Sm.addm (Sm.mul (Sm.mul s1 s3') (Sm.addm (Sm.mul sa sa) (Sm.mul sb sb))) (Sm.mul sa (Sm.mul sE s3'))) (Sm.mul sb sS)).mono (by omega)
  · exact (Sm.subm (Sm.addm (Sm.mul (Sm.mul s2 s3') (Sm.addm (Sm.mul sa sa) (Sm.mul sb sb))) (Sm.mul sb (Sm.mul sE s3'))) (Sm.mul sa sS)).mono (by omega)
  · exact (Sm.mul (Sm.addm (Sm.mul sa sa) (Sm.mul sb sb)) (Sm.mul s3 s3')).mono (by omega)
/-- the line of two circles -/
theorem jh_rings {n m : Nat} {a b c : Int} {x y s x' y' s' g : Rat} (h : Ln a b c) (ne : ¬ (x = x' ∧ y = y')) (C : Ch n x y s) (C' : Ch m x' y' s') (g1 : g * a = 2 * (x' - x)) (g2 : g * b = 2 * (y' - y)) (g3 : g * c = (s - x * x - y * y) - (s' - x' * x' - y' * y')) : Sm (n + n + (m + m) + 12) a ∧ Sm (n + n + (m + m) + 12) b ∧ Sm (n + n + (m + m) + 12) c := by
  obtain ⟨p, q, k1, m1, l, ⟨X, Y, D, d0, eX, eY, s1, s2, s3⟩, ⟨P, Q, F, f0, eP, eQ, t1, t2, t3⟩, rfl⟩ := C
  obtain ⟨p', q', k2, m2, l', ⟨X', Y', D', d0', eX', eY', s1', s2', s3'⟩, ⟨P', Q', F', f0', eP', eQ', t1', t2', t3'⟩, rfl⟩ := C'
  have c1 : ((2 * (X' * D - X * D') * ((F * F) * (F' * F')) : Int) : Rat) = g * a * ((D * D') * ((F * F) * (F' * F'))) := by
    rw [g1]; simp only [Rat.intCast_mul, Rat.intCast_sub]; rw [eX, eX', show ((2 : Int) : Rat) = 2 from rfl]; grind
  have c2 : ((2 * (Y' * D - Y * D') * ((F * F) * (F' * F')) : Int) : Rat) = g * b * ((D * D') * ((F * F) * (F' * F'))) := by
    rw [g2]; simp only [Rat.intCast_mul, Rat.intCast_sub]; rw [eY, eY', show ((2 : Int) : Rat) = 2 from rfl]; grind
  have h1 : (((P * P + Q * Q) * D - 2 * (X * P + Y * Q) * F : Int) : Rat) = (((p - x) * (p - x) + (q - y) * (q - y)) - x * x - y * y) * (D * (F * F)) := by
    simp only [Rat.intCast_mul, Rat.intCast_sub, Rat.intCast_add]; rw [eX, eY, eP, eQ, show ((2 : Int) : Rat) = 2 from rfl]; grind
  have h2 : (((P' * P' + Q' * Q') * D' - 2 * (X' * P' + Y' * Q') * F' : Int) : Rat) = (((p' - x') * (p' - x') + (q' - y') * (q' - y')) - x' * x' - y' * y') * (D' * (F' * F')) := by
    simp only [Rat.intCast_mul, Rat.intCast_sub, Rat.intCast_add]; rw [eX', eY', eP', eQ', show ((2 : Int) : Rat) = 2 from rfl]; grind
  have z1 : Sm (k1 + m1 + m1 + 4) ((P * P + Q * Q) * D - 2 * (X * P + Y * Q) * F) := (Sm.subm (Sm.mul (Sm.addm (Sm.mul t1 t1) (Sm.mul t2 t2)) s3) (Sm.mul (Sm.mul two_sm (Sm.addm (Sm.mul s1 t1) (Sm.mul s2 t2))) t3)).mono (by omega)
  have z2 : Sm (k2 + m2 + m2 + 4) ((P' * P' + Q' * Q') * D' - 2 * (X' * P' + Y' * Q') * F') := (Sm.subm (Sm.mul (Sm.addm (Sm.mul t1' t1') (Sm.mul t2' t2')) s3') (Sm.mul (Sm.mul two_sm (Sm.addm (Sm.mul s1' t1') (Sm.mul s2' t2'))) t3')).mono (by omega)
  generalize (P * P + Q * Q) * D - 2 * (X * P + Y * Q) * F = U at *
  generalize (P' * P' + Q' * Q') * D' - 2 * (X' * P' + Y' * Q') * F' = W at *
  have c3 : ((U * (D' * (F' * F')) - W * (D * (F * F)) : Int) : Rat) = g * c * ((D * D') * ((F * F) * (F' * F'))) := by
    rw [g3]; simp only [Rat.intCast_mul, Rat.intCast_sub]; rw [h1, h2]; grind
  have w1 := Sm.mul t3 t3
  have w2 := Sm.mul t3' t3'
  have y1 := (Sm.mul (Sm.mul two_sm (Sm.subm (Sm.mul s1' s3) (Sm.mul s1 s3'))) (Sm.mul w1 w2)).mono (show _ ≤ n + n + (m + m) + 12 by omega)
  have y2 := (Sm.mul (Sm.mul two_sm (Sm.subm (Sm.mul s2' s3) (Sm.mul s2 s3'))) (Sm.mul w1 w2)).mono (show _ ≤ n + n + (m + m) + 12 by omega)
  have y3 := (Sm.subm (Sm.mul z1 (Sm.mul s3' w2)) (Sm.mul z2 (Sm.mul s3 w1))).mono (show _ ≤ n + n + (m + m) + 12 by omega)
  refine ln_tri h ?_ ?_ ?_ ?_ y1 y2 y3
  · rintro ⟨e1, e2⟩
    have nD : D * D' ≠ 0 := Int.mul_ne_zero d0 d0'
    have ff : (F * F) * (F' * F') ≠ 0 := Int.mul_ne_zero (Int.mul_ne_zero f0 f0) (Int.mul_ne_zero f0' f0')
    have cz : ∀ {A : Int}, 2 * A * ((F * F) * (F' * F')) = 0 → A = 0 := fun {A} z => by
      rcases Int.mul_eq_zero.mp z with z | z
      · omega
      · exact absurd z ff
    have r1 := congrArg (Int.cast (R := Rat)) (cz e1)
    have r2 := congrArg (Int.cast (R := Rat)) (cz e2)
    simp only [Rat.intCast_mul, Rat.intCast_sub, Rat.intCast_zero] at r1 r2
    rw [eX, eX'] at r1
    rw [eY, eY'] at r2
    have nr := ratz nD
    simp only [Rat.intCast_mul] at nr
    have v1 : (x' - x) * ((D : Rat) * D') = 0 := by grind
    have v2 : (y' - y) * ((D : Rat) * D') = 0 := by grind
    refine ne ⟨?_, ?_⟩
    · rcases Rat.mul_eq_zero.mp v1 with z | z
      · grind
      · contradiction
    · rcases Rat.mul_eq_zero.mp v2 with z | z
      · grind
      · contradiction
  · rw [c1, c2]; grind
  · rw [c1, c3]; grind
  · rw [c2, c3]; grind
end Mb
namespace Mb
open PySem L2
/-! ### promises over heights -/
def spBetweenJ (K : PySem.W.Frag) : Sp := fun vs H Q _ => ∃ (v w u : V) (x x' t : Rat) (n m k : Nat), vs = [v, w, u] ∧ Fq K H v x ∧ Fq K H w x' ∧ Fq K H u t ∧ Sz n x ∧ Sz m x' ∧ Sz k t ∧ n + m ≤ 7400 ∧ k ≤ 500 ∧
  ∀ (r : V) (H' : Hp), Same H H' → Fq K H' r (x + t * (x' - x)) → Q r H'
theorem r_betweenJ {K : PySem.W.Frag} {H : Hp} {Q : VK} {E : XK} {v w u : V} {x x' t : Rat} {n m k : Nat} (h1 : Fq K H v x) (h2 : Fq K H w x') (h3 : Fq K H u t) (s1 : Sz n x) (s2 : Sz m x') (s3 : Sz k t) (l1 : n + m ≤ 7400) (l2 : k ≤ 500) (c : ∀ (r : V) (H' : Hp), Same H H' → Fq K H' r (x + t * (x' - x)) → Q r H') : spBetweenJ K ([v, w, u] ++ []) H Q E :=
  ⟨v, w, u, x, x', t, n, m, k, rfl, h1, h2, h3, s1, s2, s3, l1, l2, c⟩
def spShareJ (K : PySem.W.Frag) : Sp := fun vs H Q _ => ∃ (v w u : V) (x y x' y' t : Rat) (n m k : Nat), vs = [v, w, u] ∧ Pq K H v x y ∧ Pq K H w x' y' ∧ Fq K H u t ∧ Sz n x ∧ Sz n y ∧ Sz m x' ∧ Sz m y' ∧ Sz k t ∧ n + m ≤ 7400 ∧ k ≤ 500 ∧
  ∀ (r : V) (H' : Hp), Same H H' → Pq K H' r (x + t * (x' - x)) (y + t * (y' - y)) → Q r H'
def spP2J (K : PySem.W.Frag) (X Y : Rat → Rat → Rat → Rat → Rat) : Sp := fun vs H Q _ => ∃ (v w : V) (x y x' y' : Rat) (n m : Nat), vs = [v, w] ∧ Pq K H v x y ∧ Pq K H w x' y' ∧ Sz n x ∧ Sz n y ∧ Sz m x' ∧ Sz m y' ∧ n + m ≤ 7400 ∧
  ∀ (r : V) (H' : Hp), Same H H' → Pq K H' r (X x y x' y') (Y x y x' y') → Q r H'
def spClearedJ (K : PySem.W.Frag) : Sp := fun vs H Q _ => ∃ (v : V) (x y : Rat) (n : Nat), vs = [v] ∧ Pq K H v x y ∧ Jh n x y ∧ n ≤ 7600 ∧
  ∀ (r : V) (H' : Hp) (X Y W : Int), Same H H' → Lq K H' r X Y W → 0 < W → (X : Rat) = x * W → (Y : Rat) = y * W → Sm n X → Sm n Y → Sm n W → Q r H'
def spWayJ (K : PySem.W.Frag) : Sp := fun vs H Q _ => ∃ (v w : V) (x y x' y' : Rat) (n m : Nat), vs = [v, w] ∧ Pq K H v x y ∧ Pq K H w x' y' ∧ Jh n x y ∧ Jh m x' y' ∧ n ≤ 7600 ∧ m ≤ 7600 ∧
  ∀ (r : V) (H' : Hp) (X Y W : Int), Same H H' → Lq K H' r X Y W → 0 < W → (X : Rat) = (x' - x) * W → (Y : Rat) = (y' - y) * W → Sm (n + m + 1) X → Sm (n + m + 1) Y → Sm (n + m) W → Q r H'
theorem wayI_of {K : PySem.W.Frag} {vs : List V} {H : Hp} {Q : VK} {E : XK} (h : spWayI K vs H Q E) : spWayJ K vs H Q E := by
  obtain ⟨v, w, x, y, x', y', n, m, rfl, h1, h2, s1, s2, s3, s4, l1, l2, q⟩ := h
  exact ⟨v, w, x, y, x', y', n + n, m + m, rfl, h1, h2, Jh.of_sz s1 s2, Jh.of_sz s3 s4, by omega, by omega, q⟩
def spThruJ (K : PySem.W.Frag) : Sp := fun vs H Q _ => ∃ (v w : V) (x y x' y' : Rat) (n m : Nat), vs = [v, w] ∧ Pq K H v x y ∧ Pq K H w x' y' ∧ Jh n x y ∧ Jh m x' y' ∧ n + m ≤ 7000 ∧
  (x = x' ∧ y = y' → Q .non H) ∧
  (¬ (x = x' ∧ y = y') → ∀ (r : V) (H' : Hp) (a b c : Int), Same H H' → Lq K H' r a b c → Ln a b c → (a : Rat) * x + b * y = c → (a : Rat) * x' + b * y' = c → Q r H')
def spLineAtJ (K : PySem.W.Frag) : Sp := fun vs H Q _ => ∃ (v : V) (x y : Rat) (a b : Int) (n k : Nat), vs = [v, .int a, .int b] ∧ Pq K H v x y ∧ ¬ (a = 0 ∧ b = 0) ∧ Jh n x y ∧ Sm k a ∧ Sm k b ∧ n + k ≤ 6000 ∧
  ∀ (r : V) (H' : Hp) (A B C : Int), Same H H' → Lq K H' r A B C → Ln A B C → (A : Rat) * x + B * y = C → (A : Rat) * b = B * a → Sm (k + n + 1) A → Sm (k + n + 1) B → Sm (k + n + 1) C → Q r H'
def spAlongJ (K : PySem.W.Frag) (R : Int → Int → Int → Int → Prop) : Sp := fun vs H Q _ => ∃ (v w : V) (x y : Rat) (a b c : Int) (n k : Nat), vs = [v, w] ∧ Pq K H v x y ∧ Lq K H w a b c ∧ ¬ (a = 0 ∧ b = 0) ∧ Jh n x y ∧ Sm k a ∧ Sm k b ∧ n + k ≤ 6000 ∧
  ∀ (r : V) (H' : Hp) (A B C : Int), Same H H' → Lq K H' r A B C → Ln A B C → (A : Rat) * x + B * y = C → R A B a b → Sm (k + n + 1) A → Sm (k + n + 1) B → Sm (k + n + 1) C → Q r H'
def spFootJ (K : PySem.W.Frag) : Sp := fun vs H Q _ => ∃ (v w : V) (x y : Rat) (a b c : Int) (n k : Nat), vs = [v, w] ∧ Pq K H v x y ∧ Lq K H w a b c ∧ Ln a b c ∧ Jh n x y ∧ Sm k a ∧ Sm k b ∧ Sm k c ∧ n + (k + k) ≤ 3100 ∧
  ∀ (r : V) (H' : Hp) (fx fy : Rat), Same H H' → Pq K H' r fx fy → (a : Rat) * fx + b * fy = c → (b : Rat) * (fx - x) = a * (fy - y) → Q r H'
def spMirrorJ (K : PySem.W.Frag) : Sp := fun vs H Q _ => ∃ (v w : V) (x y : Rat) (a b c : Int) (n k : Nat), vs = [v, w] ∧ Pq K H v x y ∧ Lq K H w a b c ∧ Ln a b c ∧ Jh n x y ∧ Sm k a ∧ Sm k b ∧ Sm k c ∧ n + (k + k) ≤ 3100 ∧
  ∀ (r : V) (H' : Hp) (fx fy : Rat), Same H H' → Pq K H' r (fx + fx - x) (fy + fy - y) → (a : Rat) * fx + b * fy = c → (b : Rat) * (fx - x) = a * (fy - y) → Q r H'
def spAboutJ (K : PySem.W.Frag) : Sp := fun vs H Q _ => ∃ (v w : V) (x y x' y' : Rat) (n m : Nat), vs = [v, w] ∧ Pq K H v x y ∧ Pq K H w x' y' ∧ Jh n x y ∧ Jh m x' y' ∧ n + m ≤ 3900 ∧
  (x = x' ∧ y = y' → Q .non H) ∧
  (¬ (x = x' ∧ y = y') → ∀ (r : V) (H' : Hp), Same H H' → Cq K H' r x y ((x' - x) * (x' - x) + (y' - y) * (y' - y)) → Q r H')
def spReachedJ (K : PySem.W.Frag) : Sp := fun vs H Q _ => ∃ (v w u : V) (a b c X Y W e : Int) (t : Rat), vs = [v, w, .int e, u] ∧ Lq K H v a b c ∧ Lq K H w X Y W ∧ Fq K H u t ∧ 0 < a * a + b * b ∧ 0 < W ∧ Sm 1600 a ∧ Sm 1600 b ∧ Sm 3100 X ∧ Sm 3100 Y ∧ Sm 3100 W ∧ Sm 4800 e ∧ Sm 7800 t.num ∧ Sm 7800 (t.den : Int) ∧ Sm 8000 (W * (a * a + b * b) * (t.den : Int)) ∧
  ∀ (r : V) (H' : Hp) (x y : Rat), Same H H' → Pq K H' r x y → x = (((a : Rat) * a + b * b) * X + a * e + b * t) / (W * ((a : Rat) * a + b * b)) → y = (((a : Rat) * a + b * b) * Y + b * e - a * t) / (W * ((a : Rat) * a + b * b)) → Q r H'
theorem root_half {r q : Rat} {n m : Nat} (e : r * r = q) (s1 : Sm (n + n) q.num) (s2 : Sm (m + m) (q.den : Int)) : Sm n r.num ∧ Sm m (r.den : Int) := by
  obtain ⟨e1, e2⟩ := sq_parts e
  exact ⟨sq_sm e1.symm s1, sq_sm e2.symm s2⟩
def spCutsJ (K : PySem.W.Frag) : Sp := fun vs H Q _ => ∃ (v w : V) (a b c : Int) (x y s d : Rat) (k m : Nat), vs = [v, w] ∧ Lq K H v a b c ∧ Ln a b c ∧ Cq K H w x y s ∧ Sm k a ∧ Sm k b ∧ Sm k c ∧ Ch m x y s ∧ k + k + m ≤ 3100 ∧ Cd a b c x y s d ∧
  (d < 0 → ∀ (r : V) (l : Addr) (H' : Hp), Same H H' → H l = none → Ct0 K H' r "miss" l → Q r H') ∧
  (0 ≤ d → (¬ ∃ r : Rat, r * r = d) → ∀ (r : V) (l : Addr) (H' : Hp), Same H H' → H l = none → Ct0 K H' r "root" l → Q r H') ∧
  (∀ t : Rat, 0 ≤ t → t * t = d → ∀ (r : V) (l : Addr) (H' : Hp) (u : Rat), Same H H' → H l = none → (u = if 0 < b then -t else t) → Ct2 K H' r l (cX a b c x y u) (cY a b c x y u) (cX a b c x y (-u)) (cY a b c x y (-u)) → Q r H')
def spEquationJ (K : PySem.W.Frag) : Sp := fun vs H Q _ => ∃ (v : V) (x y s : Rat), vs = [v] ∧ Cq K H v x y s ∧ Ch 620 x y s ∧
  ∀ (r : V) (H' : Hp) (m g h k : Int), Same H H' → Eq4 K H' r m g h k → 0 < m → (g : Rat) = 2 * x * m → (h : Rat) = 2 * y * m → (k : Rat) = (s - x * x - y * y) * m → Sm 2490 m → Sm 2490 g → Sm 2490 h → Sm 2490 k → Q r H'
def spCommonJ (K : PySem.W.Frag) : Sp := fun vs H Q _ => ∃ (v w : V) (x y s x' y' s' : Rat), vs = [v, w] ∧ Cq K H v x y s ∧ Cq K H w x' y' s' ∧ ¬ (x = x' ∧ y = y') ∧ Ch 620 x y s ∧ Ch 620 x' y' s' ∧
  ∀ (r : V) (H' : Hp) (a b c : Int) (g : Rat), Same H H' → Lq K H' r a b c → Ln a b c → g ≠ 0 → g * a = 2 * (x' - x) → g * b = 2 * (y' - y) → g * c = (s - x * x - y * y) - (s' - x' * x' - y' * y') → Q r H'
def spRingJ (K : PySem.W.Frag) : Sp := fun vs H Q _ => ∃ (v w : V) (x y s x' y' s' : Rat) (n m : Nat), vs = [v, w] ∧ Cq K H v x y s ∧ Cq K H w x' y' s' ∧ Ch n x y s ∧ Ch m x' y' s' ∧ 5 * (n + m) ≤ 3000 ∧
  (x = x' ∧ y = y' → ∀ (r : V) (l : Addr) (H' : Hp), Same H H' → H l = none → Ct0 K H' r "centre" l → Q r H') ∧
  (¬ (x = x' ∧ y = y') → ∀ (a b c : Int) (g d : Rat), Ln a b c → g ≠ 0 → g * a = 2 * (x' - x) → g * b = 2 * (y' - y) → g * c = (s - x * x - y * y) - (s' - x' * x' - y' * y') → Cd a b c x y s d →
    (d < 0 → ∀ (r : V) (l : Addr) (H' : Hp), Same H H' → H l = none → Ct0 K H' r "miss" l → Q r H') ∧
    (0 ≤ d → (¬ ∃ r : Rat, r * r = d) → ∀ (r : V) (l : Addr) (H' : Hp), Same H H' → H l = none → Ct0 K H' r "root" l → Q r H') ∧
    (∀ t : Rat, 0 ≤ t → t * t = d → ∀ (r : V) (l : Addr) (H' : Hp) (u : Rat), Same H H' → H l = none → (u = if 0 < b then -t else t) → Ct2 K H' r l (cX a b c x y u) (cY a b c x y u) (cX a b c x y (-u)) (cY a b c x y (-u)) → Q r H'))
end Mb
namespace Mb
open PySem L2
/-! ### defs that may raise -/
structure KnX (P : Program) (w : World) (K : PySem.W.Frag) (mg : Str → Option Value) (base : Heap) (k : Nat) (x : Str) (ps : List Str) (sp : Sp) : Prop where
  ex : ∃ f fd, FnOk P w K mg base (L2.CX P w) k f fd ps sp ∧ mg x = some (.ref f) ∧ PySem.W.keepIn K (.ref f) = true ∧ Binds K fd ps []
section
variable {X : Cx} {k : Nat} {x : Str} {ps : List Str} {sp : Sp} {e : Expr} {es : List Expr} {p pos : Pos} {t : TA}
end
/-! ### an own error class without arguments -/
structure XCls (K : PySem.W.Frag) (mg : Str → Option Value) (x : Str) (C : Addr) : Prop where
  g : mg x = some (.ref C)
  q : PySem.W.excIn K C He.veBase "ValueError.__new__" = true
  k : PySem.W.keepIn K (.ref C) = true
  b : PySem.W.subIn K (.ref C) (.type "BaseException") = some true
  t : PySem.W.typeIn K (.ref C) = some (.type "type")
/-! ### a reading that holds under a condition -/
/-! ### except clauses, with and without a name, one after the other -/
inductive Hds (X : Cx) (Wout : WX) : List ExceptHandler → (Ends → WX) → Prop
  | nil : Hds X Wout [] (fun _ => Wout)
  | plain {x : Str} {c : Value} {ts : Addr → Value → Option Addr → TS} {b0 : Stmt} {su : List Stmt} {np pq : Pos} {hds : List ExceptHandler} {w : Ends → WX} (hc : Names X x c)
      (hsu : ∀ (a : Addr) (oe : Obj) (cls : Value) (d : Option Addr) (pn : List (Addr × Obj)), Zc cls d oe → (∃ vs, oe.data = .fields vs) → PSs (X.suite a ((a, oe) :: pn)) (b0 :: su) (ts a cls d)) (r : Hds X Wout hds w) :
      Hds X Wout (.ExceptHandler (some (.Name x np)) none (b0 :: su) pq :: hds) (fun D cls d σ H => ∃ b, PySem.W.exmOne X.K cls c = some b ∧ (b = true → ∀ a, H a = none → ts a cls d D σ H) ∧ (b = false → w D cls d σ H))
  | named {x n : Str} {i : Nat} {c : Value} {ts : Addr → Value → Option Addr → TS} {b0 : Stmt} {su : List Stmt} {np pq : Pos} {hds : List ExceptHandler} {w : Ends → WX} (hN : X.N.Nodup) (hi : X.N[i]? = some n) (hln : X.env.kindOf n = some .local) (hc : Names X x c)
      (hsu : ∀ (a : Addr) (oe : Obj) (cls : Value) (d : Option Addr) (pn : List (Addr × Obj)), Zc cls d oe → (∃ vs, oe.data = .fields vs) → PSs (X.suite a ((a, oe) :: pn)) (b0 :: su) (ts a cls d)) (r : Hds X Wout hds w) :
      Hds X Wout (.ExceptHandler (some (.Name x np)) (some n) (b0 :: su) pq :: hds)
        (fun D cls d σ H => ∃ b, PySem.W.exmOne X.K cls c = some b ∧ (b = true → ∀ a, H a = none → ts a cls d { nx := fun σ1 H1 => D.nx (σ1.set i none) H1, rt := D.rt, bk := fun σ1 H1 => D.bk (σ1.set i none) H1, ct := fun σ1 H1 => D.ct (σ1.set i none) H1 } (σ.set i (some (.ref a))) H) ∧ (b = false → w D cls d σ H))
section
variable {X : Cx} {body : List Stmt} {h0 : ExceptHandler} {hds : List ExceptHandler} {w : Ends → WX} {pos : Pos} {tb : WX → TS} {Wout : WX}
end
/-! ### promises of defs that may raise: C is the class of the error -/
/-! ### facts of the written part -/
def eqV (a b : Option Bool) : Bool := decide (a = b)
end Mb
namespace Mb
open PySem L2
/-! ### errors made and held as values -/
/-- what the written part says of an own class over ValueError whose __init__ is asked by the class's name -/
structure BeI (K : PySem.W.Frag) (B : Addr) : Prop where
  ga : PySem.W.specialIn K (.ref B) "__getattribute__" = some (some (.builtin "type.__getattribute__"))
  rd : PySem.W.readsIn K B (.type "type") = true
  fc : PySem.W.findCls K (.ref B) (.type "type") "__init__" = some (.val (.builtin "ValueError.__init__"))
section
variable {X : Cx} {e : Expr} {es : List Expr} {te : TE} {ta : TA} {x : Str} {p p1 p2 pos : Pos} {B C : Addr}
end
end Mb
namespace Mb
open PySem L2
/-! ### a class with its own __init__, as its callers take it -/
structure MkC (P : Program) (w : World) (K : PySem.W.Frag) (mg : Str → Option Value) (base : Heap) (k : Nat) (x : Str) (C : Addr) (sp : Sp) : Prop where
  ex : ∃ fI fd ps, OexC K C ∧ PySem.W.findIn K (.ref C) "__init__" = some (some (.ref fI)) ∧ PySem.W.typeIn K (.ref fI) = some (.type "function") ∧ FnOk P w K mg base CX0 k fI fd ps sp ∧ Binds K fd ps [] ∧ mg x = some (.ref C)
/-- the __init__ of a class, as it stands -/
structure FnI (K : PySem.W.Frag) (mg : Str → Option Value) (x qual : Str) (C : Addr) (st : Stmt) : Prop where
  ex : ∃ fI fd, FunD K "__init__" qual (defArgs st) (defBody st) (defScope st) [] [] fI fd ∧ OexC K C ∧ PySem.W.findIn K (.ref C) "__init__" = some (some (.ref fI)) ∧ PySem.W.typeIn K (.ref fI) = some (.type "function") ∧ mg x = some (.ref C)
/-! ### the nineteen refusals, by number -/
def nms : List Str := ["BadName", "Taken", "NoThing", "WrongSort", "NotFree", "Far", "TooHeavy", "Ring", "Locked", "NoGroup", "NoWatcher", "NoMark", "Rooted", "TooWide", "Hung", "BadText", "Nought", "NoNumber", "NoStep"]
def nm (i : Nat) : Str := nms.getD i ""
structure Cs (K : PySem.W.Frag) (mg : Str → Option Value) (c : Nat → Addr) (B : Addr) : Prop where
  g : ∀ i, i < 19 → mg (nm i) = some (.ref (c i))
  gB : mg "BookError" = some (.ref B)
  ex : ∀ i, i < 19 → ExcC K (c i)
  ki : ∀ i j, i < 19 → j < 19 → PySem.W.kitOne K (.ref (c i)) (.ref (c j)) = some (decide (((j : Nat) : Int) = ((i : Nat) : Int)))
  kB : ∀ i, i < 19 → PySem.W.kitOne K (.ref (c i)) (.ref B) = some true
  kV : ∀ i, i < 19 → PySem.W.kitOne K (.ref (c i)) (.type "ValueError") = some true
section
variable {σ : St} {H : Hp} {Q : VK} {D : Ends} {K : PySem.W.Frag}
theorem r_yes {R : Bool → Hp → Prop} (q : R true H) : tYes σ H R := q
theorem r_bm {T : String} {r : V → List V → Hp → VK → Prop} {to : TE} {t : TA} (q : to σ H fun x H1 => tyV K T x H1 ∧ t σ H1 fun xs H2 => r x xs H2 Q) : tBM K T r to t σ H Q := q
end
end Mb
namespace Mb
open PySem PySem.Spec PyProof.Rows L2
/-! ### Base.__init__(self, ..) where Base has a def of its own -/
structure BoI (K : PySem.W.Frag) (B fB : Addr) : Prop where
  ga : PySem.W.specialIn K (.ref B) "__getattribute__" = some (some (.builtin "type.__getattribute__"))
  rd : PySem.W.readsIn K B (.type "type") = true
  fc : PySem.W.findCls K (.ref B) (.type "type") "__init__" = some (.val (.ref fB))
  ty : PySem.W.typeIn K (.ref fB) = some (.type "function")
  kp : PySem.W.keepIn K (.ref fB) = true
/-- Base.__init__ as its callers take it -/
structure KnB (P : Program) (w : World) (K : PySem.W.Frag) (mg : Str → Option Value) (base : Heap) (k : Nat) (x : Str) (ps : List Str) (sp : Sp) : Prop where
  ex : ∃ B fB fd, FnOk P w K mg base CX0 k fB fd ps sp ∧ BoI K B fB ∧ mg x = some (.ref B) ∧ Binds K fd ps []
section
variable {X : Cx} {e : Expr} {es : List Expr} {ta : TA} {x : Str} {p p1 p2 pos : Pos} {k : Nat} {ps : List Str} {sp : Sp}
end
/-! ### the base's __init__(self, message, words) -/
structure FnB (K : PySem.W.Frag) (mg : Str → Option Value) (x qual : Str) (st : Stmt) : Prop where
  ex : ∃ B fB fd u v, FunD K "__init__" qual (defArgs st) (defBody st) (defScope st) [u, v] [] fB fd ∧ BoI K B fB ∧ mg x = some (.ref B)
/-! ### promises of defs that may raise an error with fields: C is its class -/
/-! ### refusals as values -/
section
variable {X : Cx} {x : Str} {p pos : Pos} {k : Nat} {sp : Sp}
end
end Mb
namespace Mb
open PySem L2
/-! ### the drawing of rows: a fraction within the bounds, a place -/
/-- a fraction in lowest terms within the bounds of free points -/
structure Fb (t u : Int) : Prop where
  pos : 0 < u
  one : Int.gcd t u = 1
  tb : t.natAbs < 1000000000
  ub : u < 1000000000
def spFracB : Sp := fun vs H Q _ => ∃ (p : Addr) (b : Int), vs = [.ref p] ∧ Pl H p b ∧ b ≤ 1900000 ∧
  ∀ (o : Addr) (t u : Int) (H' : Hp), But p H H' → Pl H' p (b + 10) → H' o = some (.tup [.int t, .int u]) → Fb t u → Q (.ref o) H'
def spPlaceB (K : PySem.W.Frag) : Sp := fun vs H Q _ => ∃ (p : Addr) (b : Int), vs = [.ref p] ∧ Pl H p b ∧ b ≤ 1800000 ∧
  ∀ (o f g : Addr) (t u r s : Int) (H' : Hp), But p H H' → Pl H' p (b + 20) → H' o = some (.tup [.ref f, .ref g]) → SqT K H' f [.int t, .int u] → SqT K H' g [.int r, .int s] → Fb t u → Fb r s → Q (.ref o) H'
theorem fb_low {t b : Int} (hb : 0 < b) (h1 : t.natAbs < 1000000000) (h2 : b < 1000000000) : Fb (lowT t b) (lowB t b) := by
  have hb' : b ≠ 0 := by omega
  have a1 := lowT_le (t := t) hb'
  have a2 := lowB_le (t := t) hb'
  have a3 := lowB_pos (t := t) hb'
  exact ⟨a3, low_gcd hb', by omega, by omega⟩
theorem fb_int {t : Int} (h : t.natAbs < 1000000000) : Fb t 1 := ⟨by decide, by rw [Int.gcd_one], h, by decide⟩
/-! ### the table of the words -/
def wordsTab : List (Str × Str × List Str) := [("free", "point", []), ("middle", "point", ["point", "point"]), ("next", "point", ["point", "point"]), ("turn", "point", ["point", "point"]), ("share", "point", ["point", "point"]), ("foot", "point", ["point", "line"]), ("mirror", "point", ["point", "line"]), ("meet", "point", ["line", "line"]), ("cut", "point", ["curve", "circle"]), ("line", "line", ["point", "point"]), ("along", "line", ["point", "line"]), ("upright", "line", ["point", "line"]), ("circle", "circle", ["point", "point"]), ("inline", "claim", ["point", "point", "point"]), ("round", "claim", ["point", "point", "point", "point"]), ("alike", "claim", ["point", "point", "point", "point"]), ("beside", "claim", ["line", "line"]), ("square", "claim", ["line", "line"])]
/-- what the table at a tells -/
def Wt (K : PySem.W.Frag) (w : World) (a : Addr) : Prop := ∀ (x s : Str) (g : List Str), (x, s, g) ∈ wordsTab → ∃ t u : Addr, KDct K w a x (.ref t) ∧ (∀ H, SqT K H t [.str s, .ref u]) ∧ ∀ H, SqT K H u (g.map V.str)
theorem r_ixT0 {K : PySem.W.Frag} {H : Hp} {Q : VK} {a : Addr} {v : V} {r : List V} (h : SqT K H a (v :: r)) (k : Q v H) : rIxT K (.ref a) (.int 0) H Q := ⟨a, _, 0, _, rfl, rfl, h, by unfold atI ixN; rw [if_pos (by decide), if_pos (by simp only [List.length_cons]; omega)]; rfl, k⟩
def spSort (K : PySem.W.Frag) : Sp := fun vs H Q _ => ∃ (a : Addr) (x s : Str) (g : List Str) (r : List V), vs = [.ref a] ∧ SqT K H a (.str x :: r) ∧ (x, s, g) ∈ wordsTab ∧ Q (.str s) H
def spWanted (K : PySem.W.Frag) : Sp := fun vs H Q _ => ∃ (a : Addr) (x s : Str) (g : List Str) (r : List V), vs = [.ref a] ∧ SqT K H a (.str x :: r) ∧ (x, s, g) ∈ wordsTab ∧ ∀ u : Addr, SqT K H u (g.map V.str) → Q (.ref u) H
/-- the grounds of a making: names behind the word, as many as the table tells, and what follows them -/
def spGrounds (K : PySem.W.Frag) : Sp := fun vs H Q _ => ∃ (a : Addr) (x s : Str) (g ns : List Str) (r : List V), vs = [.ref a] ∧ SqT K H a (.str x :: (ns.map V.str ++ r)) ∧ (x, s, g) ∈ wordsTab ∧ ns.length = g.length ∧ ∀ (l : Addr) (H' : Hp), Same H H' → H l = none → H' l = some (.lst (ns.map V.str)) → Q (.ref l) H'
theorem r_slR {r : V → Option Int → Option Int → Hp → VK → Prop} {te : TE} {tl th : TO} {σ : St} {H : Hp} {Q : VK} (q : te σ H fun x H1 => tl σ H1 fun l H2 => th σ H2 fun u H3 => r x l u H3 Q) : L2.tSl r te tl th σ H Q := q
theorem r_partR {t : TE} {σ : St} {H : Hp} {Q : Option Int → Hp → Prop} (q : t σ H fun x H1 => ∃ i, x = .int i ∧ Q (some i) H1) : L2.tPart t σ H Q := q
theorem cut_names {x : V} {ns r : List V} {n : Int} (h : n = 1 + (ns.length : Int)) : cutV (x :: (ns ++ r)) (some 1) (some n) = ns := by
  subst h
  unfold cutV
  have e1 : HT.sIx (x :: (ns ++ r)).length 0 (some 1) = 1 := by
    have := HT.sIx_nat (x :: (ns ++ r)).length 0 1
    simp only [List.length_cons] at this ⊢
    rw [show (some (1 : Int)) = some (((1 : Nat) : Int)) from rfl, this]
    omega
  have e2 : HT.sIx (x :: (ns ++ r)).length (x :: (ns ++ r)).length (some (1 + (ns.length : Int))) = 1 + ns.length := by
    have := HT.sIx_nat (x :: (ns ++ r)).length (x :: (ns ++ r)).length (1 + ns.length)
    rw [show (some (1 + (ns.length : Int))) = some (((1 + ns.length : Nat) : Int)) by rw [Int.natCast_add]; rfl, this]
    simp only [List.length_cons, List.length_append]
    omega
  rw [e1, e2]
  simp
theorem cut_part {x : V} {ns : List V} {n : Option Int} : ¬ (HT.sIx (x :: ns).length 0 (some 1) = 0 ∧ HT.sIx (x :: ns).length (x :: ns).length n = (x :: ns).length) := by
  rintro ⟨h, _⟩
  have := HT.sIx_nat (x :: ns).length 0 1
  rw [show (some (1 : Int)) = some (((1 : Nat) : Int)) from rfl, this] at h
  simp only [List.length_cons] at h
  omega
/-! ### names -/
def isLw (c : Nat) : Bool := decide (97 ≤ c) && decide (c ≤ 122)
def isLf (c : Nat) : Bool := isLw c || (decide (48 ≤ c) && decide (c ≤ 57))
def gdL : List Nat → Bool
  | [] => false
  | c :: r => isLw c && r.all isLf
/-- a text of small letters and figures, the first a letter -/
def Gd (z : Str) : Prop := gdL z.cps.toList = true
def Sok (z : Str) : Prop := (z.length ≤ 12 ∧ Gd z) ∧ PyData.strOk z = true
theorem inV_str {z : Str} {zs : List Str} : inV (.str z) (zs.map V.str) = decide (z ∈ zs) := by
  unfold inV
  rw [List.any_map]
  induction zs with
  | nil => rfl
  | cons a r ih =>
    rw [List.any_cons, ih]
    show ((a == z) || _) = _
    by_cases h : a = z
    · subst h; simp
    · have : ¬ z = a := fun e => h e.symm
      simp [h, this]
/-! ### any making -/
theorem but_updR {p D : Addr} {H H' : Hp} {o : HO} (h : But p H H') (n : H D = none) : But p H (upd H' D o) := fun b o' ne hb => by
  have : b ≠ D := fun z => by rw [z, n] at hb; cases hb
  rw [upd_ne this]
  exact h b o' ne hb
theorem Pl.updR {H : Hp} {p D : Addr} {b : Int} {o : HO} (h : Pl H p b) (n : p ≠ D) : Pl (L2.upd H D o) p b := h.but n (But.upd D H o)
theorem r_cat {K : PySem.W.Frag} {H : Hp} {Q : VK} {a b : Addr} {xs ys : List V} (ha : SqT K H a xs) (hb : SqT K H b ys) (ne : xs ≠ []) (hz : xs.length + ys.length ≤ sizeLine) (q : ∀ (p : Addr) (H' : Hp), Same H H' → SqT K H' p (xs ++ ys) → Q (.ref p) H') : rCatT K (.ref a) (.ref b) H Q := by
  refine ⟨a, b, xs, ys, rfl, rfl, ha, hb, ne, hz, fun h => ?_, fun _ p hp => ?_⟩
  · subst h
    exact q a H (Same.refl H) (by rw [List.append_nil]; exact ha)
  · exact q p _ (same_new hp _) (tupOf upd_same)
theorem many_of {x s : Str} {g : List Str} (h : (x, s, g) ∈ wordsTab) : (x = "free" → g.length = 0) ∧ (x = "inline" → g.length = 3) ∧ (x = "round" ∨ x = "alike" → g.length = 4) ∧ (x ≠ "free" → x ≠ "inline" → ¬ (x = "round" ∨ x = "alike") → g.length = 2) := by
  have all : ∀ q ∈ wordsTab, (q.1 = "free" → q.2.2.length = 0) ∧ (q.1 = "inline" → q.2.2.length = 3) ∧ (q.1 = "round" ∨ q.1 = "alike" → q.2.2.length = 4) ∧ (q.1 ≠ "free" → q.1 ≠ "inline" → ¬ (q.1 = "round" ∨ q.1 = "alike") → q.2.2.length = 2) := by decide +kernel
  exact all (x, s, g) h
theorem sz4 {n : Nat} (h : n ≤ 64) : n ≤ sizeLine := Nat.le_trans h (by decide)
theorem at_str {zs : List Str} {j : Nat} (hj : j < zs.length) : atI (zs.map V.str) (j : Int) = some (.str zs[j]) := by
  unfold atI ixN
  rw [if_pos (Int.natCast_nonneg j), if_pos (by rw [List.length_map]; omega), Int.toNat_natCast]
  simp [hj]
theorem same_updS {D : Addr} {H H' : Hp} {o : HO} (h : Same H H') (n : H D = none) : Same H (upd H' D o) := fun b o' hb => by
  have : b ≠ D := fun z => by rw [z, n] at hb; cases hb
  rw [upd_ne this]
  exact h b o' hb
theorem dpAll_strs {K : PySem.W.Frag} {H : Hp} : ∀ (ns : List Str), DpAll K H (ns.map V.str) (ns.map PyData.str)
  | [] => .nil
  | n :: r => .cons (.str n) (dpAll_strs r)
theorem lay_strs : ∀ ns : List Str, (∀ z ∈ ns, PyData.strOk z = true) → PyData.canLayAll0 (ns.map PyData.str) = true ∧ PyData.depthAll (ns.map PyData.str) ≤ 1
  | [], _ => ⟨rfl, by decide⟩
  | n :: r, h => by
    obtain ⟨h1, h2⟩ := lay_strs r fun z hz => h z (List.mem_cons_of_mem _ hz)
    have h3 := h n List.mem_cons_self
    rw [List.map_cons]
    refine ⟨?_, ?_⟩
    · unfold PyData.canLayAll0 PyData.canLay0
      rw [h3, h1]
      rfl
    · unfold PyData.depthAll PyData.depth
      omega
theorem r_gT {K : PySem.W.Frag} {σ : St} {H : Hp} {Q : St → Hp → Prop} {t : TGs} {a : Addr} {xs : List V} {n : Nat} (h : SqT K H a xs) (l : xs.length = n) (q : t xs σ H Q) : gTup K n t (.ref a) σ H Q := ⟨a, xs, rfl, h, l, q⟩
theorem r_g3 {i j k : Nat} {u v w : V} {σ : St} {H : Hp} {Q : St → Hp → Prop} (q : Q (((σ.set i (some u)).set j (some v)).set k (some w)) H) : gCons (gName i) (gCons (gName j) (gCons (gName k) gNil)) [u, v, w] σ H Q := ⟨u, _, rfl, v, _, rfl, w, _, rfl, rfl, q⟩
theorem r_g2 {i j : Nat} {u v : V} {σ : St} {H : Hp} {Q : St → Hp → Prop} (q : Q ((σ.set i (some u)).set j (some v)) H) : gCons (gName i) (gCons (gName j) gNil) [u, v] σ H Q := ⟨u, _, rfl, v, _, rfl, rfl, q⟩
theorem few {x s : Str} {g : List Str} (h : (x, s, g) ∈ wordsTab) : g.length < 64 := by
  have all : ∀ q ∈ wordsTab, q.2.2.length < 64 := by decide +kernel
  exact all _ h
theorem r_neX {H : Hp} {Q : VK} {w w' : Str} (k : Q (.bl (!decide (w = w'))) H) : rNe (.str w) (.str w') H Q := ⟨rfl, by rw [show decide (V.str w = V.str w') = decide (w = w') from by simp]; exact k⟩
end Mb
namespace Mb
open PySem L2
/-! ### the head's facts with a table of text keys -/
def tupV (K : PySem.W.Frag) (t : Addr) (vs : List V) : Bool := match K.lookup t with
  | some ⟨.type c, _, .seq its _, _⟩ => decide (c = "tuple") && (decide (its.size ≤ sizeLine) && He.relAll vs its.toList)
  | _ => false
theorem tupV_ok {K : PySem.W.Frag} {t : Addr} {vs : List V} (h : tupV K t vs = true) (H : Hp) : SqT K H t vs := by
  unfold tupV at h
  cases q : K.lookup t with
  | none =>
    rw [q] at h
    cases h
  | some o =>
    obtain ⟨oc, od, dt, osl⟩ := o
    rw [q] at h
    cases oc with
    | type c =>
      cases dt with
      | seq its n =>
        obtain ⟨h1, h2⟩ := He.ba (show (decide (c = "tuple") && (decide (its.size ≤ sizeLine) && He.relAll vs its.toList)) = true from h)
        obtain ⟨h3, h4⟩ := He.ba h2
        exact .inr ⟨_, its, n, q, congrArg Value.type (of_decide_eq_true h1), rfl, of_decide_eq_true h3, He.relAll_ok h4⟩
      | _ => cases h
    | _ => cases dt <;> cases h
def refAt (K : PySem.W.Frag) (a : Addr) (x : Str) : Addr := match PySem.W.nsIn K a x with
  | some (some (.ref t)) => t
  | _ => 0
def sndOf (K : PySem.W.Frag) (t : Addr) : Addr := match K.lookup t with
  | some ⟨_, _, .seq its _, _⟩ => (match its.getD 1 .none with
    | .ref u => u
    | _ => 0)
  | _ => 0
def wtB (K : PySem.W.Frag) (a : Addr) : Bool := wordsTab.all fun q => He.eqO (PySem.W.nsIn K a q.1) (some (some (.ref (refAt K a q.1)))) && (tupV K (refAt K a q.1) [.str q.2.1, .ref (sndOf K (refAt K a q.1))] && tupV K (sndOf K (refAt K a q.1)) (q.2.2.map V.str))
theorem wt_of {K : PySem.W.Frag} {w : World} {a : Addr} (h : wtB K a = true) (d : ∃ es n, KDict K w a es n) : Wt K w a := by
  intro x s g hx
  obtain ⟨h1, h2⟩ := He.ba (List.all_eq_true.mp h _ hx)
  obtain ⟨h3, h4⟩ := He.ba h2
  obtain ⟨es, n, D⟩ := d
  exact ⟨refAt K a x, sndOf K (refAt K a x), ⟨es, n, _, D.at_, D.lit, He.eqO_ok h1, rfl⟩, fun H => tupV_ok h3 H, fun H => tupV_ok h4 H⟩
def wordsKeys : List Str := wordsTab.map (·.1)
end Mb
namespace Mb
open PySem PySem.Spec PyProof.Rows L2
/-! ### list(d.values()) -/
def rValsL : V → Hp → VK → Prop := fun x H Q => ∃ (d : Addr) (kvs : List (Key × V)), x = .ref d ∧ H d = some (.dK kvs) ∧ ∀ p, H p = none → Q (.ref p) (upd H p (.lst (kvs.map (·.2))))
def tListVals (te : TE) : TE := fun σ H Q => te σ H fun x H1 => rValsL x H1 Q
section
variable {X : Cx} {e : Expr} {te : TE} {p apos cpos pos : Pos}
theorem pe_listVals (hc : X.calm = true) (he : PE X e te) (hg : Gl X "list") (hm : X.mg "list" = none) (hv : bootBuiltins "list" = some (.type "list")) (hbase : attributeBase e "values" X.env (eval e X.env) = eval e X.env := by rfl) (hline : (apos.endLine == cpos.line) = true := by rfl)
    (hs : starEach [.Call (.Attribute e "values" apos) [] [] cpos] X.env = (false, eval (.Call (.Attribute e "values" apos) [] [] cpos) X.env) :: starEach [] X.env := by rfl) :
    PE X (.Call (.Name "list" p) [.Call (.Attribute e "values" apos) [] [] cpos] [] pos) (tListVals te) := by
  refine ⟨fun pins s σ H Q I hq => ?_⟩
  refine wpAny_Call_Name_kw (ld_blt I hg hm hv ?_)
  refine PyProof.Rows.callWith_type1 ?_ hs rfl
  rw [hs]
  show wpAny _ _ (spliced ((false, eval (.Call (.Attribute e "values" apos) [] [] cpos) X.env) :: backTo pos (starEach [] X.env))) _ _ s
  refine Calls.spliced_cons ?_
  refine wpAny_Call_method (T := "dict") (id := "dict.values") hbase rfl hline F.plainAttrs_dict F.slot_dict_values F.type_dict_values (thn (he.run pins s σ H _ I hq) fun u s1 ⟨x, H1, I1, rx, d, kvs, ex, hd, q⟩ => ?_)
  subst ex
  obtain rfl : u = Value.ref d := rx
  obtain ⟨hz, hs0, vs, kv, hdo⟩ := I1.hok d _ hd
  obtain ⟨ep, hat⟩ := hdo.dictAt
  have lk : kvs.length = vs.length := Paired.length kv
  have I2 : Inv X pins σ H1 { s1 with heap := s1.heap.push { cls := .type "dict_values", data := .fields #[.ref d] } } := I1.kept (t' := s1.toks) fun b ob q => Heap.get?_push_of_some _ q
  refine ⟨hdo.typeIs, hdo.mapOf.noDict, ?_⟩
  show wpAny _ _ (callWith cpos (.builtin "dict.values") [.ref d] [] []) _ X.xe s1
  refine method_meetsIn F.slot_dict_values F.entry_dict_values rfl (PySem.evalArgs_none ⟨rfl, hdo.typeIs, F.args_dict_values_1 _, _, meets_dict_values (mixKind X.prog X.w) d hs0, ⟨vs, hdo⟩, ?_⟩)
  refine Calls.spliced_nil ?_
  refine PySem.W.kdl_call (PySem.W.kdl_values (knd := mixKind X.prog X.w) (d := d) (kvs := vs) (ep := ep)) (I1.ok.hd hc) ⟨⟨_, Heap.get?_push_size _ rfl, rfl, rfl⟩, hat.push _⟩ (by rw [← lk]; exact hz) fun h' tk acc' c' hkeep hS hacc => ?_
  refine ⟨.ref _, upd H1 _ (.lst (kvs.map (·.2))), I2.laid hkeep (Nat.le_refl _) (show ObjOk X.prog X.w _ _ _ (.lst (kvs.map (·.2))) from ⟨?_, acc'.toList, c', ?_, ?_⟩), rfl, q _ (I2.hok.fresh (Nat.le_refl _))⟩
  · rw [List.length_map]; exact hz
  · have el : acc'.toList.length = acc'.size := by simp
    refine vals_of_at (by rw [List.length_map, el, hacc.1, lk]) fun j x w h1 h2 => ?_
    obtain ⟨k, hky⟩ := hacc.2 j w (by rw [← Array.getElem?_toList]; exact h2)
    obtain ⟨pk, g1, g2⟩ : ∃ pk, kvs[j]? = some pk ∧ x = pk.2 := by
      rw [List.getElem?_map] at h1
      cases hj : kvs[j]? with
      | none => rw [hj] at h1; cases h1
      | some pk =>
        rw [hj] at h1
        exact ⟨pk, rfl, (Option.some.inj h1).symm⟩
    obtain ⟨qv, f1, f2, f3⟩ := LiI.paired_get kv g1
    rw [hky] at f1
    cases f1
    rw [g2]
    exact f3
  · rw [Array.toArray_toList]; exact hS
theorem r_lv {te : TE} {σ : L2.St} {H : Hp} {Q : VK} (q : te σ H fun x H1 => rValsL x H1 Q) : tListVals te σ H Q := q
end
end Mb
namespace Mb
open PySem L2
/-! ### rows: things by name, sort, weight; dicts of them -/
theorem u1 {n : Nat} (h : n + 64 < cLine) : n + 1 < cLine := by omega
/-- what is known of the things so far: name, sort, weight -/
abbrev Env : Type := List (Str × Str × Int)
def sortsD (L : Env) : List (Key × V) := L.map fun e => (.inr e.1, .str e.2.1)
def loadsD (L : Env) : List (Key × V) := L.map fun e => (.inr e.1, .int e.2.2)
def nmsE (L : Env) : List Str := L.map (·.1)
def srtE (L : Env) (z : Str) : Str := ((L.find? fun e => decide (e.1 = z)).map (·.2.1)).getD ""
def wtE (L : Env) (z : Str) : Int := ((L.find? fun e => decide (e.1 = z)).map (·.2.2)).getD 0
theorem find_in {L : Env} {z : Str} (h : z ∈ nmsE L) : ∃ e, e ∈ L ∧ L.find? (fun e => decide (e.1 = z)) = some e := by
  induction L with
  | nil => simp [nmsE] at h
  | cons a r ih =>
    by_cases c : a.1 = z
    · exact ⟨a, List.mem_cons_self, by rw [List.find?_cons]; simp [c]⟩
    · have h2 : z ∈ nmsE r := by
        simp only [nmsE, List.map_cons, List.mem_cons] at h
        rcases h with h | h
        · exact absurd h.symm c
        · exact h
      obtain ⟨e, he, hf⟩ := ih h2
      exact ⟨e, List.mem_cons_of_mem _ he, by rw [List.find?_cons]; simp [c, hf]⟩
theorem val_map {L : Env} {z : Str} {f : Str × Str × Int → V} : valV (L.map fun e => ((.inr e.1 : Key), f e)) (.inr z) = (L.find? fun e => decide (e.1 = z)).map f := by
  unfold valV
  induction L with
  | nil => rfl
  | cons a r ih =>
    rw [List.map_cons, List.find?_cons, List.find?_cons]
    by_cases c : a.1 = z
    · simp [c]
    · have : ¬ ((.inr a.1 : Key) = .inr z) := fun h => c (Sum.inr.inj h)
      simp only [c, this, decide_false]
      exact ih
theorem get_sort {H : Hp} {S : Addr} {L : Env} {z : Str} (h : H S = some (.dK (sortsD L))) (hz : z ∈ nmsE L) : DGet H S (.str z) (some (.str (srtE L z))) := by
  obtain ⟨e, _, hf⟩ := find_in hz
  have := DGet.k (k := .inr z) h
  unfold sortsD at this
  rw [val_map (f := fun e => V.str e.2.1), hf] at this
  unfold srtE
  rw [hf]
  exact this
theorem get_load {H : Hp} {W : Addr} {L : Env} {z : Str} (h : H W = some (.dK (loadsD L))) (hz : z ∈ nmsE L) : DGet H W (.str z) (some (.int (wtE L z))) := by
  obtain ⟨e, _, hf⟩ := find_in hz
  have := DGet.k (k := .inr z) h
  unfold loadsD at this
  rw [val_map (f := fun e => V.int e.2.2), hf] at this
  unfold wtE
  rw [hf]
  exact this
theorem put_new {L : Env} {z : Str} {f : Str × Str × Int → V} {v : V} {e : Str × Str × Int} (h : z ∉ nmsE L) (he : e.1 = z) (hv : f e = v) : putK (L.map fun e => ((.inr e.1 : Key), f e)) (.inr z) v = (L ++ [e]).map fun e => ((.inr e.1 : Key), f e) := by
  unfold putK
  rw [if_neg]
  · rw [List.map_append, List.map_cons, List.map_nil, he, hv]
  · intro c
    obtain ⟨kv, hk, hd⟩ := List.any_eq_true.mp c
    obtain ⟨a, ha, rfl⟩ := List.mem_map.mp hk
    have e : a.1 = z := Sum.inr.inj (of_decide_eq_true hd)
    exact h (e ▸ List.mem_map.mpr ⟨a, ha, rfl⟩)
/-- bounds of the weights -/
def Light (L : Env) : Prop := ∀ e ∈ L, 0 ≤ e.2.2 ∧ e.2.2 ≤ 40
theorem Light.wt {L : Env} (h : Light L) (z : Str) : 0 ≤ wtE L z ∧ wtE L z ≤ 40 := by
  unfold wtE
  cases c : L.find? fun e => decide (e.1 = z) with
  | none => exact ⟨by decide, by decide⟩
  | some e => exact h e (List.mem_of_find?_eq_some c)
def wOf (x : Str) (ns : List Str) (L : Env) : Int :=
  if x = "free" then 1 else if x = "foot" ∨ x = "mirror" then wtE L (ns.getD 0 "") + 2 * wtE L (ns.getD 1 "") else
  if x = "cut" then (if srtE L (ns.getD 0 "") = "circle" then 5 * (wtE L (ns.getD 0 "") + wtE L (ns.getD 1 "")) else 2 * wtE L (ns.getD 0 "") + wtE L (ns.getD 1 "")) else
  if x = "round" ∨ x = "alike" then 2 * (ns.map (wtE L)).sum else (ns.map (wtE L)).sum
/-! ### tuples stay -/
def Kp (K : PySem.W.Frag) (H H' : Hp) : Prop := ∀ a xs, SqT K H a xs → SqT K H' a xs
theorem Kp.trans {K : PySem.W.Frag} {H H1 H2 : Hp} (a : Kp K H H1) (b : Kp K H1 H2) : Kp K H H2 := fun x xs h => b x xs (a x xs h)
theorem Kp.same {K : PySem.W.Frag} {H H' : Hp} (s : Same H H') : Kp K H H' := fun _ _ h => s.tp h
theorem Kp.but {K : PySem.W.Frag} {H H' : Hp} {p : Addr} {b : Int} (s : But p H H') (h : Pl H p b) : Kp K H H' := fun _ _ t => h.tup s t
theorem kp_set {K : PySem.W.Frag} {H : Hp} {p : Addr} {o o' : HO} (h : H p = some o) (n1 : ∀ xs, o ≠ .tup xs) (n2 : ∀ u v, o ≠ .frz u v) : Kp K H (upd H p o') := fun a xs t => by
  rcases t with (t | ⟨u, t⟩) | t
  · refine .inl (.inl ?_)
    rw [upd_ne (fun z => by rw [z, h] at t; exact n1 _ (Option.some.inj t))]
    exact t
  · refine .inl (.inr ⟨u, ?_⟩)
    rw [upd_ne (fun z => by rw [z, h] at t; exact n2 _ _ (Option.some.inj t))]
    exact t
  · exact .inr t
theorem kp_list {K : PySem.W.Frag} {H : Hp} {p : Addr} {xs : List V} {o' : HO} (h : H p = some (.lst xs)) : Kp K H (upd H p o') := kp_set h (fun _ z => by cases z) (fun _ _ z => by cases z)
theorem kp_dict {K : PySem.W.Frag} {H : Hp} {p : Addr} {kvs : List (Key × V)} {o' : HO} (h : H p = some (.dK kvs)) : Kp K H (upd H p o') := kp_set h (fun _ z => by cases z) (fun _ _ z => by cases z)
/-! ### makings, things, rows -/
/-- what follows the names of a making -/
def Tl (K : PySem.W.Frag) (H : Hp) (x : Str) (r : List V) : Prop :=
  (x = "free" ∧ ∃ (f g : Addr) (t u t' u' : Int), r = [.ref f, .ref g] ∧ SqT K H f [.int t, .int u] ∧ SqT K H g [.int t', .int u']) ∨
  (x = "share" ∧ ∃ (f : Addr) (t u : Int), r = [.ref f] ∧ SqT K H f [.int t, .int u]) ∨ (x = "cut" ∧ ∃ n : Int, r = [.int n]) ∨ (x ≠ "free" ∧ x ≠ "share" ∧ x ≠ "cut" ∧ r = [])
def Mk (K : PySem.W.Frag) (H : Hp) (m : Addr) (x : Str) (ns : List Str) : Prop := ∃ r : List V, SqT K H m (.str x :: (ns.map V.str ++ r)) ∧ Tl K H x r
abbrev Thing : Type := Str × Str × List Str
def Th (K : PySem.W.Frag) (H : Hp) (v : V) (t : Thing) : Prop := ∃ a m : Addr, v = .ref a ∧ SqT K H a [.str t.1, .ref m] ∧ Mk K H m t.2.1 t.2.2
theorem Tl.kp {K : PySem.W.Frag} {H H' : Hp} {x : Str} {r : List V} (h : Tl K H x r) (k : Kp K H H') : Tl K H' x r := by
  rcases h with ⟨e, f, g, t, u, t', u', er, h1, h2⟩ | ⟨e, f, t, u, er, h1⟩ | h | h
  · exact .inl ⟨e, f, g, t, u, t', u', er, k _ _ h1, k _ _ h2⟩
  · exact .inr (.inl ⟨e, f, t, u, er, k _ _ h1⟩)
  · exact .inr (.inr (.inl h))
  · exact .inr (.inr (.inr h))
theorem Mk.kp {K : PySem.W.Frag} {H H' : Hp} {m : Addr} {x : Str} {ns : List Str} (h : Mk K H m x ns) (k : Kp K H H') : Mk K H' m x ns := by
  obtain ⟨r, h1, h2⟩ := h
  exact ⟨r, k _ _ h1, h2.kp k⟩
def Rws (K : PySem.W.Frag) (H : Hp) (vs : List V) (ts : List Thing) : Prop := Paired (Th K H) vs ts
/-- the word is one of the table, with so many names; they are of the things so far -/
def Okm (x : Str) (ns : List Str) (L : Env) : Prop := (∃ (s : Str) (g : List Str), (x, s, g) ∈ wordsTab ∧ ns.length = g.length) ∧ ∀ z ∈ ns, z ∈ nmsE L ∧ Sok z
def sOf (x : Str) : Str := ((wordsTab.find? fun q => decide (q.1 = x)).map (·.2.1)).getD ""
theorem sOf_eq {x s : Str} {g : List Str} (h : (x, s, g) ∈ wordsTab) : sOf x = s := by
  have all : ∀ q ∈ wordsTab, sOf q.1 = q.2.1 := by decide +kernel
  exact all _ h
def envStep (L : Env) (t : Thing) : Env := L ++ [(t.1, sOf t.2.1, wOf t.2.1 t.2.2 L)]
def envOf : Env → List Thing → Env
  | L, [] => L
  | L, t :: r => envOf (envStep L t) r
def Vr : Env → List Thing → Prop
  | _, [] => True
  | L, t :: r => (t.1 ∉ nmsE L ∧ Sok t.1 ∧ Okm t.2.1 t.2.2 L ∧ 0 ≤ wOf t.2.1 t.2.2 L ∧ wOf t.2.1 t.2.2 L ≤ 40) ∧ Vr (envStep L t) r
/-- the two dicts of the things so far -/
structure Dc (H : Hp) (S W : Addr) (L : Env) : Prop where
  s : H S = some (.dK (sortsD L))
  w : H W = some (.dK (loadsD L))
  light : Light L
  few : L.length ≤ 100
  ne : S ≠ W
theorem Dc.same {H H' : Hp} {S W : Addr} {L : Env} (h : Dc H S W L) (k : Same H H') : Dc H' S W L := ⟨k _ _ h.s, k _ _ h.w, h.light, h.few, h.ne⟩
theorem Dc.but {H H' : Hp} {S W p : Addr} {L : Env} {b : Int} (h : Dc H S W L) (k : But p H H') (hp : Pl H p b) : Dc H' S W L := by
  obtain ⟨_, _, _, e, _⟩ := hp
  exact ⟨k _ _ (fun z => by have := h.s; rw [z, e] at this; cases this) h.s, k _ _ (fun z => by have := h.w; rw [z, e] at this; cases this) h.w, h.light, h.few, h.ne⟩
def spWeight (K : PySem.W.Frag) : Sp := fun vs H Q _ => ∃ (m S W : Addr) (x : Str) (ns : List Str) (L : Env), vs = [.ref m, .ref S, .ref W] ∧ Mk K H m x ns ∧ Okm x ns L ∧ Dc H S W L ∧ ∀ H', Same H H' → Q (.int (wOf x ns L)) H'
def spGroundsL (K : PySem.W.Frag) : Sp := fun vs H Q _ => ∃ (m : Addr) (x : Str) (ns : List Str) (L : Env), vs = [.ref m] ∧ Mk K H m x ns ∧ Okm x ns L ∧ ∀ (l : Addr) (H' : Hp), Same H H' → H l = none → H' l = some (.lst (ns.map V.str)) → Q (.ref l) H'
def spSortL (K : PySem.W.Frag) : Sp := fun vs H Q _ => ∃ (m : Addr) (x : Str) (ns : List Str) (L : Env), vs = [.ref m] ∧ Mk K H m x ns ∧ Okm x ns L ∧ ∀ H', Same H H' → Q (.str (sOf x)) H'
def spEnter (K : PySem.W.Frag) : Sp := fun vs H Q _ => ∃ (m S W : Addr) (z x : Str) (ns : List Str) (L : Env), vs = [.str z, .ref m, .ref S, .ref W] ∧ Mk K H m x ns ∧ Okm x ns L ∧ Dc H S W L ∧ z ∉ nmsE L ∧
  ∀ H', Kp K H H' → (∀ b o, b ≠ S → b ≠ W → H b = some o → H' b = some o) → H' S = some (.dK (sortsD (envStep L (z, x, ns)))) → H' W = some (.dK (loadsD (envStep L (z, x, ns)))) → Q .non H'
/-- sums of the loads -/
theorem r_dg {td ty : TE} {σ : St} {H : Hp} {Q : VK} (q : td σ H fun x H1 => ty σ H1 fun y H2 => ∃ a v, x = .ref a ∧ DGet H2 a y (some v) ∧ Q v H2) : tDGet td ty σ H Q := q
theorem r_dput {td ty tv : TE} {σ : St} {H : Hp} {D : Ends} (q : tv σ H fun v H1 => td σ H1 fun x H2 => ty σ H2 fun y H3 => ∃ a H4, x = .ref a ∧ DPut H3 a y v H4 ∧ D.nx σ H4) : sDPut td ty tv D σ H := q
theorem r_dputS {td ty tv : TE} {σ : St} {H : Hp} {D : Ends} {u : TS} (q : tv σ H fun v H1 => td σ H1 fun x H2 => ty σ H2 fun y H3 => ∃ a H4, x = .ref a ∧ DPut H3 a y v H4 ∧ u D σ H4) : tSeq (sDPut td ty tv) u D σ H := q
theorem r_inS {K : PySem.W.Frag} {H : Hp} {Q : VK} {a : Addr} {z : Str} {zs : List Str} (h : SqT K H a (zs.map V.str)) (q : Q (.bl (decide (z ∈ zs))) H) : rIn K false (.str z) (.ref a) H Q :=
  ⟨a, _, rfl, .inr h, rfl, by rw [List.all_map]; exact List.all_eq_true.mpr (fun _ _ => rfl), by rw [inV_str]; exact q⟩
theorem r_inSL {K : PySem.W.Frag} {H : Hp} {Q : VK} {a : Addr} {z : Str} {zs : List Str} (h : SqL K H a (zs.map V.str)) (q : Q (.bl (decide (z ∈ zs))) H) : rIn K false (.str z) (.ref a) H Q :=
  ⟨a, _, rfl, .inl h, rfl, by rw [List.all_map]; exact List.all_eq_true.mpr (fun _ _ => rfl), by rw [inV_str]; exact q⟩
theorem at_1 {a b : V} {r : List V} : atI (a :: b :: r) 1 = some b := atI_nat (j := 1) rfl
theorem at_2 {a b c : V} {r : List V} : atI (a :: b :: c :: r) 2 = some c := atI_nat (j := 2) rfl
theorem cut_tail {x : V} {ys : List V} : cutV (x :: ys) (some 1) none = ys := by
  unfold cutV
  have e1 : HT.sIx (x :: ys).length 0 (some 1) = 1 := by
    have := HT.sIx_nat (x :: ys).length 0 1
    rw [show (some (1 : Int)) = some (((1 : Nat) : Int)) from rfl, this]
    simp only [List.length_cons]
    omega
  have e2 : HT.sIx (x :: ys).length (x :: ys).length none = (x :: ys).length := rfl
  rw [e1, e2]
  simp
theorem Tl.nil {K : PySem.W.Frag} {H : Hp} {x : Str} {r : List V} (h : Tl K H x r) (h1 : x ≠ "free") (h2 : x ≠ "share") (h3 : x ≠ "cut") : r = [] := by
  rcases h with ⟨e, _⟩ | ⟨e, _⟩ | ⟨e, _⟩ | ⟨_, _, _, e⟩
  · exact absurd e h1
  · exact absurd e h2
  · exact absurd e h3
  · exact e
theorem two_of {x s : Str} {g : List Str} (h : (x, s, g) ∈ wordsTab) (c : x = "share" ∨ x = "cut" ∨ x = "foot" ∨ x = "mirror") : g.length = 2 := by
  have all : ∀ q ∈ wordsTab, (q.1 = "share" ∨ q.1 = "cut" ∨ q.1 = "foot" ∨ q.1 = "mirror") → q.2.2.length = 2 := by decide +kernel
  exact all _ h c
theorem pair_of {ns : List Str} (h : ns.length = 2) : ∃ a b, ns = [a, b] := by
  match ns, h with
  | [a, b], _ => exact ⟨a, b, rfl⟩
theorem sorts_of {x s : Str} {g : List Str} (h : (x, s, g) ∈ wordsTab) : (x ∈ (["line", "along", "upright"] : List Str) → s = "line") ∧ (x ∈ (["inline", "round", "alike", "beside", "square"] : List Str) → s = "claim") ∧ (x = "circle" → s = "circle") ∧ (x ∉ (["line", "along", "upright"] : List Str) → x ∉ (["inline", "round", "alike", "beside", "square"] : List Str) → x ≠ "circle" → s = "point") := by
  have all : ∀ q ∈ wordsTab, (q.1 ∈ (["line", "along", "upright"] : List Str) → q.2.1 = "line") ∧ (q.1 ∈ (["inline", "round", "alike", "beside", "square"] : List Str) → q.2.1 = "claim") ∧ (q.1 = "circle" → q.2.1 = "circle") ∧ (q.1 ∉ (["line", "along", "upright"] : List Str) → q.1 ∉ (["inline", "round", "alike", "beside", "square"] : List Str) → q.1 ≠ "circle" → q.2.1 = "point") := by decide +kernel
  exact all _ h
/-! ### comprehensions over a list -/
def lcL (K : PySem.W.Frag) (g : TG) (tt : TT) (te : TE) (vs : List Nat) (σ : St) (Q : VK) (x : V) (H1 : Hp) : Prop := ∃ a, x = .ref a ∧ (∃ xs, SqL K H1 a xs) ∧ ∀ D, H1 D = none → ∃ W : Nat → Nat → Hp → Prop, (∃ m, W 0 m (upd H1 D (.lst []))) ∧ ∀ i m H, W i m H →
  ((Itl K a).stop i H ∧ Q (.ref D) H) ∨ ((Itl K a).go i H ∧ ∃ Nx : Hp → Prop, (∀ H', Nx H' → ∃ m', m' < m ∧ W (i + 1) m' H') ∧ ∀ x H', (Itl K a).yld i H x H' → g x (wipe σ vs) H' fun σ2 H2 => wipe σ2 vs = wipe σ vs ∧ tt σ2 H2 fun b H3 =>
    if b = true then te σ2 H3 fun y H4 => ∃ acc, H4 D = some (.lst acc) ∧ acc.length < sizeLine ∧ Nx (upd H4 D (.lst (acc ++ [y]))) else Nx H3)
theorem r_lcM {K : PySem.W.Frag} {tl : TE} {g : TG} {tt : TT} {te : TE} {vs : List Nat} {σ : St} {H : Hp} {Q : VK} (q : tl σ H (lcL K g tt te vs σ Q)) : tLc (iList K tl) g tt te vs σ H Q := q
/-- a value of each item, nothing changed -/
theorem lc_map {K : PySem.W.Frag} {j : Nat} {te : TE} {σ : St} {Q : VK} {l : Addr} {xs : List V} {H : Hp} (F : V → V) (hl : SqL K H l xs) (few : xs.length ≤ 1000) (hσ : ∀ v, wipe ((wipe σ [j]).set j (some v)) [j] = wipe σ [j])
    (step : ∀ (i : Nat) (x : V) (H' : Hp), xs[i]? = some x → Same H H' → ∀ R : VK, (∀ H4, Same H' H4 → R (F x) H4) → te ((wipe σ [j]).set j (some x)) H' R)
    (fin : ∀ (D : Addr) (H' : Hp), Same H H' → H D = none → H' D = some (.lst (xs.map F)) → Q (.ref D) H') : lcL K (gName j) tYes te [j] σ Q (.ref l) H := by
  refine ⟨l, rfl, ⟨_, hl⟩, fun D hD => ?_⟩
  refine lc_list (xs := xs) (fun i H' => Same H H' ∧ H' D = some (.lst ((xs.take i).map F))) ⟨same_new hD _, by rw [List.take_zero]; exact upd_same⟩ (fun i H' _ h => h.1.seq hl) ?_ ?_
  · rintro i x H' hx ⟨g, d⟩
    have hi : i < xs.length := (List.getElem?_eq_some_iff.mp hx).1
    refine ⟨hσ x, ?_⟩
    refine r_yes ?_
    show te _ _ _
    refine step i x H' hx g _ fun H4 g4 => ?_
    refine ⟨_, g4 _ _ d, ?_, same_updS (g.trans g4) hD, ?_⟩
    · rw [List.length_map, List.length_take]
      exact Nat.lt_of_le_of_lt (Nat.min_le_left _ _) (Nat.lt_of_lt_of_le (show i < 1001 by omega) (by decide))
    · rw [List.take_succ, hx, Option.toList_some, List.map_append]
      exact upd_same
  · rintro H' ⟨g, d⟩
    rw [List.take_length] at d
    exact fin D H' g hD d
theorem sm_small {i : Int} (h : i.natAbs < 1000000) : Sm 64 i := Nat.lt_of_lt_of_le h (by decide)
theorem cm_small {i j : Int} (h : i.natAbs < 1000000) (h' : j.natAbs < 1000000) : CMulW i j := Sm.cmul (sm_small h) (sm_small h')
theorem sum_small {L : Env} (hL : Light L) : ∀ ns : List Str, 0 ≤ (ns.map (wtE L)).sum ∧ (ns.map (wtE L)).sum ≤ 40 * (ns.length : Int)
  | [] => by simp
  | n :: r => by
    obtain ⟨h1, h2⟩ := sum_small hL r
    obtain ⟨h3, h4⟩ := hL.wt n
    simp only [List.map_cons, List.sum_cons, List.length_cons, Int.natCast_add]
    omega
theorem envOf_append : ∀ (a b : List Thing) (L : Env), envOf L (a ++ b) = envOf (envOf L a) b
  | [], _, _ => rfl
  | t :: a, b, L => envOf_append a b (envStep L t)
theorem envOf_len : ∀ (a : List Thing) (L : Env), (envOf L a).length = L.length + a.length
  | [], _ => rfl
  | t :: a, L => by
    show (envOf (envStep L t) a).length = _
    rw [envOf_len a]
    unfold envStep
    simp only [List.length_append, List.length_cons, List.length_nil]
    omega
theorem Vr.light : ∀ (a : List Thing) (L : Env), Light L → Vr L a → Light (envOf L a)
  | [], _, h, _ => h
  | t :: a, L, h, ⟨h1, h2⟩ => Vr.light a _ (fun e he => by
      rcases List.mem_append.mp he with h' | h'
      · exact h e h'
      · rw [List.mem_singleton.mp h']
        exact ⟨h1.2.2.2.1, h1.2.2.2.2⟩) h2
theorem light0 : Light [] := fun _ h => by cases h
end Mb
namespace Mb
open PySem L2
/-! ### drawing a making: names by sort -/
structure By (H : Hp) (p B P Ln C Z : Addr) (pts lns crs cls : List Str) : Prop where
  b : H B = some (.dK [(.inr "point", .ref P), (.inr "line", .ref Ln), (.inr "circle", .ref C), (.inr "claim", .ref Z)])
  eP : H P = some (.lst (pts.map V.str))
  eL : H Ln = some (.lst (lns.map V.str))
  eC : H C = some (.lst (crs.map V.str))
  eZ : H Z = some (.lst (cls.map V.str))
  nP : P ≠ p
  nL : Ln ≠ p
  nC : C ≠ p
  nZ : Z ≠ p
  f : pts.length ≤ 100 ∧ lns.length ≤ 100 ∧ crs.length ≤ 100 ∧ cls.length ≤ 100
  nB : B ≠ p
theorem By.but {H H' : Hp} {p B P Ln C Z : Addr} {pts lns crs cls : List Str} (h : By H p B P Ln C Z pts lns crs cls) (k : But p H H') : By H' p B P Ln C Z pts lns crs cls :=
  ⟨k _ _ h.nB h.b, k _ _ h.nP h.eP, k _ _ h.nL h.eL, k _ _ h.nC h.eC, k _ _ h.nZ h.eZ, h.nP, h.nL, h.nC, h.nZ, h.f, h.nB⟩
def Fit (pts lns crs : List Str) (g z : Str) : Prop := (g = "point" ∧ z ∈ pts) ∨ (g = "line" ∧ z ∈ lns) ∨ (g = "circle" ∧ z ∈ crs) ∨ (g = "curve" ∧ (z ∈ lns ∨ z ∈ crs))
theorem fitP {pts lns crs : List Str} {z : Str} (h : z ∈ pts) : Fit pts lns crs "point" z := .inl ⟨rfl, h⟩
theorem fitL {pts lns crs : List Str} {z : Str} (h : z ∈ lns) : Fit pts lns crs "line" z := .inr (.inl ⟨rfl, h⟩)
theorem fitC {pts lns crs : List Str} {z : Str} (h : z ∈ crs) : Fit pts lns crs "circle" z := .inr (.inr (.inl ⟨rfl, h⟩))
theorem fitU {pts lns crs : List Str} {z : Str} (h : z ∈ lns ∨ z ∈ crs) : Fit pts lns crs "curve" z := .inr (.inr (.inr ⟨rfl, h⟩))
theorem pick_str {zs : List Str} {r : Int} (l : 0 ≤ r) (u : r < (zs.length : Int)) : ∃ z, atI (zs.map V.str) r = some (.str z) ∧ z ∈ zs := by
  obtain ⟨j, rfl⟩ : ∃ n : Nat, r = (n : Int) := ⟨r.toNat, by omega⟩
  have hj : j < zs.length := by omega
  exact ⟨zs[j], at_str hj, List.getElem_mem hj⟩
theorem word4 {i : Int} (h : i = 0 ∨ i = 2 ∨ i = 3) : ∃ x : Str, atI [V.str "middle", .str "share", .str "next", .str "turn"] i = some (.str x) ∧ (x, ("point" : Str), (["point", "point"] : List Str)) ∈ wordsTab ∧ x ≠ "free" ∧ x ≠ "share" ∧ x ≠ "cut" := by
  rcases h with rfl | rfl | rfl
  all_goals exact ⟨_, rfl, by decide +kernel, by decide +kernel, by decide +kernel, by decide +kernel⟩
theorem word4b {i : Int} (h : i = 0 ∨ i = 1 ∨ i = 2 ∨ i = 3) : ∃ x s : Str, atI [V.str "along", .str "upright", .str "foot", .str "mirror"] i = some (.str x) ∧ (x, s, (["point", "line"] : List Str)) ∈ wordsTab ∧ x ≠ "free" ∧ x ≠ "share" ∧ x ≠ "cut" := by
  rcases h with rfl | rfl | rfl | rfl
  · exact ⟨_, "line", rfl, by decide +kernel, by decide +kernel, by decide +kernel, by decide +kernel⟩
  · exact ⟨_, "line", rfl, by decide +kernel, by decide +kernel, by decide +kernel, by decide +kernel⟩
  · exact ⟨_, "point", rfl, by decide +kernel, by decide +kernel, by decide +kernel, by decide +kernel⟩
  · exact ⟨_, "point", rfl, by decide +kernel, by decide +kernel, by decide +kernel, by decide +kernel⟩
theorem word2 {i : Int} (h : i = 0 ∨ i = 1) : ∃ x : Str, atI [V.str "beside", .str "square"] i = some (.str x) ∧ (x, ("claim" : Str), (["line", "line"] : List Str)) ∈ wordsTab ∧ x ≠ "free" ∧ x ≠ "share" ∧ x ≠ "cut" := by
  rcases h with rfl | rfl
  all_goals exact ⟨_, rfl, by decide +kernel, by decide +kernel, by decide +kernel, by decide +kernel⟩
theorem word2b {i : Int} (h : i = 0 ∨ i = 1) : ∃ x : Str, atI [V.str "round", .str "alike"] i = some (.str x) ∧ (x, ("claim" : Str), (["point", "point", "point", "point"] : List Str)) ∈ wordsTab ∧ x ≠ "free" ∧ x ≠ "share" ∧ x ≠ "cut" := by
  rcases h with rfl | rfl
  all_goals exact ⟨_, rfl, by decide +kernel, by decide +kernel, by decide +kernel, by decide +kernel⟩
end Mb
namespace Mb
open PySem L2
/-! ### drawing a row -/
theorem wOf_nonneg {L : Env} (h : Light L) (x : Str) (ns : List Str) : 0 ≤ wOf x ns L := by
  have w := fun z => (h.wt z).1
  have s := (sum_small h ns).1
  have w0 := w (ns.getD 0 "")
  have w1 := w (ns.getD 1 "")
  unfold wOf
  split
  · decide
  split
  · omega
  split
  · split <;> omega
  split <;> omega
theorem wOf_free {L : Env} {ns : List Str} : wOf "free" ns L = 1 := by unfold wOf; rw [if_pos rfl]
structure All (K : PySem.W.Frag) (H H' : Hp) (p R B S W P Ln C Z : Addr) (c : Int) (us : List V) (ts : List Thing) (pts lns crs cls : List Str) : Prop where
  bt : But p H H'
  pl : Pl H' p c
  eR : H' R = some (.lst us)
  rw : Rws K H' us ts
  bi : By H' p B P Ln C Z pts lns crs cls
  dc : Dc H' S W (envOf [] ts)
  vr : Vr [] ts
  mem : ∀ z, (z ∈ pts ∨ z ∈ lns ∨ z ∈ crs) → z ∈ nmsE (envOf [] ts) ∧ Sok z
  ln : pts.length ≤ ts.length ∧ lns.length ≤ ts.length ∧ crs.length ≤ ts.length ∧ cls.length ≤ ts.length
theorem nms_step {L : Env} {t : Thing} : nmsE (envStep L t) = nmsE L ++ [t.1] := by
  unfold envStep nmsE
  rw [List.map_append]
  rfl
theorem srt_step {L : Env} {t : Thing} (h : t.1 ∉ nmsE L) : srtE (envStep L t) t.1 = sOf t.2.1 := by
  unfold srtE envStep
  rw [List.find?_append]
  have : L.find? (fun e => decide (e.1 = t.1)) = none := by
    rw [List.find?_eq_none]
    intro e he hd
    exact h (of_decide_eq_true hd ▸ List.mem_map.mpr ⟨e, he, rfl⟩)
  rw [this]
  simp
theorem sort4 {x s : Str} {g : List Str} (h : (x, s, g) ∈ wordsTab) : sOf x = "point" ∨ sOf x = "line" ∨ sOf x = "circle" ∨ sOf x = "claim" := by
  have all : ∀ q ∈ wordsTab, sOf q.1 = "point" ∨ sOf q.1 = "line" ∨ sOf q.1 = "circle" ∨ sOf q.1 = "claim" := by decide +kernel
  exact all _ h
theorem env_snoc {ts : List Thing} {t : Thing} : envOf [] (ts ++ [t]) = envStep (envOf [] ts) t := by rw [envOf_append]; rfl
theorem ne_kind {H : Hp} {a b : Addr} {xs : List V} {kvs : List (Key × V)} (h : H a = some (.lst xs)) (h' : H b = some (.dK kvs)) : a ≠ b := fun z => by rw [z, h'] at h; cases h
theorem r_prs {tk tv : TE} {r : List (TE × TE)} {σ : St} {H : Hp} {Q : List (V × V) → Hp → Prop} (q : tk σ H fun x H1 => tv σ H1 fun y H2 => tPairs r σ H2 fun ps H3 => Q ((x, y) :: ps) H3) : tPairs ((tk, tv) :: r) σ H Q := q
theorem r_prs0 {σ : St} {H : Hp} {Q : List (V × V) → Hp → Prop} (q : Q [] H) : tPairs [] σ H Q := q
end Mb
namespace Mb
open PySem L2
/-! ### rows as data; equality -/
theorem lay_app : ∀ {a b : List PyData}, PyData.canLayAll0 a = true → PyData.canLayAll0 b = true → PyData.canLayAll0 (a ++ b) = true
  | [], _, _, h => h
  | x :: a, b, h1, h2 => by
    unfold PyData.canLayAll0 at h1
    obtain ⟨h3, h4⟩ := Bool.and_eq_true_iff.mp h1
    show PyData.canLayAll0 (x :: (a ++ b)) = true
    unfold PyData.canLayAll0
    rw [h3, lay_app h4 h2]
    rfl
theorem dep_app : ∀ {a b : List PyData} {n : Nat}, PyData.depthAll a ≤ n → PyData.depthAll b ≤ n → PyData.depthAll (a ++ b) ≤ n
  | [], _, _, _, h => h
  | x :: a, b, n, h1, h2 => by
    unfold PyData.depthAll at h1
    show PyData.depthAll (x :: (a ++ b)) ≤ n
    unfold PyData.depthAll
    have := dep_app (a := a) (b := b) (n := n) (by omega) h2
    omega
theorem dpAll_app {K : PySem.W.Frag} {H : Hp} : ∀ {xs ys : List V} {ds es : List PyData}, DpAll K H xs ds → DpAll K H ys es → DpAll K H (xs ++ ys) (ds ++ es)
  | _, _, _, _, .nil, h => h
  | _, _, _, _, .cons a r, h => .cons a (dpAll_app r h)
theorem dp_two {K : PySem.W.Frag} {H : Hp} {f : Addr} {t u : Int} (h : SqT K H f [.int t, .int u]) : Dp K H (.ref f) (.tuple [.int t, .int u]) := .tup h (.cons (.int t) (.cons (.int u) .nil))
theorem Tl.dp {K : PySem.W.Frag} {H : Hp} {x : Str} {r : List V} (h : Tl K H x r) : ∃ ds, DpAll K H r ds ∧ PyData.canLayAll0 ds = true ∧ PyData.depthAll ds ≤ 10 := by
  rcases h with ⟨e, f, g, t, u, t', u', rfl, h1, h2⟩ | ⟨e, f, t, u, rfl, h1⟩ | ⟨_, n, rfl⟩ | ⟨_, _, _, rfl⟩
  · exact ⟨_, .cons (dp_two h1) (.cons (dp_two h2) .nil), rfl, by simp [PyData.depthAll, PyData.depth]⟩
  · exact ⟨_, .cons (dp_two h1) .nil, rfl, by simp [PyData.depthAll, PyData.depth]⟩
  · exact ⟨_, .cons (.int n) .nil, rfl, by simp [PyData.depthAll, PyData.depth]⟩
  · exact ⟨[], .nil, rfl, by decide⟩
theorem word_ok {x s : Str} {g : List Str} (h : (x, s, g) ∈ wordsTab) : PyData.strOk x = true := by
  have all : ∀ q ∈ wordsTab, PyData.strOk q.1 = true := by decide +kernel
  exact all _ h
theorem Th.dp {K : PySem.W.Frag} {H : Hp} {v : V} {t : Thing} {L : Env} (h : Th K H v t) (ok : Okm t.2.1 t.2.2 L) (sk : Sok t.1) : ∃ d, Dp K H v d ∧ PyData.canLay0 d = true ∧ PyData.depth d ≤ 20 := by
  obtain ⟨a, m, rfl, ta, r, tm, tl⟩ := h
  obtain ⟨⟨so, g, tx, _⟩, hz⟩ := ok
  obtain ⟨ds, d1, d2, d3⟩ := tl.dp
  obtain ⟨e1, e2⟩ := lay_strs t.2.2 fun z h => (hz z h).2.2
  have l1 := lay_app e1 d2
  have l2 : PyData.depthAll (t.2.2.map PyData.str ++ ds) ≤ 10 := dep_app (by omega) d3
  refine ⟨.tuple [.str t.1, .tuple (.str t.2.1 :: (t.2.2.map PyData.str ++ ds))], .tup ta (.cons (.str _) (.cons (.tup tm (.cons (.str _) (dpAll_app (dpAll_strs _) d1))) .nil)), ?_, ?_⟩
  · simp only [PyData.canLay0, PyData.canLayAll0, sk.2, word_ok tx, l1, Bool.and_self]
  · simp only [PyData.depth, PyData.depthAll]
    omega
theorem rows_dp {K : PySem.W.Frag} {H : Hp} : ∀ {us : List V} {ts : List Thing} {L : Env}, Rws K H us ts → Vr L ts → ∃ ds, DpAll K H us ds ∧ PyData.canLayAll0 ds = true ∧ PyData.depthAll ds ≤ 20
  | _, _, _, .nil, _ => ⟨[], .nil, rfl, by decide⟩
  | _, _, L, .cons h r, ⟨v1, v2⟩ => by
    obtain ⟨d, h1, h2, h3⟩ := h.dp v1.2.2.1 v1.2.1
    obtain ⟨ds, g1, g2, g3⟩ := rows_dp r v2
    refine ⟨d :: ds, .cons h1 g1, ?_, ?_⟩
    · unfold PyData.canLayAll0
      rw [h2, g2]
      rfl
    · unfold PyData.depthAll
      omega
theorem r_neRow {K : PySem.W.Frag} {H : Hp} {Q : VK} {a b : Addr} {us : List V} {ts : List Thing} (h1 : SqL K H a us) (h2 : SqL K H b us) (rw_ : Rws K H us ts) (vr : Vr [] ts) (k : Q (.bl false) H) : rNeD K (.ref a) (.ref b) H Q := by
  obtain ⟨ds, d1, d2, d3⟩ := rows_dp rw_ vr
  have sh : SeqAt.shaped (.list ds) = true := by
    have e1 : PyData.canLay0 (.list ds) = true := by unfold PyData.canLay0; exact d2
    have e2 : PyData.depth (.list ds) ≤ 64 := by unfold PyData.depth; omega
    unfold SeqAt.shaped
    rw [e1, decide_eq_true e2]
    rfl
  refine ⟨_, _, .lst h1 d1, .lst h2 d1, sh, sh, ?_⟩
  rw [SeqAt.eqv_refl _ (by unfold PyData.canLay0; exact d2)]
  exact k
end Mb
namespace Mb
open PySem L2
/-! ### names out of a row -/
/-! ### a dict as a set of names -/
theorem four {x s : Str} {g : List Str} (h : (x, s, g) ∈ wordsTab) : g.length ≤ 4 := by
  have all : ∀ q ∈ wordsTab, q.2.2.length ≤ 4 := by decide +kernel
  exact all _ h
theorem r_din {ty td : TE} {σ : St} {H : Hp} {Q : VK} (q : ty σ H fun y H1 => td σ H1 fun x H2 => ∃ a o, x = .ref a ∧ DGet H2 a y o ∧ Q (.bl o.isSome) H2) : tDIn ty td σ H Q := q
/-! ### the law's own part of a row: taken at its time, from the row's end -/
end Mb
namespace Mb
open PySem PySem.Spec PyProof.Rows L2 LamX NdefX
/-! ### a lambda with parameters, kept as a value -/
/-- the object at f is the lambda F (its body apart) -/
def LamO (f : Addr) (F : NF) (body : Expr) : HO := .ext fun h => ∃ (pm ctv : Value), h.get? f = some (PySem.W.kla_obj "<lambda>" F.qual F.params body F.scope F.cl pm F.c ctv)
theorem lamO_at {P : Program} {w : World} {H : Hp} {h : Heap} {f : Addr} {F : NF} {body : Expr} (hok : HOk P w H h) (e : H f = some (LamO f F body)) : ∃ (pm ctv : Value), h.get? f = some (PySem.W.kla_obj "<lambda>" F.qual F.params body F.scope F.cl pm F.c ctv) := by
  obtain ⟨z, _, _⟩ := hok f _ e
  exact z
section
variable {X : Cx} {pins : List (Addr × Obj)} {σ : L2.St} {H : Hp} {s : Shared}
theorem inv_lam {F : NF} {body : Expr} {o : Obj} {t' : Nat} {pm ctv : Value} (I : Inv X pins σ H s) (ho : o = PySem.W.kla_obj "<lambda>" F.qual F.params body F.scope F.cl pm F.c ctv) :
    Inv X pins σ (upd H s.heap.objs.size (LamO s.heap.objs.size F body)) { s with heap := s.heap.push o, toks := t' } := by
  subst ho
  refine I.laid (a := s.heap.objs.size) (fun b u e => Heap.get?_push_of_some _ e) (Nat.le_refl _) ?_
  have e : (s.heap.push (PySem.W.kla_obj "<lambda>" F.qual F.params body F.scope F.cl pm F.c ctv)).get? s.heap.objs.size = some (PySem.W.kla_obj "<lambda>" F.qual F.params body F.scope F.cl pm F.c ctv) := Heap.get?_push_size _ rfl
  exact ⟨⟨pm, ctv, e⟩, ⟨_, e⟩, fun h1 h2 ⟨p, t, z⟩ st => ⟨p, t, st _ z⟩⟩
theorem lam_makeT {T : List (Addr × Str)} {c P : Addr} {params : Arguments} {body : Expr} {scope : Scope} {pos : Pos} {E : Value → Shared → Prop} {Q : Value → Shared → Prop} (I : Inv X pins σ H s) (TB : TabB X.base X.mg c P) (hcode : X.env.code = .ref c)
    (hm : (P, X.env.qual ++ "<lambda>") ∈ T) (hu : ∀ p ∈ T, p.1 = P → p.2 = X.env.qual ++ "<lambda>") (hT : Tabs T H) (hdef : defaultsOf params X.env = ([], [])) (hfree : ∀ y ∈ scope.names, y.2 = .free → ∃ c, X.env.cells.lookup y.1 = some c)
    (h : ∀ (f c' : Addr) (H1 : Hp) (s' : Shared), Inv X pins σ H1 s' → ExtN H H1 → (∀ b, H1 b = Option.none → H b = Option.none) → Tabs T H1 → H f = none → H1 f = some (LamO f ⟨"<lambda>", X.env.qual ++ "<lambda>", params, [], scope, cloFrom X.env.cells scope.names [], c'⟩ body) → H1 c' = some (CodeO c' (X.env.qual ++ "<lambda>")) → Q (.ref f) s') :
    wpAny (model X.prog X.w) X.A (eval (.Lambda params body scope pos) X.env) Q E s := by
  obtain ⟨ps, hP, ht, ha⟩ := hT _ hm
  refine PySem.W.kla_eval hdef ?_
  have bP : s.heap.BuiltinsAt X.mg P := TB.bm.keeps I.bk
  have hP' : s.heap.get? P = some { cls := .none, data := .fields ps } := I.hok P _ hP
  cases hc : codeAmong pos ps.toList with
  | none =>
    refine PySem.W.kla_makeFunction (mg := X.mg) (c := c) (P := P) (ps := ps) (closure_ok hfree) I.ok.glob (I.mod.glob.keeps I.bk) hcode (TB.code.keeps I.bk) hP' ht hc TB.gP bP fun c' ctv h' tk hx hge hlt hrec htb => ?_
    obtain ⟨c2, oc, vs, t, e2, hoc, hd, hv⟩ := hrec
    cases e2
    have nC : H c' = none := I.hok.fresh hge
    have I1 := inv_table (t' := tk) (more := #[rawInt pos.line, rawInt pos.col, .ref c']) (h' := h') I hP (fun b o hb e => hx b o hb e) htb hge ⟨oc, vs, t, hoc, hd, hv⟩
    have hE : ExtN H (upd (upd H P (.tbl (ps ++ #[rawInt pos.line, rawInt pos.col, .ref c']))) c' (CodeO c' (X.env.qual ++ "<lambda>"))) := fun b o e n => by
      rw [upd_ne (ne_of_none e nC), upd_ne (fun z => n ps (Option.some.inj (e.symm.trans (by rw [z]; exact hP))))]
      exact e
    have eL : (ps ++ #[rawInt pos.line, rawInt pos.col, .ref c']).toList = ps.toList ++ [rawInt pos.line, rawInt pos.col, .ref c'] := by simp
    have T1 : Tabs T (upd (upd H P (.tbl (ps ++ #[rawInt pos.line, rawInt pos.col, .ref c']))) c' (CodeO c' (X.env.qual ++ "<lambda>"))) := fun p hp => by
      by_cases hb : p.1 = P
      · rw [hu p hp hb, hb]
        refine ⟨_, by rw [upd_ne (ne_of_none hP nC), upd_same], by rw [eL]; exact PySem.TriplesOk_snoc _ _ _ _ ht, fun p' cv hcv => ?_⟩
        rw [eL] at hcv
        rcases among_app _ ht hcv with z | z
        · obtain ⟨c0, e1, e2⟩ := ha p' cv z
          exact ⟨c0, e1, hE _ _ e2 codeO_ne⟩
        · exact ⟨c', z, upd_same⟩
      · obtain ⟨ps', a1, a2, a3⟩ := hT p hp
        refine ⟨ps', by rw [upd_ne (ne_of_none a1 nC), upd_ne hb]; exact a1, a2, fun p' cv hcv => ?_⟩
        obtain ⟨c0, e1, e2⟩ := a3 p' cv hcv
        exact ⟨c0, e1, hE _ _ e2 codeO_ne⟩
    have nF := I1.hok.fresh (Nat.le_refl _)
    have I2 := inv_lam (F := ⟨"<lambda>", X.env.qual ++ "<lambda>", params, [], scope, cloFrom X.env.cells scope.names [], c'⟩) (body := body) (t' := tk) (pm := (X.mg "__name__").getD .none) (ctv := ctv) I1 rfl
    refine h h'.objs.size c' _ _ I2 (fun b o e n => ?_) (fun b e => upd_none (upd_none (upd_none e))) (T1.ext fun b o e => ?_) (I.hok.fresh (Nat.le_trans hge (Nat.le_of_lt hlt))) upd_same ?_
    · have e1 := hE b o e n
      exact (upd_ne (ne_of_none e1 nF)).trans e1
    · exact (upd_ne (ne_of_none e nF)).trans e
    · exact (upd_ne (Nat.ne_of_lt hlt)).trans upd_same
  | some cv =>
    obtain ⟨c', e, hco⟩ := ha pos cv hc
    subst e
    refine PySem.W.kla_makeFunctionHit (mg := X.mg) (c := c) (P := P) (ps := ps) (closure_ok hfree) I.ok.glob (I.mod.glob.keeps I.bk) hcode (TB.code.keeps I.bk) hP' ht hc bP fun ctv h' tk hx hsz => ?_
    have I1 : Inv X pins σ H { s with heap := h', toks := tk } := I.kept hx
    have nF : H h'.objs.size = none := I1.hok.fresh (Nat.le_refl _)
    have I2 := inv_lam (F := ⟨"<lambda>", X.env.qual ++ "<lambda>", params, [], scope, cloFrom X.env.cells scope.names [], c'⟩) (body := body) (t' := tk) (pm := (X.mg "__name__").getD .none) (ctv := ctv) I1 rfl
    refine h h'.objs.size c' _ _ I2 (fun b o e n => ?_) (fun b e => upd_none e) (hT.ext fun b o e => ?_) nF upd_same ?_
    · exact (upd_ne (ne_of_none e nF)).trans e
    · exact (upd_ne (ne_of_none e nF)).trans e
    · exact (upd_ne (ne_of_none hco nF)).trans hco
end
/-- a call of it -/
theorem lam_run {CX : CXT} {P : Program} {w : World} {K : PySem.W.Frag} {mg : Str → Option Value} {base : Heap} {N ps fr : List Str} {F : NF} {body : Expr} {f : Addr} {k : Nat} (S : NScope N ps fr F.scope)
    (hb : ∀ (pm ctv : Value) (us : List Value), us.length = ps.length → bindArgs (PySem.W.kla_fn "<lambda>" F.qual F.params body F.scope F.cl pm (.ref F.c) ctv) ⟨us, []⟩ = pure (ps.zip us))
    {A : Around} {outer : List PySem.Env} {s : Shared} {H : Hp} {us : List Value} {vs : List V} {ws : List (Option V)} {Q : VK} {E : XK} {tb : TE} (hr : Room (k + 1) A) (e0 : Env0 P w K mg base A outer s H) (hf : H f = some (LamO f F body)) (hc : H F.c = some (CodeO F.c F.qual))
    (C : CellsAt F.cl fr ws s.heap H) (r : Vals vs us) (hl : vs.length = ps.length)
    (hbody : Room k (A.deeper (envF F f s.heap.objs.size)) → PE (ncx CX P w K mg base N F f A outer s H E) body tb) (q : tb (startF N vs ws) H Q) : codeAny (model P w) A (.call (.ref f) ⟨us, []⟩) (CR CX outer P w H s Q E) s := by
  have lim : s.heap.NoLimit := e0.mod.nolimit.keeps fun b o e => (e0.bs b o e).1
  obtain ⟨pm, ctv, ho⟩ := lamO_at e0.hok hf
  refine PySem.W.kla_callFunE hr.depth ho rfl S.co S.gen rfl (codeO_at e0.hok hc) ?_
  rw [hb pm ctv us (by rw [← r.length]; exact hl)]
  refine wpAny_pure (wpAny_newFunctionEnv S.nocell (fun ⟨n, _⟩ hy => S.par n (List.of_mem_zip hy).1) (fun h₁ hns hsb => ⟨lim.fresh _ hsb, ?_⟩) S.kind)
  show codeAny _ _ (.expr body (envF F f s.heap.objs.size)) _ _
  have kp : ∀ b o, s.heap.get? b = some o → h₁.get? b = some o := fun b o e => hsb.extBut b o (Nat.ne_of_lt (Heap.lt_size e)) (Heap.get?_push_of_some _ e)
  have I : Inv (ncx CX P w K mg base N F f A outer s H E) [] (startF N vs ws) H { s with heap := h₁, toks := s.toks + (ps.zip us).length } := inv_startN S hr.hd e0 hl r C hns kp
  refine PySem.W.kla_codeExpr (wpAny_mono ((hbody (hr.deeper _)).run [] _ (startF N vs ws) H Q I q) (fun v s' hq => ?_) fun e s' hq => hq)
  obtain ⟨w', H', J', rv, q⟩ := hq
  exact ⟨w', H', J'.os, J'.bare, J'.base, J'.hok, rv, q⟩
end Mb
namespace Mb
open PySem PySem.Spec PyProof.Rows L2 LamX NdefX
/-! ### min(xs, key=lambda a: ..) -/
section
variable {X : Cx} {pins : List (Addr × Obj)} {σ : L2.St} {H : Hp} {s : Shared}
/-- untracked records of ours have turned -/
theorem turned_all {ch : List Addr} {h' : Heap} {t' : Nat} (I : Inv X pins σ H s) (k : ∀ b o, b ∉ ch → s.heap.get? b = some o → h'.get? b = some o) (hf : ∀ b ∈ ch, FpOk X pins H b) : Inv X pins σ H { s with heap := h', toks := t' } := by
  have nit : ∀ b u, H b = some u → b ∉ ch := fun b u e z => by rw [(hf b z).1] at e; cases e
  refine I.step (g' := s.gens) (d' := s.drawn) (ch := ch) (fun b hb => ?_) (fun b o _ _ hc e _ => k b o hc e) (fun b o _ _ hc e _ => ⟨o.slots, k b o hc e⟩) (fun _ _ _ _ n => n)
    (fun b o hc e => ⟨o, k b o hc e⟩) (fun _ _ e => e) (fun _ _ _ e => e) (fun b ps e => ⟨#[], by rw [e]; simp⟩) (fun m hm => ?_) (fun b u e => ?_) I.bare
  · obtain ⟨_, h1, _, h3, h4, h5⟩ := hf b hb
    exact ⟨h3, h1, h4, h5⟩
  · obtain ⟨o, es, ep, ho, r⟩ := hm
    exact ⟨o, es, ep, k _ o (fun z => (hf _ z).2.1 rfl) ho, r⟩
  · refine (I.hok b u e).stay (fun c v hc q => k c v ?_ q) (fun _ q => q) fun _ _ q => q
    rcases hc with z | z
    · rw [z]; exact nit b u e
    · exact nit c _ z
theorem vals_refs : ∀ {xs : List V} {us ws : List Value}, (∀ v ∈ xs, ∃ a, v = V.ref a) → Vals xs us → Vals xs ws → us = ws
  | [], _, _, _, .nil, .nil => rfl
  | _ :: _, _, _, h, .cons a r, .cons b t => by
    obtain ⟨p, e⟩ := h _ List.mem_cons_self
    subst e
    cases a
    cases b
    rw [vals_refs (fun v hv => h v (List.mem_cons_of_mem _ hv)) r t]
theorem call_minL {N ps fr : List Str} {js : List Nat} {F : NF} {body : Expr} {f l : Addr} {k : Nat} {xs : List V} {tb : TE} {Q : Value → Shared → Prop} {E : Value → Shared → Prop} (hc : X.calm = true) (hr : Room (k + 2) X.A) (S : NScope N ps fr F.scope) (hp1 : ps.length = 1)
    (hb : ∀ (pm ctv : Value) (us : List Value), us.length = ps.length → bindArgs (PySem.W.kla_fn "<lambda>" F.qual F.params body F.scope F.cl pm (.ref F.c) ctv) ⟨us, []⟩ = pure (ps.zip us))
    (Cp : Caps X F.cl fr js) (I : Inv X pins σ H s) (hl : SqL X.K H l xs) (hxs : ∀ v ∈ xs, ∃ a, v = V.ref a) (ne : 0 < xs.length) (hf : H f = some (LamO f F body)) (hcd : H F.c = some (CodeO F.c F.qual)) (key : Nat → Int)
    (hbody : ∀ (A : Around) (outer : List PySem.Env) (s : Shared), Room k (A.deeper (envF F f s.heap.objs.size)) → PE (ncx C8.CX0 X.prog X.w X.K X.mg X.base N F f A outer s H C8.E0) body tb)
    (hk : ∀ i v, xs[i]? = some v → tb (startF N [v] (js.map (slotAt σ))) H fun y H' => y = .int (key i) ∧ H' = H)
    (hQ : ∀ i v u s', xs[i]? = some v → RelV v u → (∀ j, j < xs.length → key i ≤ key j) → Inv X pins σ H s' → Q u s') :
    wpAny (model X.prog X.w) X.A (call (.builtin "min") [.ref l] [(Str.ofString "key", .ref f)]) Q E s := by
  obtain ⟨its, rv, p, hz⟩ := I.list hl
  have hln : xs.length = its.length := rv.length
  have hls := p.isList
  obtain ⟨ol, hol, _⟩ := id hls
  have hll : l < s.heap.objs.size := Heap.lt_size hol
  refine call_min_walkK (wpAny_pyIter_list hls ?_)
  have hlI : l ≠ s.heap.objs.size := Nat.ne_of_lt hll
  have W := (Walks.list (prog := X.prog) (w := X.w) (A := X.A.in1) (I.ok.hd hc) s.heap.objs.size l hlI its.toArray).toS
  have oI : (s.heap.push { cls := .type "list_iterator", data := .fields #[.ref l, .int 0 0] }).get? s.heap.objs.size = some { cls := .type "list_iterator", data := .fields #[.ref l, .int 0 0] } := Heap.get?_push_size _ rfl
  have I1 : Inv X pins σ H { s with heap := s.heap.push { cls := .type "list_iterator", data := .fields #[.ref l, .int 0 0] } } := I.kept (t' := s.toks) fun b o q => Heap.get?_push_of_some _ q
  have fI : FpOk X pins H s.heap.objs.size := I.fpOk (Nat.le_refl _) (I.hok.fresh (Nat.le_refl _))
  obtain ⟨s2, hs2⟩ : ∃ s2 : Shared, s2 = { s with heap := s.heap.push { cls := .type "list_iterator", data := .fields #[.ref l, .int 0 0] } } := ⟨_, rfl⟩
  rw [← hs2] at I1 ⊢
  have oI2 : s2.heap.get? s.heap.objs.size = some { cls := .type "list_iterator", data := .fields #[.ref l, .int 0 0] } := by rw [hs2]; exact oI
  have hls2 : s2.heap.IsList l its.toArray := by rw [hs2]; exact hls.extBut (b := s2.heap.objs.size) (fun b o _ e => Heap.get?_push_of_some _ e) (by rw [hs2]; exact Nat.ne_of_lt (Nat.lt_of_lt_of_le hll (by show _ ≤ (s.heap.push _).objs.size; rw [Heap.size_push]; omega)))
  have fS : FpOk X pins H s2.heap.objs.size := I1.fpOk (Nat.le_refl _) (I1.hok.fresh (Nat.le_refl _))
  have hIlt : s.heap.objs.size < s2.heap.objs.size := by rw [hs2]; show _ < (s.heap.push _).objs.size; rw [Heap.size_push]; omega
  clear oI hs2
  generalize s.heap.objs.size = II at *
  have nfr : ∀ {b : Addr}, FpOk X pins H b → ∀ {s1 : Shared}, Inv X pins σ H s1 → b ∉ frs X.stack := fun {b} fb {s1} J z => by
    rcases List.mem_cons.mp (J.stkSub _ z) with e | e
    · exact fb.2.1 e
    · exact fb.2.2.1 e
  have hsz : its.toArray.size = xs.length := by rw [hln]; simp
  refine ⟨II, [II, l], [II], _, its.toArray.size, _, _, fun s' => Inv X pins σ H s', fun i kv _ => ∃ t, kv = .int (key i) t, fun i j => decide (key i < key j), rfl, W, ⟨⟨_, oI2, rfl, rfl⟩, hls2⟩, fun b hb => ?_, by rw [hsz]; exact ne, ?_, I1, fun v s' hP J => ?_⟩
  · rcases List.mem_cons.mp hb with rfl | hb
    · exact hIlt
    · rw [List.mem_singleton.mp hb]
      obtain ⟨o, ho, _⟩ := hls2
      exact Heap.lt_size ho
  · refine ⟨fun s1 s' J hm => ?_, fun _ _ _ _ h _ => h, fun i v s1 o Q' E' hi hP J st hS cont => ?_, fun i j ki kj s1 Q' E' _ h1 h2 q => ?_⟩
    · rw [Moved.eq_with hm]
      exact turned_all (ch := s2.heap.objs.size :: [II]) J (fun b o hb e => hm.heap b o hb e) fun b hb => by
        rcases List.mem_cons.mp hb with rfl | hb
        · exact fS
        · rw [List.mem_singleton.mp hb]; exact fI
    · rw [hsz] at hi
      have hx : xs[i]? = some xs[i] := List.getElem?_eq_getElem hi
      obtain ⟨u, hu, ru⟩ := rv.get hx
      have ev : u = v := by
        have hP' : its[i]? = some v := by simpa using hP
        rw [hu] at hP'
        exact Option.some.inj hP'
      subst ev
      have e0 : Env0 X.prog X.w X.K X.mg X.base X.A.in1 X.stack s1 H := by
        have e := J.env0
        exact ⟨e.frames, e.mod, e.bs, e.bsz, e.funs, e.frf, e.hok, e.bare⟩
      refine wpAny_call (codeAny_mono (lam_run S hb hr.in1 e0 hf hcd (cells_of J Cp) (.cons ru .nil) (by rw [hp1]; rfl) (fun hr' => hbody _ _ s1 hr') (hk i _ hx)) fun r s' hq => ?_)
      cases r with
      | error e => exact (show False from hq).elim
      | ok fl =>
        cases fl with
        | ret w1 =>
          have hq' : CE X.stack X.prog X.w H s1 (fun y H' => y = .int (key i) ∧ H' = H) w1 s' := hq
          obtain ⟨y, H', J', ry, rfl, rfl⟩ := J.after hq'
          obtain ⟨_, _, _, _, un, _, _, _, rfl⟩ := hq'
          obtain ⟨⟨oi, hoi, hoc⟩, hli⟩ := st
          obtain ⟨t, rfl⟩ := ry
          refine cont _ s' J' ⟨⟨oi, un.keep _ _ hoi fI.1 (nfr fI J) (by simp), hoc⟩, ?_⟩ (un.keep _ _ hS fS.1 (nfr fS J) (by simp)) ⟨t, rfl⟩ fun _ _ h => h
          obtain ⟨its2, rv2, p2, _⟩ := J'.list hl
          rw [vals_refs hxs rv rv2]
          exact p2.isList
        | next => exact False.elim hq
        | brk => exact False.elim hq
        | cont => exact False.elim hq
    · exact CmpOf.ints_lt (prog := X.prog) (w := X.w) (A := X.A.in1) (P := fun i v => ∃ t, v = .int (key i) t) key (fun i v h => h) i j _ _ _ _ _ h1 h2 q
  · obtain ⟨b1, b2⟩ := argBest_lt key (its.toArray.size - 1)
    have hi : argBest (fun i j => decide (key i < key j)) (its.toArray.size - 1) < xs.length := by omega
    have hx : xs[argBest (fun i j => decide (key i < key j)) (its.toArray.size - 1)]? = some _ := List.getElem?_eq_getElem hi
    obtain ⟨u, hu, ru⟩ := rv.get hx
    have ev : u = v := by
      have hP' : its[argBest (fun i j => decide (key i < key j)) (its.toArray.size - 1)]? = some v := by simpa using hP
      rw [hu] at hP'
      exact Option.some.inj hP'
    subst ev
    exact hQ _ _ _ s' hx ru (fun j hj => b2 j (by omega)) J
end
end Mb
namespace Mb
open PySem PySem.Spec PyProof.Rows L2 LamX NdefX
/-- the lambda as the def at hand makes it -/
abbrev mkL (X : Cx) (params : Arguments) (scope : Scope) (c' : Addr) : NF := ⟨"<lambda>", X.env.qual ++ "<lambda>", params, [], scope, cloFrom X.env.cells scope.names [], c'⟩
def tLamE (X : Cx) (T : List (Addr × Str)) (params : Arguments) (body : Expr) (scope : Scope) : TE := fun _ H Q => Tabs T H ∧ ∀ (f c' : Addr) (H1 : Hp), ExtN H H1 → (∀ b, H1 b = Option.none → H b = Option.none) → Tabs T H1 → H f = none → H1 f = some (LamO f (mkL X params scope c') body) → H1 c' = some (CodeO c' (X.env.qual ++ "<lambda>")) → Q (.ref f) H1
def tMinL (X : Cx) (T : List (Addr × Str)) (N : List Str) (js : List Nat) (tb : TE) (t : TA) : TE := fun σ H Q => t σ H fun vs H1 => ∃ l xs, vs = [V.ref l] ∧ Tabs T H1 ∧ ∀ H2, ExtN H1 H2 → (∀ b, H2 b = Option.none → H1 b = Option.none) → Tabs T H2 →
  SqL X.K H2 l xs ∧ (∀ v ∈ xs, ∃ a, v = V.ref a) ∧ 0 < xs.length ∧ ∃ key : Nat → Int, (∀ i v, xs[i]? = some v → tb (startF N [v] (js.map (slotAt σ))) H2 fun y H' => y = .int (key i) ∧ H' = H2) ∧ ∀ i v, xs[i]? = some v → (∀ j, j < xs.length → key i ≤ key j) → Q v H2
section
variable {X : Cx}
theorem pe_lam {T : List (Addr × Str)} {c P : Addr} {params : Arguments} {body : Expr} {scope : Scope} {pos : Pos} (TB : TabB X.base X.mg c P) (hcode : X.env.code = .ref c) (hm : (P, X.env.qual ++ "<lambda>") ∈ T) (hu : ∀ p ∈ T, p.1 = P → p.2 = X.env.qual ++ "<lambda>") (hdef : defaultsOf params X.env = ([], []))
    (hfree : ∀ y ∈ scope.names, y.2 = .free → X.env.scope.names.lookup y.1 = some .cell ∨ X.env.scope.names.lookup y.1 = some .free) : PE X (.Lambda params body scope pos) (tLamE X T params body scope) := by
  refine ⟨fun pins s σ H Q I h => ?_⟩
  obtain ⟨hT, h⟩ := h
  have hfr : ∀ y ∈ scope.names, y.2 = .free → ∃ c, X.env.cells.lookup y.1 = some c := fun y hy e => (hfree y hy e).elim (fun z => I.ok.has _ (.inl z)) fun z => I.ok.has _ (.inr z)
  refine lam_makeT I TB hcode hm hu hT hdef hfr fun f c' H1 s' I1 eN nn T1 f0 f1 c1 => ?_
  exact ⟨.ref f, H1, I1, rfl, h f c' H1 eN nn T1 f0 f1 c1⟩
theorem pe_minL {T : List (Addr × Str)} {c P : Addr} {params : Arguments} {body e : Expr} {scope : Scope} {p lpos kpos pos : Pos} {N ps fr : List Str} {js : List Nat} {tb : TE} {t : TA} {k : Nat} (hc : X.calm = true) (hr : Room (k + 2) X.A) (hg : Gl X "min") (hmn : X.mg "min" = none) (hv : bootBuiltins "min" = some (.builtin "min")) (ha : PA X [e] t)
    (TB : TabB X.base X.mg c P) (hcode : X.env.code = .ref c) (hm : (P, X.env.qual ++ "<lambda>") ∈ T) (hu : ∀ p ∈ T, p.1 = P → p.2 = X.env.qual ++ "<lambda>") (hdef : defaultsOf params X.env = ([], []))
    (hfree : ∀ y ∈ scope.names, y.2 = .free → X.env.scope.names.lookup y.1 = some .cell ∨ X.env.scope.names.lookup y.1 = some .free) (S : NScope N ps fr scope) (hp1 : ps.length = 1)
    (hb : ∀ (q : Str) (cl : List (Str × Addr)) (pm cv ctv : Value) (us : List Value), us.length = ps.length → bindArgs (PySem.W.kla_fn "<lambda>" q params body scope cl pm cv ctv) ⟨us, []⟩ = pure (ps.zip us))
    (hfr : ∀ y ∈ fr, (y, NameKind.free) ∈ scope.names) (hjs : js.map (fun j => X.N[j]?) = fr.map some)
    (hbody : ∀ (c' f : Addr) (A : Around) (outer : List PySem.Env) (s : Shared) (H : Hp), Room k (A.deeper (envF (mkL X params scope c') f s.heap.objs.size)) → PE (ncx C8.CX0 X.prog X.w X.K X.mg X.base N (mkL X params scope c') f A outer s H C8.E0) body tb)
    (he : backTo pos (starEach [e] X.env) = (false, eval e X.env) :: backTo pos (starEach [] X.env) := by rfl) (hpl : (backTo pos (starEach [e] X.env)).any (·.1) = false := by rfl)
    (hall : (backToKw pos (keywordEach [⟨some "key", .Lambda params body scope lpos, kpos⟩] X.env)).all (·.1.isSome) = true := by rfl) (hnone : (backToKw pos (keywordEach [⟨some "key", .Lambda params body scope lpos, kpos⟩] X.env)).any (·.1.isNone) = false := by rfl) (hks : (backToKw pos (keywordEach [⟨some "key", .Lambda params body scope lpos, kpos⟩] X.env)).filterMap (·.1) = [("key" : Str)] := by rfl) :
    PE X (.Call (.Name "min" p) [e] [⟨some "key", .Lambda params body scope lpos, kpos⟩] pos) (tMinL X T N js tb t) := by
  refine ⟨fun pins s σ H Q I h => ?_⟩
  refine wpAny_Call_Name_kw (ld_blt I hg hmn hv ?_)
  have hk : PK X [⟨some "key", .Lambda params body scope lpos, kpos⟩] (tCons (tLamE X T params body scope) tNil) := pk_cons (pe_lam TB hcode hm hu hdef hfree) pk_nil
  refine PyProof.Rows.callWith_kw (thn (ha.run pos pins s σ H _ I h) fun us s1 ⟨vs, H1, I1, r1, l, xs, ev, hT, q1⟩ => ?_) he hpl hall hnone
  subst ev
  refine thn (hk.run pos pins s1 σ H1 (fun zs H2 => ∃ f c', zs = [V.ref f] ∧ ExtN H1 H2 ∧ (∀ b, H2 b = Option.none → H1 b = Option.none) ∧ Tabs T H2 ∧ H2 f = some (LamO f (mkL X params scope c') body) ∧ H2 c' = some (CodeO c' (X.env.qual ++ "<lambda>"))) I1 ⟨hT, fun f c' H2 eN nn T2 f0 f1 c1 => ⟨f, c', rfl, eN, nn, T2, f1, c1⟩⟩) fun ws s2 ⟨zs, H2, I2, r2, f, c', ez, eN, nn, T2, f1, c1⟩ => ?_
  subst ez
  obtain ⟨h1, h2, h3, key, h4, h5⟩ := q1 H2 eN nn T2
  obtain ⟨w1, rfl, rw1⟩ := vals1 r1
  obtain ⟨w2, rfl, rw2⟩ := vals1 r2
  cases rw1
  cases rw2
  rw [hks]
  exact call_minL (F := mkL X params scope c') hc hr S hp1 (fun pm ctv us hu => hb _ _ pm _ ctv us hu) (Caps.made I2.ok hfree hfr hjs) I2 h1 h2 h3 f1 c1 key (fun A outer s hr' => hbody c' f A outer s H2 hr') h4 fun i v u s' hx ru hmin J => ⟨v, H2, J, ru, h5 i v hx hmin⟩
end
end Mb
namespace Mb
open PySem PySem.Spec PyProof.Rows L2
/-! ### match over texts -/
structure PM (X : Cx) (cs : List MatchCase) (t : V → TS) : Prop where
  run : ∀ (pins : List (Addr × Obj)) (s : Shared) (σ : L2.St) (H : Hp) (D : Ends) (v : V) (u : Value) (first : Bool), Inv X pins σ H s → RelV v u → t v D σ H → wpAny (model X.prog X.w) X.A (matchCases cs X.env u first) (SP X pins D) X.xe s
def tCaseN : V → TS := fun _ D σ H => D.nx σ H
def tCase (te : TE) (tb : TS) (tr : V → TS) : V → TS := fun v D σ H => te σ H fun x H1 => ∃ z y : Str, v = .str z ∧ x = .str y ∧ if decide (z = y) = true then tb D σ H1 else tr v D σ H1
def tMatch (ts : TE) (tc : V → TS) : TS := fun D σ H => ts σ H fun v H1 => tc v D σ H1
section
variable {X : Cx}
theorem pm_nil : PM X [] tCaseN := ⟨fun pins s σ H D v u first I _ h => wpAny_matchCases_nil ⟨σ, H, I, h⟩⟩
theorem pm_str {value : Expr} {pos : Pos} {body : List Stmt} {rest : List MatchCase} {te : TE} {tb : TS} {tr : V → TS} (he : PE X value te) (hb : PSs X body tb) (hr : PM X rest tr) : PM X (⟨.MatchValue value pos, none, body⟩ :: rest) (tCase te tb tr) := by
  refine ⟨fun pins s σ H D v u first I r h => wpAny_matchCases_cons (wpAny_matchPattern_Value (thn (he.run pins s σ H _ I h) fun x s1 ⟨y, H1, I1, ry, z, w, ev, ew, q⟩ => ?_))⟩
  subst ev ew
  obtain ⟨t, rfl⟩ := r
  obtain ⟨t2, rfl⟩ := ry
  refine thn (op_eq pins s1 σ H1 (.str z) (.str w) (.str z t) (.str w t2) (fun b H' => b = .bl (decide (z = w)) ∧ H' = H1) I1 ⟨t, rfl⟩ ⟨t2, rfl⟩ ⟨rfl, by rw [show decide (V.str z = V.str w) = decide (z = w) from by simp]; exact ⟨rfl, rfl⟩⟩) fun c s2 ⟨b, H2, I2, rb, eb, eH⟩ => ?_
  subst eb eH
  cases rb
  refine wpAny_truthy_bool ?_
  cases hd : decide (z = w) with
  | true =>
    rw [hd] at q
    simp only [if_true] at q ⊢
    show wpAny _ _ (assignInOrder [] []) _ _ s2
    refine wpAny_pure ?_
    exact hb.run pins s2 σ H2 D I2 q
  | false =>
    rw [hd] at q
    simp only [Bool.false_eq_true, if_false] at q ⊢
    exact hr.run pins s2 σ H2 D (.str z) _ false I2 ⟨t, rfl⟩ q
theorem ps_match {subject : Expr} {cases_ : List MatchCase} {pos : Pos} {ts : TE} {tc : V → TS} (hs : PE X subject ts) (hc : PM X cases_ tc) : PS X (.Match subject cases_ pos) (tMatch ts tc) := by
  refine ⟨fun pins s σ H D I h => wpAny_Match (thn (hs.run pins s σ H _ I h) fun u s1 ⟨v, H1, I1, r, q⟩ => ?_)⟩
  exact hc.run pins s1 σ H1 D v u true I1 r q
theorem r_match {ts : TE} {tc : V → TS} {D : Ends} {σ : L2.St} {H : Hp} (q : ts σ H fun v H1 => tc v D σ H1) : tMatch ts tc D σ H := q
theorem r_caseY {y : Str} {tb : TS} {tr : V → TS} {D : Ends} {σ : L2.St} {H : Hp} (q : tb D σ H) : tCase (tC (.str y)) tb tr (.str y) D σ H := ⟨y, y, rfl, rfl, by rw [decide_eq_true rfl]; exact q⟩
theorem r_caseN {y z : Str} {tb : TS} {tr : V → TS} {D : Ends} {σ : L2.St} {H : Hp} (n : z ≠ y) (q : tr (.str z) D σ H) : tCase (tC (.str y)) tb tr (.str z) D σ H := ⟨z, y, rfl, rfl, by rw [decide_eq_false n]; exact q⟩
end
end Mb
namespace Mb
open PySem PySem.Spec PyProof.Rows L2
/-- x(*y), x a def of the text -/
def tStar1 (K : PySem.W.Frag) (sp : Sp) (te : TE) : TE := fun σ H Q => te σ H fun y H1 => ∃ a xs, y = V.ref a ∧ (SqT K H1 a xs ∨ SqL K H1 a xs) ∧ sp (xs ++ []) H1 Q E0
theorem pe_star1 {X : Cx} {k : Nat} {x : Str} {ps : List Str} {sp : Sp} {e : Expr} {te : TE} {p sp_ pos : Pos} (G : Kn X.prog X.w X.K X.mg X.base k x ps sp) (hr : Room k X.A) (hg : Gl X x) (he : PE X e te) (hd : (x == ("__debug__" : Str)) = false := by decide)
    (hst : starEach [.Starred e sp_] X.env = [(true, eval e X.env)] := by rfl) : PE X (.Call (.Name x p) [.Starred e sp_] [] pos) (tStar1 X.K sp te) := by
  obtain ⟨f, fd, F, m, kp, b⟩ := G.ex
  exact StX.pe_callS1 (F.raw b .nil) hr kp hg m pass0 he hd hst
theorem r_star1 {K : PySem.W.Frag} {sp : Sp} {te : TE} {σ : L2.St} {H : Hp} {Q : VK} (q : te σ H fun y H1 => ∃ a xs, y = V.ref a ∧ (SqT K H1 a xs ∨ SqL K H1 a xs) ∧ sp (xs ++ []) H1 Q E0) : tStar1 K sp te σ H Q := q
end Mb
namespace Mb
open PySem L2
/-! ### texts -/
theorem for_str {z : Str} {g : TG} {tb : TS} {D : Ends} {σ : St} {H : Hp} (Pv : Nat → St → Hp → Prop) (h0 : Pv 0 σ H)
    (hs : ∀ i c σ H, z.cps.toList[i]? = some c → Pv i σ H → g (.str ⟨#[c]⟩) σ H fun σ2 H2 => tb { D with nx := Pv (i + 1), ct := Pv (i + 1), bk := D.nx } σ2 H2) (hd : ∀ σ H, Pv z.cps.toList.length σ H → D.nx σ H) :
    ∃ W : Nat → Nat → St → Hp → Prop, (∃ m, W 0 m σ H) ∧ ∀ i m σ H, W i m σ H →
      ((Its z).stop i H ∧ D.nx σ H) ∨ ((Its z).go i H ∧ ∃ N : St → Hp → Prop, (∀ σ1 H1, N σ1 H1 → ∃ m1, m1 < m ∧ W (i + 1) m1 σ1 H1) ∧ ∀ x H1, (Its z).yld i H x H1 → g x σ H1 fun σ2 H2 => tb { D with nx := N, ct := N, bk := D.nx } σ2 H2) := by
  refine ⟨fun i m σ H => m = z.cps.size - i ∧ i ≤ z.cps.size ∧ Pv i σ H, ⟨z.cps.size, by omega, Nat.zero_le _, h0⟩, ?_⟩
  rintro i m σ H ⟨rfl, hi, p⟩
  by_cases hlt : i < z.cps.size
  · refine .inr ⟨hlt, Pv (i + 1), fun σ1 H1 p1 => ⟨z.cps.size - (i + 1), by omega, rfl, hlt, p1⟩, fun x H1 y => ?_⟩
    obtain ⟨e, c, hc, rfl⟩ := y
    subst e
    exact hs i c σ _ (by rw [Array.getElem?_toList]; exact hc) p
  · have e : i = z.cps.size := by omega
    subst e
    exact .inl ⟨Nat.le_refl _, hd σ H (by rw [Array.length_toList]; exact p)⟩
/-! ### good names -/
def LET : Str := "abcdefghijklmnopqrstuvwxyz"
def FIG : Str := "0123456789"
abbrev k_LETTERS : Str := LET
abbrev k_FIGURES : Str := FIG
def okc (c : Nat) : Bool := decide (c ∈ LET.cps.toList) || decide (c ∈ FIG.cps.toList)
def firstB : List Nat → Bool
  | c :: _ => decide (c ∈ LET.cps.toList)
  | [] => false
def headB (z : Str) : Bool := decide (1 ≤ (z.length : Int)) && (decide ((z.length : Int) ≤ 12) && firstB z.cps.toList)
def goodB (z : Str) : Bool := headB z && z.cps.toList.all okc
def spGoodN : Sp := fun vs H Q _ => ∃ z : Str, vs = [.str z] ∧ z.length ≤ 100000 ∧ Q (.bl (goodB z)) H
theorem all_take {xs : List Nat} {i : Nat} {c : Nat} (f : Nat → Bool) (h : xs[i]? = some c) : (xs.take (i + 1)).all f = ((xs.take i).all f && f c) := by
  rw [List.take_add_one, h, List.all_append]
  simp
end Mb
namespace Mb
open PySem PySem.Spec PyProof.Rows L2
/-! ### zip of a list and a tuple -/
def ItzM (K : PySem.W.Frag) (a c : Addr) : It :=
  ⟨fun i H => ∃ (xs zs : List V) (x z : V), SqL K H a xs ∧ SqT K H c zs ∧ xs[i]? = some x ∧ zs[i]? = some z,
    fun i H v H' => ∃ T x z, v = .ref T ∧ H T = none ∧ H' = upd H T (.tup [x, z]) ∧ (∀ xs, SqL K H a xs → xs[i]? = some x) ∧ ∀ zs, SqT K H c zs → zs[i]? = some z,
    fun i H => ∃ xs zs : List V, SqL K H a xs ∧ SqT K H c zs ∧ xs.length = i ∧ zs.length = i⟩
theorem turn_zipM {P : Program} {w : World} {K : PySem.W.Frag} {elts : List Expr} {kk : Nat} {tpos : Pos} {a c z TI TO i1 i3 : Addr} (D : ZipSep2 z TI TO i1 i3 [i1, a] [i3, c]) (na : a ≠ i1) (nc : c ≠ i3) :
    Turn P w K (.Tuple elts kk tpos) (ItzM K a c) [z, TI, TO, i1, i3] z (fun i h => IsZip h z TI TO .none ∧ IsTupOf2 h TI (.ref i1) (.ref i3) ∧ (∃ x u, IsTupOf2 h TO x u) ∧ h.IsListIter i1 a i ∧ h.IsTupleIter i3 c i) where
  mem := by simp
  obj := fun i h st k hk => by
    obtain ⟨hz, hTI, ⟨x, u, hTO⟩, ⟨o1, e1, _, d1⟩, ⟨o3, e3, _, d3⟩⟩ := st
    have e' : k = z ∨ k = TI ∨ k = TO ∨ k = i1 ∨ k = i3 := by simpa using hk
    rcases e' with q | q | q | q | q
    · rw [q]; exact ⟨_, hz, fun v q => nomatch q⟩
    · rw [q]; exact ⟨_, hTI, fun v q => nomatch q⟩
    · rw [q]; exact ⟨_, hTO, fun v q => nomatch q⟩
    · rw [q]; exact ⟨o1, e1, fun v q => by rw [d1] at q; cases q⟩
    · rw [q]; exact ⟨o3, e3, fun v q => by rw [d3] at q; cases q⟩
  keep := fun i h h' st k => by
    obtain ⟨hz, hTI, ⟨x, u, hTO⟩, h1, h3⟩ := st
    exact ⟨k z (by simp) _ hz, k TI (by simp) _ hTI, ⟨x, u, k TO (by simp) _ hTO⟩, h1.at fun o q => k i1 (by simp) o q, h3.at fun o q => k i3 (by simp) o q⟩
  item := by
    intro X hP hw hK hc i pins s σ H E I hf st hg
    subst hP hw hK
    obtain ⟨hz, hTI, ⟨x0, u0, hTO⟩, h1, h3⟩ := st
    obtain ⟨xs, zs, x, t, hqx, hqz, hx, ht⟩ := hg
    obtain ⟨its, rv, p, _⟩ := I.list hqx
    obtain ⟨its3, rv3, p3, _⟩ := I.tuple hqz
    obtain ⟨u, hu, ru⟩ := rv.get hx
    obtain ⟨u3, hu3, ru3⟩ := rv3.get ht
    have hzl : z < s.heap.objs.size := Heap.lt_size hz
    have hh : X.A.in1.handled = none := I.ok.hd hc
    have q1 := p.isList
    have l1 : i < its.toArray.size := by obtain ⟨q, _⟩ := List.getElem?_eq_some_iff.mp hu; simpa using q
    have l3 : i < its3.toArray.size := by obtain ⟨q, _⟩ := List.getElem?_eq_some_iff.mp hu3; simpa using q
    refine wpAny_pyNext_zipD2_item D (Draws.list hh i1 a na its.toArray) (Draws.tuple hh i3 c nc its3.toArray) hz hTI hTO ⟨h1, q1⟩ ⟨h3, p3⟩ l1 l3 fun y1 y3 h' tk e1 e3 z' TO' s1' s3' hT hsz hk => ?_
    obtain rfl : y1 = u := by
      have e : its.toArray[i]? = some y1 := e1
      simp only [List.getElem?_toArray] at e
      rw [hu] at e
      exact (Option.some.inj e).symm
    obtain rfl : y3 = u3 := by
      have e : its3.toArray[i]? = some y3 := e3
      simp only [List.getElem?_toArray] at e
      rw [hu3] at e
      exact (Option.some.inj e).symm
    refine ⟨_, rfl, wpAny_letOwnedTupleGo_zip (s := { s with heap := h', toks := tk }) z' fun h'' z'' sb => ?_⟩
    have hT2 : h''.get? s.heap.objs.size = some { cls := .type "tuple", data := .seq #[y1, y3] } := (sb.2 _ (Nat.ne_of_gt hzl)).trans hT
    have new : ObjOk X.prog X.w (upd H s.heap.objs.size (.tup [x, t])) h'' s.heap.objs.size (.tup [x, t]) :=
      ⟨by show 2 ≤ sizeLine; decide, [y1, y3], .cons ru (.cons ru3 .nil), ⟨_, hT2, rfl, _, rfl⟩⟩
    have I1 : Inv X pins σ (upd H s.heap.objs.size (.tup [x, t])) { s with heap := h'', toks := tk } :=
      I.turnedNew (t' := tk) (ch := [z, TI, TO, i1, i3]) (fun k o hb q => (sb.2 k (fun q' => hb (by simp [q']))).trans (hk k o (fun q' => hb (by simp [q'])) (fun q' => hb (by simp [q'])) (fun q' => hb (by simp [q'])) (fun q' => hb (by simp [q'])) q)) hf (Nat.le_refl _) new
    refine ⟨.ref s.heap.objs.size, _, I1, rfl, ⟨_, x, t, rfl, I.hok.fresh (Nat.le_refl _), rfl, fun l hl => by rw [I.list_inj hl hqx]; exact hx, fun l hl => by rw [I.tuple_inj hl hqz]; exact ht⟩, ⟨z'', ?_, ⟨y1, y3, ?_⟩, ?_, ?_⟩, fun k hkm => ?_⟩
    · exact (sb.2 _ D.TIz).trans (hk _ _ D.TIz D.TITO D.TIi1 D.TIi2 hTI)
    · exact (sb.2 _ D.TOz).trans TO'
    · exact s1'.1.at fun o q => (sb.2 _ D.zi1.symm).trans q
    · exact s3'.1.at fun o q => (sb.2 _ D.zi2.symm).trans q
    · have hlt : k < s.heap.objs.size := by
        have e' : k = z ∨ k = TI ∨ k = TO ∨ k = i1 ∨ k = i3 := by simpa using hkm
        rcases e' with q | q | q | q | q
        · rw [q]; exact hzl
        · rw [q]; exact Heap.lt_size hTI
        · rw [q]; exact Heap.lt_size hTO
        · rw [q]; obtain ⟨_, e1, _⟩ := h1; exact Heap.lt_size e1
        · rw [q]; obtain ⟨_, e1, _⟩ := h3; exact Heap.lt_size e1
      rw [upd_ne (Nat.ne_of_lt hlt)]
      exact (hf k hkm).1
  done := by
    intro X hP hw hK hc i pins s σ H E I hf st hg
    subst hP hw hK
    obtain ⟨hz, hTI, ⟨x0, u0, hTO⟩, h1, h3⟩ := st
    obtain ⟨xs, zs, hqx, hqz, g1, g3⟩ := hg
    obtain ⟨its, rv, p, _⟩ := I.list hqx
    obtain ⟨its3, rv3, p3, _⟩ := I.tuple hqz
    have l1 := rv.length
    have l3 := rv3.length
    have hh : X.A.in1.handled = none := I.ok.hd hc
    have m1 : i = its.toArray.size := by simp; omega
    have m3 : i = its3.toArray.size := by simp; omega
    exact wpAny_pyNext_zipD2_end D (Draws.list hh i1 a na its.toArray) (Draws.tuple hh i3 c nc its3.toArray) hz hTI hTO ⟨h1, p.isList⟩ ⟨h3, p3⟩ (by omega) (by omega) (.inl m1) fun h' tk hk => ⟨rfl, I.turnedL (t' := tk) (ch := [z, TI, TO, i1, i3]) (fun k o hb q =>
      hk k o (fun q' => hb (by simp [q'])) (fun q' => hb (by simp [q'])) (fun q' => hb (by simp [q'])) (fun q' => hb (by simp [q'])) q) hf⟩
  self := fun A i s Q E st h => wpAny_pyIter_zip st.1 h
def iZipM (K : PySem.W.Frag) (ta : TA) : TI := fun σ H R => ta σ H fun vs H1 => ∃ a c xs zs, vs = [.ref a, .ref c] ∧ SqL K H1 a xs ∧ SqT K H1 c zs ∧ R (ItzM K a c) H1
theorem pi_zipM {X : Cx} {e e2 : Expr} {ta : TA} {p pos tpos : Pos} {elts : List Expr} {kk : Nat} (hg : Gl X "zip") (hm : X.mg "zip" = none) (ha : PA X [e, e2] ta)
    (hs : starEach [e, e2] X.env = (false, eval e X.env) :: starEach [e2] X.env := by rfl) (hpl : (backTo pos (starEach [e2] X.env)).any (·.1) = false := by rfl) :
    PI X (.Tuple elts kk tpos) (.Call (.Name "zip" p) [e, e2] [] pos) (iZipM X.K ta) := by
  refine ⟨fun pins s σ H R I h => ?_⟩
  refine Call_ (ld_blt I hg hm PyProof.Rows.boot_zip (PyProof.Rows.callWith_type1 (thn (ha.run pos pins s σ H _ I h) fun us s1 ⟨vs, H1, I1, r1, q1⟩ => ?_) hs hpl))
  obtain ⟨a, c, xs, zs, ex, hqx, hqz, q⟩ := q1
  subst ex
  cases r1 with
  | cons r rr =>
    cases rr with
    | cons r' rr =>
      cases rr
      cases r
      cases r'
      have fresh5 : ∀ k, k ∈ [s1.heap.objs.size + 4, s1.heap.objs.size + 2, s1.heap.objs.size + 3, s1.heap.objs.size, s1.heap.objs.size + 1] → FpOk X pins H1 k := fun k hkm => by
        have e' : k = s1.heap.objs.size + 4 ∨ k = s1.heap.objs.size + 2 ∨ k = s1.heap.objs.size + 3 ∨ k = s1.heap.objs.size ∨ k = s1.heap.objs.size + 1 := by simpa using hkm
        have hle : s1.heap.objs.size ≤ k := by
          rcases e' with z | z | z | z | z
          · rw [z]; exact Nat.le_add_right _ _
          · rw [z]; exact Nat.le_add_right _ _
          · rw [z]; exact Nat.le_add_right _ _
          · rw [z]; exact Nat.le_refl _
          · rw [z]; exact Nat.le_add_right _ _
        exact I1.fpOk hle (I1.hok.fresh hle)
      obtain ⟨its, rv, p1, _⟩ := I1.list hqx
      obtain ⟨its3, rv3, p3, _⟩ := I1.tuple hqz
      obtain ⟨o3, ho3, _⟩ := id p3
      have la : a < s1.heap.objs.size := p1.lt
      have lc : c < s1.heap.objs.size := Heap.lt_size ho3
      refine zip_begins2 (begins_list a its.toArray) (begins_tuple c its3.toArray) p1.isList p3 fun h' hz hTI hTO h1 h3 hsz hk => wpAny_pyIter_zip hz ?_
      have I2 : Inv X pins σ H1 { s1 with heap := h' } := I1.kept (t' := s1.toks) hk
      exact ⟨s1.heap.objs.size + 4, [s1.heap.objs.size + 4, s1.heap.objs.size + 2, s1.heap.objs.size + 3, s1.heap.objs.size, s1.heap.objs.size + 1], _, _, H1, rfl, I2,
        turn_zipM (zip_sep2 (N := s1.heap.objs.size) (fp1 := [a]) (fp2 := [c]) (fun k hkm => by simp at hkm; rw [hkm]; exact la) (fun k hkm => by simp at hkm; rw [hkm]; exact lc)) (Nat.ne_of_lt la) (Nat.ne_of_lt (Nat.lt_succ_of_lt lc)),
        ⟨hz, hTI, ⟨_, _, hTO⟩, ⟨_, h1, rfl, rfl⟩, ⟨_, h3, rfl, rfl⟩⟩, fresh5, q⟩
/-- a loop over zip of two lists and a tuple of one length -/
theorem for_zipM {K : PySem.W.Frag} {a c : Addr} {xs zs : List V} {g : TG} {tb : TS} {D : Ends} {σ : L2.St} {H : Hp} (hl3 : xs.length = zs.length) (Pv : Nat → L2.St → Hp → Prop) (h0 : Pv 0 σ H) (hq : ∀ i σ H, Pv i σ H → SqL K H a xs ∧ SqT K H c zs)
    (hs : ∀ (i : Nat) (x z : V) (T : Addr) (σ : L2.St) (H : Hp), xs[i]? = some x → zs[i]? = some z → Pv i σ H → H T = none → g (.ref T) σ (upd H T (.tup [x, z])) fun σ2 H2 => tb { D with nx := Pv (i + 1), ct := Pv (i + 1), bk := D.nx } σ2 H2) (hd : ∀ σ H, Pv xs.length σ H → D.nx σ H) :
    ∃ W : Nat → Nat → L2.St → Hp → Prop, (∃ m, W 0 m σ H) ∧ ∀ i m σ H, W i m σ H →
      ((ItzM K a c).stop i H ∧ D.nx σ H) ∨ ((ItzM K a c).go i H ∧ ∃ N : L2.St → Hp → Prop, (∀ σ' H', N σ' H' → ∃ m', m' < m ∧ W (i + 1) m' σ' H') ∧ ∀ v H', (ItzM K a c).yld i H v H' → g v σ H' fun σ2 H2 => tb { D with nx := N, ct := N, bk := D.nx } σ2 H2) := by
  refine ⟨fun i m σ H => m = xs.length - i ∧ i ≤ xs.length ∧ Pv i σ H, ⟨xs.length, rfl, Nat.zero_le _, h0⟩, ?_⟩
  rintro i m σ H ⟨rfl, hi, p⟩
  obtain ⟨qx, qz⟩ := hq i σ H p
  by_cases hlt : i < xs.length
  · have hx : xs[i]? = some xs[i] := List.getElem?_eq_getElem hlt
    have hlt3 : i < zs.length := by omega
    have hz : zs[i]? = some zs[i] := List.getElem?_eq_getElem hlt3
    refine .inr ⟨⟨xs, zs, _, _, qx, qz, hx, hz⟩, Pv (i + 1), fun σ' H' p' => ⟨xs.length - (i + 1), by omega, rfl, hlt, p'⟩, fun v H' y => ?_⟩
    obtain ⟨T, x', z', rfl, hT, rfl, f1, f3⟩ := y
    exact hs i x' z' T σ H (f1 xs qx) (f3 zs qz) p hT
  · have e : i = xs.length := by omega
    subst e
    exact .inl ⟨⟨xs, zs, qx, qz, rfl, by omega⟩, hd σ H p⟩
theorem r_forZM {K : PySem.W.Frag} {ta : TA} {g : TG} {tb : TS} {D : Ends} {σ : L2.St} {H : Hp} (q : ta σ H fun vs H1 => ∃ a c xs zs, vs = [.ref a, .ref c] ∧ SqL K H1 a xs ∧ SqT K H1 c zs ∧ ∃ W : Nat → Nat → L2.St → Hp → Prop, (∃ m, W 0 m σ H1) ∧ ∀ i m σ H, W i m σ H →
      ((ItzM K a c).stop i H ∧ D.nx σ H) ∨ ((ItzM K a c).go i H ∧ ∃ N : L2.St → Hp → Prop, (∀ σ' H', N σ' H' → ∃ m', m' < m ∧ W (i + 1) m' σ' H') ∧ ∀ v H', (ItzM K a c).yld i H v H' → g v σ H' fun σ2 H2 => tb { D with nx := N, ct := N, bk := D.nx } σ2 H2)) : tFor (iZipM K ta) g tb D σ H := q
end Mb
namespace Mb
open PySem L2
/-! ### makings with their numbers, tellings -/
theorem Fq.kp {K : PySem.W.Frag} {H H' : Hp} {v : V} {q : Rat} (h : Fq K H v q) (k : Kp K H H') : Fq K H' v q := by
  obtain ⟨a, rfl, t⟩ := h
  exact ⟨a, rfl, k _ _ t⟩
theorem Pq.kp {K : PySem.W.Frag} {H H' : Hp} {v : V} {x y : Rat} (h : Pq K H v x y) (k : Kp K H H') : Pq K H' v x y := by
  obtain ⟨a, f, g, rfl, t, h1, h2⟩ := h
  exact ⟨a, f, g, rfl, k _ _ t, h1.kp k, h2.kp k⟩
inductive Tail where
  | fr (x y : Rat)
  | sh (t : Rat)
  | ct (n : Int)
  | no
def Ntl (K : PySem.W.Frag) (H : Hp) (x : Str) (r : List V) : Tail → Prop
  | .fr p q => x = "free" ∧ ∃ u v, r = [u, v] ∧ Fq K H u p ∧ Fq K H v q
  | .sh t => x = "share" ∧ ∃ u, r = [u] ∧ Fq K H u t
  | .ct n => x = "cut" ∧ r = [.int n]
  | .no => x ≠ "free" ∧ x ≠ "share" ∧ x ≠ "cut" ∧ r = []
theorem Ntl.tl {K : PySem.W.Frag} {H : Hp} {x : Str} {r : List V} {d : Tail} (h : Ntl K H x r d) : Tl K H x r := by
  cases d with
  | fr p q =>
    obtain ⟨e, u, v, rfl, ⟨a, rfl, h1⟩, b, rfl, h2⟩ := h
    exact .inl ⟨e, a, b, _, _, _, _, rfl, h1, h2⟩
  | sh t =>
    obtain ⟨e, u, rfl, a, rfl, h1⟩ := h
    exact .inr (.inl ⟨e, a, _, _, rfl, h1⟩)
  | ct n => exact .inr (.inr (.inl ⟨h.1, n, h.2⟩))
  | no => exact .inr (.inr (.inr h))
theorem Ntl.kp {K : PySem.W.Frag} {H H' : Hp} {x : Str} {r : List V} {d : Tail} (h : Ntl K H x r d) (k : Kp K H H') : Ntl K H' x r d := by
  cases d with
  | fr p q =>
    obtain ⟨e, u, v, e2, h1, h2⟩ := h
    exact ⟨e, u, v, e2, h1.kp k, h2.kp k⟩
  | sh t =>
    obtain ⟨e, u, e2, h1⟩ := h
    exact ⟨e, u, e2, h1.kp k⟩
  | ct n => exact h
  | no => exact h
def Mq (K : PySem.W.Frag) (H : Hp) (m : Addr) (x : Str) (ns : List Str) (d : Tail) : Prop := ∃ r : List V, SqT K H m (.str x :: (ns.map V.str ++ r)) ∧ Ntl K H x r d
theorem Mq.mk {K : PySem.W.Frag} {H : Hp} {m : Addr} {x : Str} {ns : List Str} {d : Tail} (h : Mq K H m x ns d) : Mk K H m x ns := by
  obtain ⟨r, h1, h2⟩ := h
  exact ⟨r, h1, h2.tl⟩
theorem Mq.kp {K : PySem.W.Frag} {H H' : Hp} {m : Addr} {x : Str} {ns : List Str} {d : Tail} (h : Mq K H m x ns d) (k : Kp K H H') : Mq K H' m x ns d := by
  obtain ⟨r, h1, h2⟩ := h
  exact ⟨r, k _ _ h1, h2.kp k⟩
abbrev Thq : Type := Str × Str × List Str × Tail
def thOf (t : Thq) : Thing := (t.1, t.2.1, t.2.2.1)
def Tg (K : PySem.W.Frag) (H : Hp) (v : V) (t : Thq) : Prop := ∃ a m : Addr, v = .ref a ∧ SqT K H a [.str t.1, .ref m] ∧ Mq K H m t.2.1 t.2.2.1 t.2.2.2
theorem Tg.th {K : PySem.W.Frag} {H : Hp} {v : V} {t : Thq} (h : Tg K H v t) : Th K H v (thOf t) := by
  obtain ⟨a, m, e, h1, h2⟩ := h
  exact ⟨a, m, e, h1, h2.mk⟩
theorem Tg.kp {K : PySem.W.Frag} {H H' : Hp} {v : V} {t : Thq} (h : Tg K H v t) (k : Kp K H H') : Tg K H' v t := by
  obtain ⟨a, m, e, h1, h2⟩ := h
  exact ⟨a, m, e, k _ _ h1, h2.kp k⟩
def Rwq (K : PySem.W.Frag) (H : Hp) (vs : List V) (ts : List Thq) : Prop := Paired (Tg K H) vs ts
theorem Rwq.kp {K : PySem.W.Frag} {H H' : Hp} (k : Kp K H H') {vs : List V} {ts : List Thq} (h : Rwq K H vs ts) : Rwq K H' vs ts := Paired.mapP h fun _ _ t => t.kp k
theorem Rwq.at {K : PySem.W.Frag} {H : Hp} {vs : List V} {ts : List Thq} {i : Nat} {v : V} (h : Rwq K H vs ts) (hi : vs[i]? = some v) : ∃ t, ts[i]? = some t ∧ Tg K H v t := LiI.paired_get h hi
theorem Rwq.len {K : PySem.W.Frag} {H : Hp} {vs : List V} {ts : List Thq} (h : Rwq K H vs ts) : vs.length = ts.length := Paired.length h
/-! ### good rows -/
def NrB (q : Rat) (b : Int) : Prop := (q.num.natAbs : Int) < b ∧ (q.den : Int) < b
def Nr : Tail → Prop
  | .fr p q => NrB p 1000000000 ∧ NrB q 1000000000
  | .sh t => NrB t 1000
  | .ct n => n = 1 ∨ n = 2
  | .no => True
def fitB (s due : Str) : Bool := if due = "curve" then decide (s ∈ (["line", "circle"] : List Str)) else decide (s = due)
def FitsE (x : Str) (ns : List Str) (L : Env) : Prop := ∃ (s : Str) (g : List Str), (x, s, g) ∈ wordsTab ∧ Paired (fun z due => (z ∈ nmsE L ∧ Sok z) ∧ fitB (srtE L z) due = true) ns g
theorem paired_left {α β : Type} {F : α → β → Prop} {P : α → Prop} (f : ∀ a b, F a b → P a) : ∀ {l : List α} {m : List β}, Paired F l m → ∀ a ∈ l, P a
  | _, _, .nil, _, h => by cases h
  | _, _, .cons r t, a, h => by
    rcases List.mem_cons.mp h with e | h
    · subst e; exact f _ _ r
    · exact paired_left f t a h
theorem FitsE.okm {x : Str} {ns : List Str} {L : Env} (h : FitsE x ns L) : Okm x ns L := by
  obtain ⟨s, g, h1, h2⟩ := h
  exact ⟨⟨s, g, h1, Paired.length h2⟩, paired_left (fun _ _ h => h.1) h2⟩
structure Gt (L : Env) (t : Thq) : Prop where
  new : t.1 ∉ nmsE L
  nm : Sok t.1
  good : goodB t.1 = true
  fit : FitsE t.2.1 t.2.2.1 L
  near : Nr t.2.2.2
  wt : 0 ≤ wOf t.2.1 t.2.2.1 L ∧ wOf t.2.1 t.2.2.1 L ≤ 40
def Gr : Env → List Thq → Prop
  | _, [] => True
  | L, t :: r => Gt L t ∧ Gr (envStep L (thOf t)) r
theorem Gr.vr : ∀ (ts : List Thq) (L : Env), Gr L ts → Vr L (ts.map thOf)
  | [], _, _ => trivial
  | t :: r, L, h => ⟨⟨h.1.new, h.1.nm, h.1.fit.okm, h.1.wt.1, h.1.wt.2⟩, Gr.vr r _ h.2⟩
theorem Gr.split : ∀ (a b : List Thq) (L : Env), Gr L (a ++ b) → Gr L a ∧ Gr (envOf L (a.map thOf)) b
  | [], _, _, h => ⟨trivial, h⟩
  | t :: a, b, L, h => by
    obtain ⟨h1, h2⟩ := Gr.split a b _ h.2
    exact ⟨⟨h.1, h1⟩, h2⟩
/-- the i-th thing, with what was known ahead of it -/
theorem Gr.at {ts : List Thq} {i : Nat} {t : Thq} (h : Gr [] ts) (hi : ts[i]? = some t) : Gt (envOf [] ((ts.take i).map thOf)) t ∧ envOf [] ((ts.take (i + 1)).map thOf) = envStep (envOf [] ((ts.take i).map thOf)) (thOf t) := by
  have hl := (List.getElem?_eq_some_iff.mp hi).1
  have e1 : ts.take (i + 1) = ts.take i ++ [t] := by rw [List.take_succ, hi, Option.toList_some]
  have h1 : Gr [] (ts.take (i + 1) ++ ts.drop (i + 1)) := by rw [List.take_append_drop]; exact h
  obtain ⟨h2, _⟩ := Gr.split _ _ _ h1
  rw [e1] at h2
  obtain ⟨_, h5⟩ := Gr.split _ _ _ h2
  refine ⟨h5.1, ?_⟩
  rw [e1, List.map_append, envOf_append]
  rfl
def spFits : Sp := fun vs H Q _ => ∃ s due : Str, vs = [.str s, .str due] ∧ ∀ H', Same H H' → Q (.bl (fitB s due)) H'
def spBelow (K : PySem.W.Frag) : Sp := fun vs H Q _ => ∃ (v : V) (q : Rat) (b : Int), vs = [v, .int b] ∧ Fq K H v q ∧ Q (.bl (decide ((q.num.natAbs : Int) < b) && decide ((q.den : Int) < b))) H
def spNearM (K : PySem.W.Frag) : Sp := fun vs H Q _ => ∃ (m : Addr) (x : Str) (ns : List Str) (d : Tail) (L : Env), vs = [.ref m] ∧ Mq K H m x ns d ∧ FitsE x ns L ∧ Nr d ∧ Q (.bl true) H
def spCheckGrounds (K : PySem.W.Frag) : Sp := fun vs H Q _ => ∃ (m S W : Addr) (x : Str) (ns : List Str) (d : Tail) (L : Env), vs = [.ref m, .ref S] ∧ Mq K H m x ns d ∧ FitsE x ns L ∧ Dc H S W L ∧ ∀ H', Same H H' → Q .non H'
def spCheckNext (K : PySem.W.Frag) : Sp := fun vs H Q _ => ∃ (m S W : Addr) (t : Thq) (L : Env), vs = [.str t.1, .ref m, .ref S, .ref W] ∧ Mq K H m t.2.1 t.2.2.1 t.2.2.2 ∧ Gt L t ∧ Dc H S W L ∧ ∀ H', Same H H' → Q .non H'
def spCheckRow (K : PySem.W.Frag) : Sp := fun vs H Q _ => ∃ (l : Addr) (us : List V) (ts : List Thq), vs = [.ref l] ∧ SqL K H l us ∧ Rwq K H us ts ∧ Gr [] ts ∧ ts.length ≤ 60 ∧ ∀ H', Same H H' → Q .non H'
/-! ### tellings -/
inductive Tell where
  | pt (x y : Rat)
  | ln (a b c : Int)
  | ci (x y s : Rat)
  | kept
  | broken
  | gone (n w : Str)
def Tq (K : PySem.W.Frag) (H : Hp) (v : V) : Tell → Prop
  | .pt x y => ∃ a f g, v = .ref a ∧ SqT K H a [.str "at", f, g] ∧ Fq K H f x ∧ Fq K H g y
  | .ln a b c => ∃ p, v = .ref p ∧ SqT K H p [.str "line", .int a, .int b, .int c]
  | .ci x y s => ∃ a f g h, v = .ref a ∧ SqT K H a [.str "circle", f, g, h] ∧ Fq K H f x ∧ Fq K H g y ∧ Fq K H h s
  | .kept => ∃ a, v = .ref a ∧ SqT K H a [.str "kept"]
  | .broken => ∃ a, v = .ref a ∧ SqT K H a [.str "broken"]
  | .gone n w => ∃ a, v = .ref a ∧ SqT K H a [.str "gone", .str n, .str w]
theorem Tq.kp {K : PySem.W.Frag} {H H' : Hp} {v : V} {t : Tell} (h : Tq K H v t) (k : Kp K H H') : Tq K H' v t := by
  cases t with
  | pt x y => obtain ⟨a, f, g, e, h1, h2, h3⟩ := h; exact ⟨a, f, g, e, k _ _ h1, h2.kp k, h3.kp k⟩
  | ln a b c => obtain ⟨p, e, h1⟩ := h; exact ⟨p, e, k _ _ h1⟩
  | ci x y s => obtain ⟨a, f, g, i, e, h1, h2, h3, h4⟩ := h; exact ⟨a, f, g, i, e, k _ _ h1, h2.kp k, h3.kp k, h4.kp k⟩
  | kept => obtain ⟨a, e, h1⟩ := h; exact ⟨a, e, k _ _ h1⟩
  | broken => obtain ⟨a, e, h1⟩ := h; exact ⟨a, e, k _ _ h1⟩
  | gone n w => obtain ⟨a, e, h1⟩ := h; exact ⟨a, e, k _ _ h1⟩
def tagOf : Tell → Str
  | .pt _ _ => "at"
  | .ln _ _ _ => "line"
  | .ci _ _ _ => "circle"
  | .kept => "kept"
  | .broken => "broken"
  | .gone _ _ => "gone"
theorem Tq.head {K : PySem.W.Frag} {H : Hp} {v : V} {t : Tell} (h : Tq K H v t) : ∃ a r, v = .ref a ∧ SqT K H a (.str (tagOf t) :: r) := by
  cases t with
  | pt x y => obtain ⟨a, f, g, e, h1, h2, h3⟩ := h; exact ⟨a, _, e, h1⟩
  | ln a b c => obtain ⟨p, e, h1⟩ := h; exact ⟨p, _, e, h1⟩
  | ci x y s => obtain ⟨a, f, g, i, e, h1, h2, h3, h4⟩ := h; exact ⟨a, _, e, h1⟩
  | kept => obtain ⟨a, e, h1⟩ := h; exact ⟨a, _, e, h1⟩
  | broken => obtain ⟨a, e, h1⟩ := h; exact ⟨a, _, e, h1⟩
  | gone n w => obtain ⟨a, e, h1⟩ := h; exact ⟨a, _, e, h1⟩
/-- sizes that the geometry takes -/
def Tb (n : Nat) : Tell → Prop
  | .pt x y => Jh n x y
  | .ln a b c => Ln a b c ∧ Sm n a ∧ Sm n b ∧ Sm n c
  | .ci x y s => Ch n x y s
  | _ => True
theorem Tb.mono {m n : Nat} {t : Tell} (h : Tb m t) (l : m ≤ n) : Tb n t := by
  cases t with
  | pt x y => exact Jh.mono h l
  | ln a b c => exact ⟨h.1, h.2.1.mono l, h.2.2.1.mono l, h.2.2.2.mono l⟩
  | ci x y s => exact Ch.mono h l
  | kept => trivial
  | broken => trivial
  | gone a b => trivial
/-- the sum of the grounds' heights, a foot's line twice -/
def wH (x : Str) (hs : List Nat) : Nat := if x = "foot" ∨ x = "mirror" then hs.sum + hs.getD 1 0 else hs.sum
theorem wH_two {x : Str} {a b : Nat} (h : wH x [a, b] ≤ 3000) : a + b ≤ 3000 := by
  unfold wH at h
  split at h <;> simp at h <;> omega
theorem wH_foot {x : Str} {a b : Nat} (h : wH x [a, b] ≤ 3000) (e : x = "foot" ∨ x = "mirror") : a + (b + b) ≤ 3000 := by
  unfold wH at h
  rw [if_pos e] at h
  simp at h
  omega
/-- what stands behind the first word -/
def Pt (K : PySem.W.Frag) (H : Hp) (v : V) : Tell → Prop
  | .pt x y => Pq K H v x y
  | .ln a b c => Lq K H v a b c
  | .ci x y s => Cq K H v x y s
  | _ => False
theorem Pt.kp {K : PySem.W.Frag} {H H' : Hp} {v : V} {t : Tell} (h : Pt K H v t) (k : Kp K H H') : Pt K H' v t := by
  cases t with
  | pt x y => exact Pq.kp h k
  | ln a b c => obtain ⟨p, e, h1⟩ := h; exact ⟨p, e, k _ _ h1⟩
  | ci x y s => obtain ⟨a, f, g, i, e, h1, h2, h3, h4⟩ := h; exact ⟨a, f, g, i, e, k _ _ h1, h2.kp k, h3.kp k, h4.kp k⟩
  | kept => exact h.elim
  | broken => exact h.elim
  | gone n w => exact h.elim
/-- what a figure is told as -/
inductive Fg : Str → Tail → List Tell → Option Tell → Prop
  | free {p q : Rat} : Fg "free" (.fr p q) [] (some (.pt p q))
  | middle {x y x' y' : Rat} : Fg "middle" .no [.pt x y, .pt x' y'] (some (.pt ((x + x') / 2) ((y + y') / 2)))
  | next {x y x' y' : Rat} : Fg "next" .no [.pt x y, .pt x' y'] (some (.pt (x' + x' - x) (y' + y' - y)))
  | turn {x y x' y' : Rat} : Fg "turn" .no [.pt x y, .pt x' y'] (some (.pt (x' - (y - y')) (y' + (x - x'))))
  | share {t x y x' y' : Rat} : Fg "share" (.sh t) [.pt x y, .pt x' y'] (some (.pt (x + t * (x' - x)) (y + t * (y' - y))))
  | foot {x y fx fy : Rat} {a b c : Int} (o : (a : Rat) * fx + b * fy = c) (u : (b : Rat) * (fx - x) = a * (fy - y)) : Fg "foot" .no [.pt x y, .ln a b c] (some (.pt fx fy))
  | mirror {x y fx fy : Rat} {a b c : Int} (o : (a : Rat) * fx + b * fy = c) (u : (b : Rat) * (fx - x) = a * (fy - y)) : Fg "mirror" .no [.pt x y, .ln a b c] (some (.pt (fx + fx - x) (fy + fy - y)))
  | meet0 {a b c a' b' c' : Int} (d : a * b' = b * a') : Fg "meet" .no [.ln a b c, .ln a' b' c'] none
  | meet {a b c a' b' c' : Int} {x y : Rat} (d : a * b' ≠ b * a') (o : (a : Rat) * x + b * y = c) (o' : (a' : Rat) * x + b' * y = c') : Fg "meet" .no [.ln a b c, .ln a' b' c'] (some (.pt x y))
  | line0 {x y x' y' : Rat} (e : x = x' ∧ y = y') : Fg "line" .no [.pt x y, .pt x' y'] none
  | line {x y x' y' : Rat} {a b c : Int} (e : ¬ (x = x' ∧ y = y')) (l : Ln a b c) (o : (a : Rat) * x + b * y = c) (o' : (a : Rat) * x' + b * y' = c) : Fg "line" .no [.pt x y, .pt x' y'] (some (.ln a b c))
  | along {x y : Rat} {a b c A B C : Int} (l : Ln A B C) (o : (A : Rat) * x + B * y = C) (r : RAl A B a b) : Fg "along" .no [.pt x y, .ln a b c] (some (.ln A B C))
  | upright {x y : Rat} {a b c A B C : Int} (l : Ln A B C) (o : (A : Rat) * x + B * y = C) (r : RUp A B a b) : Fg "upright" .no [.pt x y, .ln a b c] (some (.ln A B C))
  | circle0 {x y x' y' : Rat} (e : x = x' ∧ y = y') : Fg "circle" .no [.pt x y, .pt x' y'] none
  | circle {x y x' y' : Rat} (e : ¬ (x = x' ∧ y = y')) : Fg "circle" .no [.pt x y, .pt x' y'] (some (.ci x y ((x' - x) * (x' - x) + (y' - y) * (y' - y))))
/-- how a claim stands -/
inductive Hd : Str → List Tell → Bool → Prop
  | inline {x y x' y' x2 y2 : Rat} : Hd "inline" [.pt x y, .pt x' y', .pt x2 y2] (decide ((x' - x) * (y2 - y) = (y' - y) * (x2 - x)))
  | round {x1 y1 x2 y2 x3 y3 x4 y4 : Rat} {b : Bool} (e : b = true ↔ detQ x1 y1 x2 y2 x3 y3 x4 y4 = 0) : Hd "round" [.pt x1 y1, .pt x2 y2, .pt x3 y3, .pt x4 y4] b
  | alike {x1 y1 x2 y2 x3 y3 x4 y4 : Rat} {b : Bool} (e : b = true ↔ (x1 - x2) * (x1 - x2) + (y1 - y2) * (y1 - y2) = (x3 - x4) * (x3 - x4) + (y3 - y4) * (y3 - y4)) : Hd "alike" [.pt x1 y1, .pt x2 y2, .pt x3 y3, .pt x4 y4] b
  | beside {a b c a' b' c' : Int} : Hd "beside" [.ln a b c, .ln a' b' c'] (decide (RSide a b a' b'))
  | square {a b c a' b' c' : Int} : Hd "square" [.ln a b c, .ln a' b' c'] (decide (RSq a b a' b'))
/-- a cut of a curve and a circle -/
inductive Cut (name : Str) (n : Int) : Tell → Tell → Tell → Prop
  | miss {a b c : Int} {x y s d : Rat} (e : Cd a b c x y s d) (h : d < 0) : Cut name n (.ln a b c) (.ci x y s) (.gone name "miss")
  | root {a b c : Int} {x y s d : Rat} (e : Cd a b c x y s d) (h : 0 ≤ d) (h' : ¬ ∃ r : Rat, r * r = d) : Cut name n (.ln a b c) (.ci x y s) (.gone name "root")
  | at {a b c : Int} {x y s d t u : Rat} (e : Cd a b c x y s d) (h : 0 ≤ t) (h' : t * t = d) (hu : u = if n = 1 ↔ 0 < b then -t else t) : Cut name n (.ln a b c) (.ci x y s) (.pt (cX a b c x y u) (cY a b c x y u))
  | centre {x y s s' : Rat} : Cut name n (.ci x y s) (.ci x y s') (.gone name "centre")
  | rings {x y s x' y' s' g : Rat} {a b c : Int} {r : Tell} (e : ¬ (x = x' ∧ y = y')) (l : Ln a b c) (g0 : g ≠ 0) (g1 : g * a = 2 * (x' - x)) (g2 : g * b = 2 * (y' - y)) (g3 : g * c = (s - x * x - y * y) - (s' - x' * x' - y' * y')) (k : Cut name n (.ln a b c) (.ci x y s) r) : Cut name n (.ci x y s) (.ci x' y' s') r
def claimW : List Str := ["inline", "round", "alike", "beside", "square"]
def failW (x : Str) : Str := if x = "meet" then "parallel" else "same"
def noGone (on : List Tell) : Prop := ∀ t ∈ on, tagOf t ≠ "gone"
inductive TelR (ord : Str → Int) (name x : Str) (d : Tail) (on : List Tell) : Tell → Prop
  | gone {n w : Str} (h : .gone n w ∈ on) (h' : ∀ n' w', .gone n' w' ∈ on → ord n ≤ ord n') : TelR ord name x d on (.gone n w)
  | cut {n : Int} {c r t : Tell} (g : noGone on) (e : x = "cut") (e' : d = .ct n) (eo : on = [c, r]) (k : Cut name n c r t) : TelR ord name x d on t
  | claim {b : Bool} (g : noGone on) (e : x ∈ claimW) (k : Hd x on b) : TelR ord name x d on (if b = true then .kept else .broken)
  | fig {t : Tell} (g : noGone on) (k : Fg x d on (some t)) : TelR ord name x d on t
  | fig0 (g : noGone on) (k : Fg x d on none) : TelR ord name x d on (.gone name (failW x))
/-- the tellings so far, by name -/
abbrev Tls : Type := List (Str × Tell)
def lookT (ps : Tls) (z : Str) : Tell := ((ps.find? fun e => decide (e.1 = z)).map (·.2)).getD .kept
def ordT (ps : Tls) (z : Str) : Int := ((ps.map (·.1)).idxOf z : Int)
inductive AR : Tls → List Thq → Tls → Prop
  | nil {ps : Tls} : AR ps [] ps
  | cons {ps out : Tls} {t : Thq} {r : List Thq} {v : Tell} (h : TelR (ordT ps) t.1 t.2.1 t.2.2.2 (t.2.2.1.map (lookT ps)) v) (k : AR (ps ++ [(t.1, v)]) r out) : AR ps (t :: r) out
/-- the sort of a telling -/
def sortT (s : Str) : Tell → Prop
  | .pt _ _ => s = "point"
  | .ln _ _ _ => s = "line"
  | .ci _ _ _ => s = "circle"
  | .gone _ _ => True
  | _ => s = "claim"
def Fo (K : PySem.W.Frag) (H : Hp) (v : V) : Option Tell → Prop
  | none => v = .non
  | some t => Pt K H v t
def spFigure (K : PySem.W.Frag) : Sp := fun vs H Q _ => ∃ (m l : Addr) (x s : Str) (g ns : List Str) (d : Tail) (us : List V) (ps : List Tell) (hs : List Nat), vs = [.ref m, .ref l] ∧ Mq K H m x ns d ∧ (x, s, g) ∈ wordsTab ∧ ns.length = g.length ∧ s ≠ "claim" ∧ x ≠ "cut" ∧ Nr d ∧ SqL K H l us ∧ Paired (Pt K H) us ps ∧ Paired (fun t n => Tb n t) ps hs ∧ wH x hs ≤ 3000 ∧ Paired sortT g ps ∧
  ∀ (r : Option Tell) (v : V) (H' : Hp), Fg x d ps r → Same H H' → Fo K H' v r → Q v H'
def spHolds (K : PySem.W.Frag) : Sp := fun vs H Q _ => ∃ (l : Addr) (x : Str) (g : List Str) (us : List V) (ps : List Tell), vs = [.str x, .ref l] ∧ (x, ("claim" : Str), g) ∈ wordsTab ∧ SqL K H l us ∧ Paired (Pt K H) us ps ∧ (∀ t ∈ ps, Tb 3000 t) ∧ Paired sortT g ps ∧
  ∀ (b : Bool) (H' : Hp), Hd x ps b → Same H H' → Q (.bl b) H'
def spCut (K : PySem.W.Frag) : Sp := fun vs H Q _ => ∃ (z : Str) (n : Int) (v w : V) (c r : Tell) (k m : Nat), vs = [.str z, .int n, v, w] ∧ (n = 1 ∨ n = 2) ∧ Tq K H v c ∧ Tq K H w r ∧ Tb k c ∧ Tb m r ∧ (tagOf c = "line" → k + k + m ≤ 3000) ∧ (tagOf c = "circle" → 5 * (k + m) ≤ 3000) ∧ (tagOf c = "line" ∨ tagOf c = "circle") ∧ tagOf r = "circle" ∧
  ∀ (t : Tell) (u : V) (H' : Hp), Cut z n c r t → Same H H' → Tq K H' u t → Q u H'
end Mb
namespace Mb
open PySem L2
theorem r_dnin {ty td : TE} {σ : St} {H : Hp} {Q : VK} (q : ty σ H fun y H1 => td σ H1 fun x H2 => ∃ a o, x = .ref a ∧ DGet H2 a y o ∧ Q (.bl (!o.isSome)) H2) : tDNotIn ty td σ H Q := q
theorem get_no {L : Env} {z : Str} {f : Str × Str × Int → V} (h : z ∉ nmsE L) : (L.find? fun e => decide (e.1 = z)).map f = none := by
  rw [List.find?_eq_none.mpr fun e he => by simpa using fun c : e.1 = z => h (c ▸ List.mem_map_of_mem (f := (·.1)) he)]
  rfl
theorem get_sort0 {H : Hp} {S : Addr} {L : Env} {z : Str} (h : H S = some (.dK (sortsD L))) (hz : z ∉ nmsE L) : DGet H S (.str z) none := by
  have e : valV (sortsD L) (.inr z) = none := by
    unfold sortsD
    rw [val_map, get_no hz]
  exact e ▸ DGet.k (k := .inr z) h
theorem nil_of {x s : Str} {g : List Str} (h : (x, s, g) ∈ wordsTab) (c : x = "free") : g = [] := by
  have k : ∀ q ∈ wordsTab, q.1 = "free" → q.2.2 = [] := by decide +kernel
  exact k _ h c
end Mb
namespace Mb
open PySem L2
abbrev gN : List Str := []
abbrev gP2 : List Str := ["point", "point"]
abbrev gP3 : List Str := ["point", "point", "point"]
abbrev gP4 : List Str := ["point", "point", "point", "point"]
abbrev gL2 : List Str := ["line", "line"]
abbrev gPL : List Str := ["point", "line"]
theorem claims_of {x : Str} {g : List Str} (h : (x, ("claim" : Str), g) ∈ wordsTab) : (x = "inline" ∧ g = gP3) ∨ (x = "round" ∧ g = gP4) ∨ (x = "alike" ∧ g = gP4) ∨ (x = "beside" ∧ g = gL2) ∨ (x = "square" ∧ g = gL2) := by
  have k : ∀ q ∈ wordsTab, q.2.1 = "claim" → (q.1 = "inline" ∧ q.2.2 = gP3) ∨ (q.1 = "round" ∧ q.2.2 = gP4) ∨ (q.1 = "alike" ∧ q.2.2 = gP4) ∨ (q.1 = "beside" ∧ q.2.2 = gL2) ∨ (q.1 = "square" ∧ q.2.2 = gL2) := by decide +kernel
  exact k _ h rfl
theorem figs_of {x s : Str} {g : List Str} (h : (x, s, g) ∈ wordsTab) (n : s ≠ "claim") (n2 : x ≠ "cut") : (x = "free" ∧ g = gN) ∨ (x = "middle" ∧ g = gP2) ∨ (x = "next" ∧ g = gP2) ∨ (x = "turn" ∧ g = gP2) ∨ (x = "share" ∧ g = gP2) ∨ (x = "foot" ∧ g = gPL) ∨ (x = "mirror" ∧ g = gPL) ∨ (x = "meet" ∧ g = gL2) ∨ (x = "line" ∧ g = gP2) ∨ (x = "along" ∧ g = gPL) ∨ (x = "upright" ∧ g = gPL) ∨ (x = "circle" ∧ g = gP2) := by
  have k : ∀ q ∈ wordsTab, q.2.1 ≠ "claim" → q.1 ≠ "cut" → (q.1 = "free" ∧ q.2.2 = gN) ∨ (q.1 = "middle" ∧ q.2.2 = gP2) ∨ (q.1 = "next" ∧ q.2.2 = gP2) ∨ (q.1 = "turn" ∧ q.2.2 = gP2) ∨ (q.1 = "share" ∧ q.2.2 = gP2) ∨ (q.1 = "foot" ∧ q.2.2 = gPL) ∨ (q.1 = "mirror" ∧ q.2.2 = gPL) ∨ (q.1 = "meet" ∧ q.2.2 = gL2) ∨ (q.1 = "line" ∧ q.2.2 = gP2) ∨ (q.1 = "along" ∧ q.2.2 = gPL) ∨ (q.1 = "upright" ∧ q.2.2 = gPL) ∨ (q.1 = "circle" ∧ q.2.2 = gP2) := by decide +kernel
  exact k _ h n n2
theorem two_list {α β : Type} {F : α → β → Prop} {us : List α} {a b : β} (h : Paired F us [a, b]) : ∃ u v, us = [u, v] ∧ F u a ∧ F v b := by
  cases h with
  | cons r t => cases t with | cons r' t => cases t; exact ⟨_, _, rfl, r, r'⟩
theorem three_list {α β : Type} {F : α → β → Prop} {us : List α} {a b c : β} (h : Paired F us [a, b, c]) : ∃ u v w, us = [u, v, w] ∧ F u a ∧ F v b ∧ F w c := by
  cases h with
  | cons r t =>
    obtain ⟨u, v, rfl, h1, h2⟩ := two_list t
    exact ⟨_, _, _, rfl, r, h1, h2⟩
theorem four_list {α β : Type} {F : α → β → Prop} {us : List α} {a b c d : β} (h : Paired F us [a, b, c, d]) : ∃ u v w x, us = [u, v, w, x] ∧ F u a ∧ F v b ∧ F w c ∧ F x d := by
  cases h with
  | cons r t =>
    obtain ⟨u, v, w, rfl, h1, h2, h3⟩ := three_list t
    exact ⟨_, _, _, _, rfl, r, h1, h2, h3⟩
theorem two_list' {α β : Type} {F : β → α → Prop} {us : List α} {a b : β} (h : Paired F [a, b] us) : ∃ u v, us = [u, v] ∧ F a u ∧ F b v := by
  cases h with
  | cons r t => cases t with | cons r' t => cases t; exact ⟨_, _, rfl, r, r'⟩
theorem three_list' {α β : Type} {F : β → α → Prop} {us : List α} {a b c : β} (h : Paired F [a, b, c] us) : ∃ u v w, us = [u, v, w] ∧ F a u ∧ F b v ∧ F c w := by
  cases h with
  | cons r t =>
    obtain ⟨u, v, rfl, h1, h2⟩ := two_list' t
    exact ⟨_, _, _, rfl, r, h1, h2⟩
theorem four_list' {α β : Type} {F : β → α → Prop} {us : List α} {a b c d : β} (h : Paired F [a, b, c, d] us) : ∃ u v w x, us = [u, v, w, x] ∧ F a u ∧ F b v ∧ F c w ∧ F d x := by
  cases h with
  | cons r t =>
    obtain ⟨u, v, w, rfl, h1, h2, h3⟩ := three_list' t
    exact ⟨_, _, _, _, rfl, r, h1, h2, h3⟩
theorem part_pt {K : PySem.W.Frag} {H : Hp} {v : V} {t : Tell} (h : Pt K H v t) (s : sortT "point" t) {n : Nat} (b : Tb n t) : ∃ x y, t = .pt x y ∧ Pq K H v x y ∧ Jh n x y := by
  cases t with
  | pt x y => exact ⟨x, y, rfl, h, b⟩
  | ln a b c => exact absurd (show ("point" : Str) = "line" from s) (by decide)
  | ci a b c => exact absurd (show ("point" : Str) = "circle" from s) (by decide)
  | kept => exact h.elim
  | broken => exact h.elim
  | gone n w => exact h.elim
theorem part_ln {K : PySem.W.Frag} {H : Hp} {v : V} {t : Tell} (h : Pt K H v t) (s : sortT "line" t) {k : Nat} (b : Tb k t) : ∃ a c e, t = .ln a c e ∧ Lq K H v a c e ∧ Ln a c e ∧ Sm k a ∧ Sm k c ∧ Sm k e := by
  cases t with
  | pt x y => exact absurd (show ("line" : Str) = "point" from s) (by decide)
  | ln a c e => exact ⟨a, c, e, rfl, h, b.1, b.2.1, b.2.2.1, b.2.2.2⟩
  | ci a b c => exact absurd (show ("line" : Str) = "circle" from s) (by decide)
  | kept => exact h.elim
  | broken => exact h.elim
  | gone n w => exact h.elim
theorem no_tail {K : PySem.W.Frag} {H : Hp} {x : Str} {r : List V} {d : Tail} (h : Ntl K H x r d) (h1 : x ≠ "free") (h2 : x ≠ "share") (h3 : x ≠ "cut") : d = .no := by
  cases d with
  | fr p q => exact absurd h.1 h1
  | sh t => exact absurd h.1 h2
  | ct n => exact absurd h.1 h3
  | no => rfl
end Mb
namespace Mb
open PySem L2
theorem paired_snocT {α β : Type} {F : α → β → Prop} : ∀ {l : List α} {m : List β} {a : α} {b : β}, Paired F l m → F a b → Paired F (l ++ [a]) (m ++ [b])
  | _, _, _, _, .nil, h => .cons h .nil
  | _, _, _, _, .cons r t, h => .cons r (paired_snocT t h)
theorem tag_ci {r : Tell} (h : tagOf r = "circle") : ∃ x y s, r = .ci x y s := by
  cases r with
  | ci x y s => exact ⟨x, y, s, rfl⟩
  | pt x y => exact absurd (show ("at" : Str) = "circle" from h) (by decide)
  | ln a b c => exact absurd (show ("line" : Str) = "circle" from h) (by decide)
  | kept => exact absurd (show ("kept" : Str) = "circle" from h) (by decide)
  | broken => exact absurd (show ("broken" : Str) = "circle" from h) (by decide)
  | gone n w => exact absurd (show ("gone" : Str) = "circle" from h) (by decide)
theorem tag_ln {r : Tell} (h : tagOf r = "line") : ∃ a b c, r = .ln a b c := by
  cases r with
  | ln a b c => exact ⟨a, b, c, rfl⟩
  | pt x y => exact absurd (show ("at" : Str) = "line" from h) (by decide)
  | ci x y s => exact absurd (show ("circle" : Str) = "line" from h) (by decide)
  | kept => exact absurd (show ("kept" : Str) = "line" from h) (by decide)
  | broken => exact absurd (show ("broken" : Str) = "line" from h) (by decide)
  | gone n w => exact absurd (show ("gone" : Str) = "line" from h) (by decide)
theorem r_tStar {K : PySem.W.Frag} {te : TE} {t : TA} {σ : St} {H : Hp} {Q : List V → Hp → Prop} (q : te σ H fun x H1 => ∃ p xs, x = V.ref p ∧ (SqT K H1 p xs ∨ SqL K H1 p xs) ∧ t σ H1 fun ys H2 => Q (xs ++ ys) H2) : StX.tStar K te t σ H Q := q
theorem val_mapG {α : Type} {L : List α} {z : Str} {nm : α → Str} {f : α → V} : valV (L.map fun e => ((.inr (nm e) : Key), f e)) (.inr z) = (L.find? fun e => decide (nm e = z)).map f := by
  unfold valV
  induction L with
  | nil => rfl
  | cons a r ih =>
    rw [List.map_cons, List.find?_cons, List.find?_cons]
    by_cases c : nm a = z
    · simp [c]
    · have : ¬ ((.inr (nm a) : Key) = .inr z) := fun h => c (Sum.inr.inj h)
      simp only [c, this, decide_false]
      exact ih
theorem put_newG {α : Type} {L : List α} {z : Str} {nm : α → Str} {f : α → V} {v : V} {e : α} (h : ∀ a ∈ L, nm a ≠ z) (he : nm e = z) (hv : f e = v) : putK (L.map fun e => ((.inr (nm e) : Key), f e)) (.inr z) v = (L ++ [e]).map fun e => ((.inr (nm e) : Key), f e) := by
  unfold putK
  rw [if_neg]
  · rw [List.map_append, List.map_cons, List.map_nil, he, hv]
  · intro c
    obtain ⟨kv, hk, hd⟩ := List.any_eq_true.mp c
    obtain ⟨a, ha, rfl⟩ := List.mem_map.mp hk
    exact h a ha (Sum.inr.inj (of_decide_eq_true hd))
/-! ### the dicts of the tellings and of the order -/
def toldD (tv : List (Str × V)) : List (Key × V) := tv.map fun e => (.inr e.1, e.2)
def ordD (ns : List Str) : List (Key × V) := ns.zipIdx.map fun e => (.inr e.1, .int (e.2 : Int))
def lookV (tv : List (Str × V)) (z : Str) : V := ((tv.find? fun e => decide (e.1 = z)).map (·.2)).getD .non
/-- the tellings so far stand there -/
def Tos (K : PySem.W.Frag) (H : Hp) (tv : List (Str × V)) (ps : Tls) : Prop := Paired (fun e p => e.1 = p.1 ∧ Tq K H e.2 p.2) tv ps
theorem Tos.kp {K : PySem.W.Frag} {H H' : Hp} {tv : List (Str × V)} {ps : Tls} (h : Tos K H tv ps) (k : Kp K H H') : Tos K H' tv ps := Paired.mapP h fun _ _ t => ⟨t.1, t.2.kp k⟩
theorem Tos.look {K : PySem.W.Frag} {H : Hp} : ∀ {tv : List (Str × V)} {ps : Tls} {z : Str}, Tos K H tv ps → z ∈ ps.map (·.1) → (∃ e, tv.find? (fun e => decide (e.1 = z)) = some e ∧ e.2 = lookV tv z) ∧ Tq K H (lookV tv z) (lookT ps z) ∧ (z, lookT ps z) ∈ ps
  | _, _, _, .nil, h => by cases h
  | e :: tv, p :: ps, z, .cons r t, h => by
    by_cases c : e.1 = z
    · have c2 : p.1 = z := by rw [← r.1]; exact c
      have e1 : (e :: tv).find? (fun e => decide (e.1 = z)) = some e := by rw [List.find?_cons]; simp [c]
      have e2 : (p :: ps).find? (fun e => decide (e.1 = z)) = some p := by rw [List.find?_cons]; simp [c2]
      have e3 : lookV (e :: tv) z = e.2 := by unfold lookV; rw [e1]; rfl
      have e4 : lookT (p :: ps) z = p.2 := by unfold lookT; rw [e2]; rfl
      exact ⟨⟨e, e1, e3.symm⟩, by rw [e3, e4]; exact r.2, by rw [e4, ← c2]; exact List.mem_cons_self⟩
    · have c2 : ¬ p.1 = z := by rw [← r.1]; exact c
      have h2 : z ∈ ps.map (·.1) := by
        rcases List.mem_cons.mp h with h | h
        · exact absurd h.symm c2
        · exact h
      obtain ⟨⟨e', f1, f2⟩, f3, f4⟩ := Tos.look t h2
      have e1 : (e :: tv).find? (fun e => decide (e.1 = z)) = some e' := by rw [List.find?_cons]; simp [c, f1]
      have e3 : lookV (e :: tv) z = lookV tv z := by unfold lookV; rw [List.find?_cons]; simp [c]
      have e4 : lookT (p :: ps) z = lookT ps z := by unfold lookT; rw [List.find?_cons]; simp [c2]
      exact ⟨⟨e', e1, by rw [e3]; exact f2⟩, by rw [e3, e4]; exact f3, by rw [e4]; exact List.mem_cons_of_mem _ f4⟩
theorem get_told {K : PySem.W.Frag} {H H0 : Hp} {D : Addr} {tv : List (Str × V)} {ps : Tls} {z : Str} (h : H D = some (.dK (toldD tv))) (t : Tos K H0 tv ps) (hz : z ∈ ps.map (·.1)) : DGet H D (.str z) (some (lookV tv z)) := by
  obtain ⟨⟨e, h1, h2⟩, _⟩ := t.look hz
  have := DGet.k (k := .inr z) h
  unfold toldD at this
  rw [val_mapG (nm := fun e : Str × V => e.1) (f := fun e => e.2), h1] at this
  rw [← h2]
  exact this
theorem find_idx : ∀ {ns : List Str} {z : Str} (k : Nat), z ∈ ns → ∃ e, (ns.zipIdx k).find? (fun e => decide (e.1 = z)) = some e ∧ e.2 = ns.idxOf z + k
  | [], _, _, h => by cases h
  | a :: r, z, k, h => by
    rw [List.zipIdx_cons, List.find?_cons]
    by_cases c : a = z
    · subst c
      exact ⟨(a, k), by simp, by simp⟩
    · have h2 : z ∈ r := (List.mem_cons.mp h).resolve_left fun e => c e.symm
      obtain ⟨e, h3, h4⟩ := find_idx (k + 1) h2
      refine ⟨e, by simp [c, h3], ?_⟩
      rw [h4, List.idxOf_cons, show (a == z) = false from beq_eq_false_iff_ne.mpr c]
      simp only [cond_false]
      omega
theorem get_ord {H : Hp} {D : Addr} {ns : List Str} {z : Str} (h : H D = some (.dK (ordD ns))) (hz : z ∈ ns) : DGet H D (.str z) (some (.int (ns.idxOf z : Int))) := by
  obtain ⟨e, h1, h2⟩ := find_idx 0 hz
  have := DGet.k (k := .inr z) h
  unfold ordD at this
  rw [val_mapG (nm := fun e : Str × Nat => e.1) (f := fun e => V.int (e.2 : Int)), h1] at this
  rw [show (ns.idxOf z : Int) = ((e.2 : Nat) : Int) by rw [h2]; simp]
  exact this
/-! ### comprehensions -/
theorem lc_filtP {α : Type} {K : PySem.W.Frag} {j : Nat} {tt : TT} {te : TE} {σ : St} {Q : VK} {l : Addr} {ws : List V} {xs : List α} {H : Hp} (P : Hp → V → α → Prop) (mono : ∀ {H H' : Hp} {v : V} {x : α}, Kp K H H' → P H v x → P H' v x) (keep : α → Bool) (hl : SqL K H l ws) (pr : Paired (P H) ws xs) (few : xs.length ≤ 10000) (hσ : ∀ v, wipe ((wipe σ [j]).set j (some v)) [j] = wipe σ [j])
    (stT : ∀ (v : V) (x : α) (H' : Hp), x ∈ xs → P H' v x → Same H H' → ∀ R : Bool → Hp → Prop, (∀ H4, Same H' H4 → R (keep x) H4) → tt ((wipe σ [j]).set j (some v)) H' R)
    (stE : ∀ (v : V) (H' : Hp), Same H H' → ∀ R : VK, (∀ H4, Same H' H4 → R v H4) → te ((wipe σ [j]).set j (some v)) H' R)
    (fin : ∀ (D : Addr) (vs : List V) (H' : Hp), Same H H' → H D = none → H' D = some (.lst vs) → Paired (P H') vs (xs.filter keep) → Q (.ref D) H') : lcL K (gName j) tt te [j] σ Q (.ref l) H := by
  refine ⟨l, rfl, ⟨_, hl⟩, fun D hD => ?_⟩
  have ln : ws.length = xs.length := Paired.length pr
  refine lc_list (xs := ws) (fun n H' => ∃ vs : List V, Same H H' ∧ H' D = some (.lst vs) ∧ vs.length ≤ n ∧ Paired (P H) vs ((xs.take n).filter keep)) ⟨[], same_new hD _, upd_same, Nat.le_refl _, by rw [List.take_zero]; exact .nil⟩ (fun n H' _ h => by obtain ⟨_, h, _⟩ := h; exact h.seq hl) ?_ ?_
  · rintro n v H' hx ⟨vs, g, d, lv, pr'⟩
    obtain ⟨x, ht, px⟩ := LiI.paired_get pr hx
    have hm := List.mem_of_getElem? ht
    have hn : n < xs.length := (List.getElem?_eq_some_iff.mp ht).1
    have e1 : xs.take (n + 1) = xs.take n ++ [x] := by rw [List.take_succ, ht, Option.toList_some]
    refine ⟨hσ _, ?_⟩
    refine stT v x H' hm (mono (Kp.same g) px) g _ fun H3 g3 => ?_
    cases hk : keep x with
    | false =>
      rw [if_neg (by simp)]
      refine ⟨vs, g.trans g3, g3 _ _ d, by omega, ?_⟩
      rw [e1, List.filter_append, List.filter_cons, hk]
      simpa using pr'
    | true =>
      rw [if_pos rfl]
      refine stE v H3 (g.trans g3) _ fun H4 g4 => ?_
      have d4 := g4 _ _ (g3 _ _ d)
      refine ⟨_, d4, Nat.lt_of_le_of_lt (show vs.length ≤ 10000 by omega) (by decide), vs ++ [v], same_updS ((g.trans g3).trans g4) hD, upd_same, by simp; omega, ?_⟩
      rw [e1, List.filter_append, List.filter_cons, hk]
      simp only [if_true, List.filter_nil]
      exact paired_snocT pr' px
  · rintro H' ⟨vs, g, d, lv, pr'⟩
    rw [ln, List.take_length] at pr'
    exact fin D vs H' g hD d (Paired.mapP pr' fun _ _ h => mono (Kp.same g) h)
theorem lc_mk {α : Type} {K : PySem.W.Frag} {j : Nat} {te : TE} {σ : St} {Q : VK} {l : Addr} {ws : List V} {xs : List α} {H : Hp} (P R : Hp → V → α → Prop) (mono : ∀ {H H' : Hp} {v : V} {x : α}, Kp K H H' → P H v x → P H' v x) (monoR : ∀ {H H' : Hp} {v : V} {x : α}, Kp K H H' → R H v x → R H' v x) (hl : SqL K H l ws) (pr : Paired (P H) ws xs) (few : xs.length ≤ 10000) (hσ : ∀ v, wipe ((wipe σ [j]).set j (some v)) [j] = wipe σ [j])
    (stE : ∀ (v : V) (x : α) (H' : Hp), x ∈ xs → P H' v x → Same H H' → ∀ S : VK, (∀ (u : V) (H4 : Hp), Same H' H4 → R H4 u x → S u H4) → te ((wipe σ [j]).set j (some v)) H' S)
    (fin : ∀ (D : Addr) (vs : List V) (H' : Hp), Same H H' → H D = none → H' D = some (.lst vs) → Paired (R H') vs xs → Q (.ref D) H') : lcL K (gName j) tYes te [j] σ Q (.ref l) H := by
  refine ⟨l, rfl, ⟨_, hl⟩, fun D hD => ?_⟩
  have ln : ws.length = xs.length := Paired.length pr
  refine lc_list (xs := ws) (fun n H' => ∃ vs : List V, Same H H' ∧ H' D = some (.lst vs) ∧ vs.length = n ∧ Paired (R H') vs (xs.take n)) ⟨[], same_new hD _, upd_same, rfl, by rw [List.take_zero]; exact .nil⟩ (fun n H' _ h => by obtain ⟨_, h, _⟩ := h; exact h.seq hl) ?_ ?_
  · rintro n v H' hx ⟨vs, g, d, lv, pr'⟩
    obtain ⟨x, ht, px⟩ := LiI.paired_get pr hx
    have hm := List.mem_of_getElem? ht
    have hn : n < xs.length := (List.getElem?_eq_some_iff.mp ht).1
    have e1 : xs.take (n + 1) = xs.take n ++ [x] := by rw [List.take_succ, ht, Option.toList_some]
    refine ⟨hσ _, ?_⟩
    refine r_yes ?_
    rw [if_pos rfl]
    refine stE v x H' hm (mono (Kp.same g) px) g _ fun u H4 g4 ru => ?_
    have d4 := g4 _ _ d
    have k4 : Kp K H4 (upd H4 D (.lst (vs ++ [u]))) := kp_list d4
    refine ⟨_, d4, Nat.lt_of_le_of_lt (show vs.length ≤ 10000 by omega) (by decide), vs ++ [u], same_updS (g.trans g4) hD, upd_same, by simp [lv], ?_⟩
    rw [e1]
    exact paired_snocT (Paired.mapP pr' fun _ _ h => monoR ((Kp.same g4).trans k4) h) (monoR k4 ru)
  · rintro H' ⟨vs, g, d, lv, pr'⟩
    rw [ln, List.take_length] at pr'
    exact fin D vs H' g hD d pr'
/-! ### a def whose code object is known -/
structure FnC (K : PySem.W.Frag) (mg : Str → Option Value) (x : Str) (st : Stmt) (c : Addr) : Prop where
  ex : ∃ f fd, FnP K x st f fd ∧ mg x = some (.ref f) ∧ fd.code = .ref c
theorem FnC.kn {P : Program} {w : World} {K : PySem.W.Frag} {mg : Str → Option Value} {base : Heap} {k : Nat} {c : Addr} {x : Str} {st : Stmt} {N ps : List Str} {sp : Sp} (F : FnC K mg x st c) (S : FnScope N ps (defScope st)) (len : ∀ vs H Q E, sp vs H Q E → vs.length = ps.length)
    (hbody : ∀ (f : Addr) (A : Around) (outer : List PySem.Env) (s : Shared) (H : Hp) (vs : List V) (Q : VK) (E : XK), Room k (A.deeper (PyProof.Rows.envOfC x (defScope st) s.heap.objs.size f (.ref c))) → sp vs H Q E →
      ∃ t, PSs (cxOf CX0 P w K mg base N x (defScope st) f (.ref c) A outer s H E).nox (defBody st) t ∧ t { nx := fun _ H' => Q .non H', rt := Q } (start N vs) H)
    (hb : ∀ (kV doc pm : Value) (an : Option Addr) (cdv ct : Value) (us : List Value), us.length = ps.length → bindArgs (PySem.W.fnOf x x (defArgs st) (defBody st) (defScope st) .none kV doc pm an cdv ct) ⟨us, []⟩ = pure (ps.zip us)) :
    Kn P w K mg base (k + 1) x ps sp := by
  obtain ⟨f, fd, F, m, hc⟩ := F.ex
  refine ⟨f, fd, ?_, m, F.kp, F.bindsN hb⟩
  obtain ⟨oc, od, dV, kV, doc, pm, an, cdv, ct, osl, rfl, lk, hcd, _, _⟩ := F.ex
  have e : cdv = .ref c := hc
  subst e
  exact fn_of lk hcd S len fun A outer s H vs Q E hr h => by
    obtain ⟨t, p, q⟩ := hbody f A outer s H vs Q E hr h
    exact ⟨t, p.nox, q⟩
/-- all but the tables of code objects stays, what is new was nothing -/
structure Grw (T : List (Addr × Str)) (H H' : Hp) : Prop where
  ext : LamX.ExtN H H'
  new : ∀ b, H' b = none → H b = none
  tabs : LamX.Tabs T H'
theorem Grw.same {T : List (Addr × Str)} {H H' : Hp} (t : LamX.Tabs T H) (s : Same H H') : Grw T H H' := ⟨LamX.ExtN.of s, fun _ h => s.free h, t.ext s⟩
theorem Grw.trans {T : List (Addr × Str)} {H H1 H2 : Hp} (a : Grw T H H1) (b : Grw T H1 H2) : Grw T H H2 := ⟨a.ext.trans b.ext, fun x h => a.new x (b.new x h), b.tabs⟩
theorem Grw.kp {K : PySem.W.Frag} {T : List (Addr × Str)} {H H' : Hp} (a : Grw T H H') : Kp K H H' := fun p xs h => by
  rcases h with h | h
  · refine .inl ?_
    unfold Rd at h ⊢
    rcases h with h | ⟨o, h⟩
    · exact .inl (a.ext _ _ h fun ps z => by cases z)
    · exact .inr ⟨o, a.ext _ _ h fun ps z => by cases z⟩
  · exact .inr h
/-- the height that a weight allows -/
def hgt (w : Int) : Nat := 75 * w.toNat - 15
/-- the sorts of the tellings so far, their sizes, whom the gone ones name -/
structure Tok_ (L : Env) (ps : Tls) : Prop where
  nms : nmsE L = ps.map (·.1)
  srt : ∀ z ∈ nmsE L, sortT (srtE L z) (lookT ps z)
  gon : ∀ z n w, (z, Tell.gone n w) ∈ ps → n ∈ ps.map (·.1)
  tb : ∀ z ∈ nmsE L, Tb (hgt (wtE L z)) (lookT ps z)
  pos : ∀ z ∈ nmsE L, 1 ≤ wtE L z ∧ wtE L z ≤ 40
def spTelling (K : PySem.W.Frag) (T : List (Addr × Str)) : Sp := fun vs H Q _ => ∃ (m D O : Addr) (t : Thq) (L : Env) (tv : List (Str × V)) (ps : Tls), vs = [.str t.1, .ref m, .ref D, .ref O] ∧ Mq K H m t.2.1 t.2.2.1 t.2.2.2 ∧ FitsE t.2.1 t.2.2.1 L ∧ wOf t.2.1 t.2.2.1 L ≤ 40 ∧ Nr t.2.2.2 ∧ H D = some (.dK (toldD tv)) ∧ Tos K H tv ps ∧ H O = some (.dK (ordD (ps.map (·.1) ++ [t.1]))) ∧ Tok_ L ps ∧ LamX.Tabs T H ∧
  ∀ (r : Tell) (v : V) (H' : Hp), TelR (ordT ps) t.1 t.2.1 t.2.2.2 (t.2.2.1.map (lookT ps)) r → Grw T H H' → Tq K H' v r → Q v H'
theorem paired_maps {α β γ : Type} {F : β → γ → Prop} {f : α → β} {g : α → γ} : ∀ (l : List α), (∀ z ∈ l, F (f z) (g z)) → Paired F (l.map f) (l.map g)
  | [], _ => .nil
  | a :: l, h => .cons (h a List.mem_cons_self) (paired_maps l fun z hz => h z (List.mem_cons_of_mem _ hz))
def isGone (t : Tell) : Bool := decide (tagOf t = "gone")
theorem gone_of {t : Tell} (h : isGone t = true) : ∃ n w, t = .gone n w := by
  cases t with
  | gone n w => exact ⟨n, w, rfl⟩
  | ci x y s => exact absurd (show ("circle" : Str) = "gone" from of_decide_eq_true h) (by decide)
  | pt x y => exact absurd (show ("at" : Str) = "gone" from of_decide_eq_true h) (by decide)
  | ln a b c => exact absurd (show ("line" : Str) = "gone" from of_decide_eq_true h) (by decide)
  | kept => exact absurd (show ("kept" : Str) = "gone" from of_decide_eq_true h) (by decide)
  | broken => exact absurd (show ("broken" : Str) = "gone" from of_decide_eq_true h) (by decide)
def tagW (s : Str) : Str := if s = "point" then "at" else s
theorem tru_lst {K : PySem.W.Frag} {H : Hp} {a : Addr} {xs : List V} (h : H a = some (.lst xs)) : TruV K (.ref a) H (!xs.isEmpty) := .inl ⟨xs, lstOf h, rfl⟩
theorem r_ifTru {K : PySem.W.Frag} {te : TE} {a b : TS} {D : Ends} {σ : St} {H : Hp} (q : te σ H fun x H' => ∃ k, TruV K x H' k ∧ if k = true then a D σ H' else b D σ H') : tIfS (fun σ H Q => te σ H fun x H' => ∃ k, TruV K x H' k ∧ Q k H') a b D σ H := q
theorem tk_tb {K : PySem.W.Frag} {H : Hp} {L : Env} {tv : List (Str × V)} {ps : Tls} {z : Str} (tk : Tok_ L ps) (t : Tos K H tv ps) (hz : z ∈ ps.map (·.1)) : Tb (hgt (wtE L z)) (lookT ps z) ∧ Tq K H (lookV tv z) (lookT ps z) := ⟨tk.tb z (by rw [tk.nms]; exact hz), (t.look hz).2.1⟩
theorem idx_app {z : Str} {r : List Str} : ∀ {l : List Str}, z ∈ l → (l ++ r).idxOf z = l.idxOf z
  | [], h => by cases h
  | a :: l, h => by
    rw [List.cons_append, List.idxOf_cons, List.idxOf_cons]
    by_cases c : a = z
    · subst c; simp
    · rw [show (a == z) = false from beq_eq_false_iff_ne.mpr c]
      simp only [cond_false]
      rw [idx_app ((List.mem_cons.mp h).resolve_left fun e => c e.symm)]
def keyT (ps : Tls) : Tell → Int
  | .gone n _ => ordT ps n
  | _ => 0
theorem cut_of {so : Str} {g : List Str} (h : (("cut" : Str), so, g) ∈ wordsTab) : so = "point" ∧ g = (["curve", "circle"] : List Str) := by
  have k : ∀ q ∈ wordsTab, q.1 = "cut" → q.2.1 = "point" ∧ q.2.2 = (["curve", "circle"] : List Str) := by decide +kernel
  exact k _ h rfl
theorem dues_of {x so : Str} {g : List Str} (h : (x, so, g) ∈ wordsTab) : ∀ due ∈ g, due ∈ (["point", "line", "circle", "curve"] : List Str) := by
  have k : ∀ q ∈ wordsTab, ∀ due ∈ q.2.2, due ∈ (["point", "line", "circle", "curve"] : List Str) := by decide +kernel
  exact k _ h
theorem nocurve_of {x so : Str} {g : List Str} (h : (x, so, g) ∈ wordsTab) (n : x ≠ "cut") : ∀ due ∈ g, due ≠ "curve" := by
  have k : ∀ q ∈ wordsTab, q.1 ≠ "cut" → ∀ due ∈ q.2.2, due ≠ "curve" := by decide +kernel
  exact k _ h n
theorem claimW_of {x : Str} {g : List Str} (h : (x, ("claim" : Str), g) ∈ wordsTab) : x ∈ claimW := by
  have k : ∀ q ∈ wordsTab, q.2.1 = "claim" → q.1 ∈ claimW := by decide +kernel
  exact k _ h rfl
theorem fit_cur {s : Str} (h : fitB s "curve" = true) : s = "line" ∨ s = "circle" := by
  unfold fitB at h
  rw [if_pos rfl] at h
  simpa using of_decide_eq_true h
theorem fit_eq {s due : Str} (h : fitB s due = true) (n : due ≠ "curve") : s = due := by
  unfold fitB at h
  rw [if_neg n] at h
  exact of_decide_eq_true h
theorem tag_srt {s : Str} {t : Tell} (h : sortT s t) (n : tagOf t ≠ "gone") : (s = "point" → tagOf t = "at") ∧ (s = "line" → tagOf t = "line") ∧ (s = "circle" → tagOf t = "circle") := by
  cases t with
  | pt x y => have h' : s = "point" := h; subst h'; exact ⟨fun _ => rfl, fun e => absurd e (by decide), fun e => absurd e (by decide)⟩
  | ln x y z => have h' : s = "line" := h; subst h'; exact ⟨fun e => absurd e (by decide), fun _ => rfl, fun e => absurd e (by decide)⟩
  | ci x y z => have h' : s = "circle" := h; subst h'; exact ⟨fun e => absurd e (by decide), fun e => absurd e (by decide), fun _ => rfl⟩
  | kept => have h' : s = "claim" := h; subst h'; exact ⟨fun e => absurd e (by decide), fun e => absurd e (by decide), fun e => absurd e (by decide)⟩
  | broken => have h' : s = "claim" := h; subst h'; exact ⟨fun e => absurd e (by decide), fun e => absurd e (by decide), fun e => absurd e (by decide)⟩
  | gone a b => exact absurd rfl n
/-- a ground that stands is a place, a line or a circle -/
def figT (t : Tell) : Prop := tagOf t = "at" ∨ tagOf t = "line" ∨ tagOf t = "circle"
theorem not_fig {t : Tell} (h : figT t) : (match t with | .pt _ _ => True | .ln _ _ _ => True | .ci _ _ _ => True | _ => False) := by
  cases t with
  | pt x y => trivial
  | ln x y z => trivial
  | ci x y z => trivial
  | kept => rcases h with h | h | h <;> exact absurd h (by decide)
  | broken => rcases h with h | h | h <;> exact absurd h (by decide)
  | gone a b => rcases h with h | h | h <;> exact absurd (show ("gone" : Str) = _ from h) (by decide)
theorem figT_of {s due : Str} {t : Tell} (h : sortT s t) (n : tagOf t ≠ "gone") (hd : due ∈ (["point", "line", "circle", "curve"] : List Str)) (f : fitB s due = true) : figT t := by
  obtain ⟨h1, h2, h3⟩ := tag_srt h n
  by_cases c : due = "curve"
  · subst c
    rcases fit_cur f with e | e
    · exact .inr (.inl (h2 e))
    · exact .inr (.inr (h3 e))
  · have e := fit_eq f c
    subst e
    rcases List.mem_cons.mp hd with e | hd
    · exact .inl (h1 e)
    rcases List.mem_cons.mp hd with e | hd
    · exact .inr (.inl (h2 e))
    rcases List.mem_cons.mp hd with e | hd
    · exact .inr (.inr (h3 e))
    · exact absurd (List.mem_singleton.mp hd) c
theorem srt_of {L : Env} {ps : Tls} (tk : Tok_ L ps) : ∀ {ns g : List Str}, Paired (fun z due => (z ∈ nmsE L ∧ Sok z) ∧ fitB (srtE L z) due = true) ns g → (∀ due ∈ g, due ≠ "curve") → Paired sortT g (ns.map (lookT ps))
  | _, _, .nil, _ => .nil
  | z :: _, due :: _, .cons r t, h => .cons (fit_eq r.2 (h due List.mem_cons_self) ▸ tk.srt z r.1.1) (srt_of tk t fun d hd => h d (List.mem_cons_of_mem _ hd))
theorem part_tell {K : PySem.W.Frag} {H : Hp} {v : V} {t : Tell} (h : Pt K H v t) : ∃ a xs, v = .ref a ∧ SqT K H a xs ∧ xs.length ≤ 3 ∧ (∀ s, sortT s t → tagW s = tagOf t) ∧ ∀ H' o, Kp K H H' → SqT K H' o (.str (tagOf t) :: xs) → Tq K H' (.ref o) t := by
  cases t with
  | pt x y =>
    obtain ⟨a, f, g, rfl, ta, h1, h2⟩ := h
    exact ⟨a, _, rfl, ta, by simp, fun s e => by rw [show s = "point" from e]; rfl, fun H' o k to => ⟨o, f, g, rfl, to, h1.kp k, h2.kp k⟩⟩
  | ln x y z =>
    obtain ⟨a, rfl, ta⟩ := h
    exact ⟨a, _, rfl, ta, by simp, fun s e => by rw [show s = "line" from e]; rfl, fun H' o k to => ⟨o, rfl, to⟩⟩
  | ci x y z =>
    obtain ⟨a, f, g, i, rfl, ta, h1, h2, h3⟩ := h
    exact ⟨a, _, rfl, ta, by simp, fun s e => by rw [show s = "circle" from e]; rfl, fun H' o k to => ⟨o, f, g, i, rfl, to, h1.kp k, h2.kp k, h3.kp k⟩⟩
  | kept => exact h.elim
  | broken => exact h.elim
  | gone a b => exact h.elim
theorem fg_none {x : Str} {d : Tail} {on : List Tell} (h : Fg x d on none) : x ∈ (["line", "circle", "meet"] : List Str) := by
  cases h <;> simp
theorem fg_some {x so : Str} {g : List Str} {d : Tail} {on : List Tell} {t : Tell} (h : Fg x d on (some t)) (tx : (x, so, g) ∈ wordsTab) : sortT so t ∧ so ∈ (["point", "line", "circle"] : List Str) := by
  have k : ∀ q ∈ wordsTab, (q.1 ∈ (["free", "middle", "next", "turn", "share", "foot", "mirror", "meet"] : List Str) → q.2.1 = "point") ∧ (q.1 ∈ (["line", "along", "upright"] : List Str) → q.2.1 = "line") ∧ (q.1 = "circle" → q.2.1 = "circle") := by decide +kernel
  obtain ⟨k1, k2, k3⟩ := k _ tx
  cases h <;> first
    | (have e : so = "point" := k1 (by simp)
       subst e
       exact ⟨rfl, by simp⟩)
    | (have e : so = "line" := k2 (by simp)
       subst e
       exact ⟨rfl, by simp⟩)
    | (have e : so = "circle" := k3 rfl
       subst e
       exact ⟨rfl, by simp⟩)
def spAnew (K : PySem.W.Frag) (T : List (Addr × Str)) : Sp := fun vs H Q _ => ∃ (l : Addr) (us : List V) (ts : List Thq), vs = [.ref l] ∧ SqL K H l us ∧ Rwq K H us ts ∧ Gr [] ts ∧ ts.length ≤ 60 ∧ LamX.Tabs T H ∧
  ∀ (out : Tls) (p : Addr) (vs : List V) (H' : Hp), AR [] ts out → Grw T H H' → H p = none → H' p = some (.lst vs) → Paired (Tq K H') vs (out.map (·.2)) → Q (.ref p) H'
theorem AR.snoc : ∀ {a b : List Thq} {ps qs : Tls} {t : Thq} {v : Tell}, AR ps a qs → TelR (ordT qs) t.1 t.2.1 t.2.2.2 (t.2.2.1.map (lookT qs)) v → AR ps (a ++ [t]) (qs ++ [(t.1, v)])
  | [], _, _, _, _, _, .nil, h => .cons h .nil
  | _ :: _, _, _, _, _, _, .cons h0 k, h => .cons h0 (AR.snoc (b := []) k h)
theorem AR.nms : ∀ {a : List Thq} {ps qs : Tls}, AR ps a qs → qs.map (·.1) = ps.map (·.1) ++ a.map (·.1)
  | [], _, _, .nil => by simp
  | _ :: _, _, _, .cons h k => by rw [AR.nms k]; simp
theorem envOf_nms : ∀ {a : List Thq} {L : Env}, nmsE (envOf L (a.map thOf)) = nmsE L ++ a.map (·.1)
  | [], L => by simp [envOf]
  | t :: a, L => by
    rw [List.map_cons]
    show nmsE (envOf (envStep L (thOf t)) (a.map thOf)) = _
    rw [envOf_nms]
    simp [nmsE, envStep, thOf]
theorem lookT_old {ps : Tls} {z : Str} {e : Str × Tell} (h : z ∈ ps.map (·.1)) : lookT (ps ++ [e]) z = lookT ps z := by
  unfold lookT
  rw [List.find?_append]
  obtain ⟨p, hp, rfl⟩ := List.mem_map.mp h
  cases c : ps.find? fun e => decide (e.1 = p.1) with
  | none =>
    have := List.find?_eq_none.mp c p hp
    simp at this
  | some w => rfl
theorem lookT_new {ps : Tls} {e : Str × Tell} (h : e.1 ∉ ps.map (·.1)) : lookT (ps ++ [e]) e.1 = e.2 := by
  unfold lookT
  rw [List.find?_append, List.find?_eq_none.mpr fun p hp => by simpa using fun c : p.1 = e.1 => h (c ▸ List.mem_map_of_mem (f := (·.1)) hp)]
  simp
theorem srtE_old {L : Env} {z : Str} {e : Str × Str × Int} (h : z ∈ nmsE L) : srtE (L ++ [e]) z = srtE L z := by
  unfold srtE
  obtain ⟨p, hp, hf⟩ := find_in h
  rw [List.find?_append, hf]
  rfl
theorem srtE_new {L : Env} {e : Str × Str × Int} (h : e.1 ∉ nmsE L) : srtE (L ++ [e]) e.1 = e.2.1 := by
  unfold srtE
  rw [List.find?_append, List.find?_eq_none.mpr fun p hp => by simpa using fun c : p.1 = e.1 => h (c ▸ List.mem_map_of_mem (f := (·.1)) hp)]
  simp
theorem claim_so {x so : Str} {g : List Str} (h : (x, so, g) ∈ wordsTab) (c : x ∈ claimW) : so = "claim" := by
  have k : ∀ q ∈ wordsTab, q.1 ∈ claimW → q.2.1 = "claim" := by decide +kernel
  exact k _ h c
theorem cut_tell {z : Str} {n : Int} {a b t : Tell} (h : Cut z n a b t) : sortT "point" t ∧ ∀ m w, t = .gone m w → m = z := by
  induction h with
  | miss e h => exact ⟨trivial, fun m w e => by cases e; rfl⟩
  | root e h h' => exact ⟨trivial, fun m w e => by cases e; rfl⟩
  | «at» e h h' hu => exact ⟨rfl, fun m w e => by cases e⟩
  | centre => exact ⟨trivial, fun m w e => by cases e; rfl⟩
  | rings e l g0 g1 g2 g3 k ih => exact ih
/-- the sort of what is told, and whom it names -/
theorem TelR.sort {ord : Str → Int} {z x : Str} {d : Tail} {on : List Tell} {t : Tell} (h : TelR ord z x d on t) {so : Str} {g : List Str} (tx : (x, so, g) ∈ wordsTab) : sortT so t ∧ ∀ n w, t = .gone n w → n = z ∨ .gone n w ∈ on := by
  cases h with
  | gone h h' => exact ⟨trivial, fun n w e => .inr (by cases e; exact h)⟩
  | cut nog e e' eo k =>
    subst e
    obtain ⟨rfl, _⟩ := cut_of tx
    obtain ⟨h1, h2⟩ := cut_tell k
    exact ⟨h1, fun n w e => .inl (h2 n w e)⟩
  | @claim b nog e k =>
    have := claim_so tx e
    subst this
    cases b with
    | true => exact ⟨rfl, fun n w e => by cases e⟩
    | false => exact ⟨rfl, fun n w e => by cases e⟩
  | fig nog k =>
    obtain ⟨h1, _⟩ := fg_some k tx
    exact ⟨h1, fun n w e => by subst e; cases k⟩
  | fig0 nog k => exact ⟨trivial, fun n w e => by cases e; exact .inl rfl⟩
theorem wtE_old {L : Env} {z : Str} {e : Str × Str × Int} (h : z ∈ nmsE L) : wtE (L ++ [e]) z = wtE L z := by
  unfold wtE
  obtain ⟨p, hp, hf⟩ := find_in h
  rw [List.find?_append, hf]
  rfl
theorem wtE_new {L : Env} {e : Str × Str × Int} (h : e.1 ∉ nmsE L) : wtE (L ++ [e]) e.1 = e.2.2 := by
  unfold wtE
  rw [List.find?_append, List.find?_eq_none.mpr fun p hp => by simpa using fun c : p.1 = e.1 => h (c ▸ List.mem_map_of_mem (f := (·.1)) hp)]
  simp
theorem two_gr {x so : Str} {g : List Str} (h : (x, so, g) ∈ wordsTab) (n : x ≠ "free") : 2 ≤ g.length := by
  have k : ∀ q ∈ wordsTab, q.1 ≠ "free" → 2 ≤ q.2.2.length := by decide +kernel
  exact k _ h n
theorem sum_pos1 {L : Env} : ∀ {ns : List Str}, (∀ z ∈ ns, 1 ≤ wtE L z) → (ns.length : Int) ≤ (ns.map (wtE L)).sum
  | [], _ => by simp
  | z :: r, h => by
    have := sum_pos1 (ns := r) fun z hz => h z (List.mem_cons_of_mem _ hz)
    have := h z List.mem_cons_self
    rw [List.map_cons, List.sum_cons, List.length_cons]
    omega
/-- a thing's weight is one or more -/
theorem w_pos {x : Str} {ns : List Str} {L : Env} (f : FitsE x ns L) (pos : ∀ z ∈ nmsE L, 1 ≤ wtE L z ∧ wtE L z ≤ 40) : 1 ≤ wOf x ns L := by
  obtain ⟨so, g, tx, pr⟩ := f
  have inE : ∀ z ∈ ns, 1 ≤ wtE L z := fun z hz => (pos z (paired_left (P := fun z => z ∈ nmsE L) (fun _ _ h => h.1.1) pr z hz)).1
  by_cases c : x = "free"
  · subst c
    exact Int.le_refl 1
  · have l2 := two_gr tx c
    rw [← Paired.length pr] at l2
    have sm := sum_pos1 inE
    match ns, l2, inE, sm with
    | z1 :: z2 :: r, _, inE, sm =>
      have h1 := inE z1 (by simp)
      have h2 := inE z2 (by simp)
      unfold wOf
      rw [if_neg c]
      show 1 ≤ (if x = "foot" ∨ x = "mirror" then wtE L z1 + 2 * wtE L z2 else if x = "cut" then (if srtE L z1 = "circle" then 5 * (wtE L z1 + wtE L z2) else 2 * wtE L z1 + wtE L z2) else if x = "round" ∨ x = "alike" then 2 * ((z1 :: z2 :: r).map (wtE L)).sum else ((z1 :: z2 :: r).map (wtE L)).sum)
      rw [List.length_cons, List.length_cons] at sm
      generalize ((z1 :: z2 :: r).map (wtE L)).sum = S at *
      split
      · omega
      · split
        · split <;> omega
        · split <;> omega
theorem Gt.wpos {L : Env} {t : Thq} (gt : Gt L t) (pos : ∀ z ∈ nmsE L, 1 ≤ wtE L z ∧ wtE L z ≤ 40) : 1 ≤ wOf t.2.1 t.2.2.1 L := w_pos gt.fit pos
theorem hgt_lim {w : Int} (h : w ≤ 40) : hgt w ≤ 2985 := by unfold hgt; omega
theorem wH_no {x : Str} {a b : Nat} (n : ¬ (x = "foot" ∨ x = "mirror")) : wH x [a, b] = a + b := by
  unfold wH
  rw [if_neg n]
  simp
theorem wH_ft {x : Str} {a b : Nat} (n : x = "foot" ∨ x = "mirror") : wH x [a, b] = a + b + b := by
  unfold wH
  rw [if_pos n]
  simp
theorem wOf_two {x z1 z2 : Str} {L : Env} (n1 : x ≠ "free") (n2 : ¬ (x = "foot" ∨ x = "mirror")) (n3 : x ≠ "cut") (n4 : ¬ (x = "round" ∨ x = "alike")) : wOf x [z1, z2] L = wtE L z1 + wtE L z2 := by
  unfold wOf
  rw [if_neg n1, if_neg n2, if_neg n3, if_neg n4]
  simp
theorem wOf_ft {x z1 z2 : Str} {L : Env} (n1 : x ≠ "free") (n2 : x = "foot" ∨ x = "mirror") : wOf x [z1, z2] L = wtE L z1 + 2 * wtE L z2 := by
  unfold wOf
  rw [if_neg n1, if_pos n2]
  rfl
theorem wOf_cut {z1 z2 : Str} {L : Env} : wOf "cut" [z1, z2] L = if srtE L z1 = "circle" then 5 * (wtE L z1 + wtE L z2) else 2 * wtE L z1 + wtE L z2 := by
  unfold wOf
  rw [if_neg (by decide), if_neg (by decide), if_pos rfl]
  rfl
theorem fig_hgt {x so : Str} {g ns : List Str} {L : Env} (tx : (x, so, g) ∈ wordsTab) (n1 : so ≠ "claim") (n2 : x ≠ "cut") (n3 : x ≠ "free") (ln : ns.length = g.length) (pos : ∀ z ∈ ns, 1 ≤ wtE L z) : wH x (ns.map fun z => hgt (wtE L z)) + 12 ≤ hgt (wOf x ns L) := by
  have two : ∀ g : List Str, g.length = 2 → ns.length = g.length → ∃ z1 z2, ns = [z1, z2] := fun g e ln => by
    rw [e] at ln
    match ns, ln with
    | [a, b], _ => exact ⟨a, b, rfl⟩
  obtain h1 | h1 | h1 | h1 | h1 | h1 | h1 | h1 | h1 | h1 | h1 | h1 := figs_of tx n1 n2
  · exact absurd h1.1 n3
  all_goals
    obtain ⟨rfl, rfl⟩ := h1
    obtain ⟨z1, z2, rfl⟩ := two _ rfl ln
    have h1 := pos z1 (by simp)
    have h2 := pos z2 (by simp)
    show wH _ [hgt (wtE L z1), hgt (wtE L z2)] + 12 ≤ _
    first
      | (rw [wH_no (by decide), wOf_two (by decide) (by decide) (by decide) (by decide)]
         unfold hgt
         omega)
      | (rw [wH_ft (by decide), wOf_ft (by decide) (by decide)]
         unfold hgt
         omega)
theorem fig_lim {x so : Str} {g ns : List Str} {L : Env} (tx : (x, so, g) ∈ wordsTab) (n1 : so ≠ "claim") (n2 : x ≠ "cut") (ln : ns.length = g.length) (pos : ∀ z ∈ ns, 1 ≤ wtE L z) (w : wOf x ns L ≤ 40) : wH x (ns.map fun z => hgt (wtE L z)) ≤ 3000 := by
  by_cases c : x = "free"
  · subst c
    have e := nil_of tx rfl
    subst e
    obtain rfl : ns = [] := List.length_eq_zero_iff.mp ln
    rw [List.map_nil]
    decide
  · have := fig_hgt tx n1 n2 c ln pos
    have := hgt_lim w
    omega
theorem nr_sz {q : Rat} {b : Int} {n : Nat} (h : NrB q b) (l : b.toNat ≤ 2 ^ n) : Sz n q := by
  obtain ⟨h1, h2⟩ := h
  exact ⟨Nat.lt_of_lt_of_le (show q.num.natAbs < b.toNat by omega) l, Nat.lt_of_lt_of_le (show (q.den : Int).natAbs < b.toNat by omega) l⟩
/-- how great a figure's numbers are -/
theorem Fg.tb {x : Str} {d : Tail} {on : List Tell} {t : Tell} (h : Fg x d on (some t)) {hs : List Nat} (b : Paired (fun t n => Tb n t) on hs) (nr : Nr d) {N : Nat} (l0 : 60 ≤ N) (l : x ≠ "free" → wH x hs + 12 ≤ N) : Tb N t := by
  have L2 : ∀ {a b : Nat}, hs = [a, b] → x ≠ "free" → a + b + 12 ≤ N := fun {a b} e n => by
    have := l n
    rw [e] at this
    unfold wH at this
    split at this <;> simp at this <;> omega
  have L3 : ∀ {a b : Nat}, hs = [a, b] → x = "foot" ∨ x = "mirror" → a + (b + b) + 12 ≤ N := fun {a b} e n => by
    have := l (by rcases n with rfl | rfl <;> decide)
    rw [e] at this
    unfold wH at this
    rw [if_pos n] at this
    simp at this
    omega
  cases h with
  | free => exact (Jh.of_sz (nr_sz (n := 30) nr.1 (by decide)) (nr_sz (n := 30) nr.2 (by decide))).mono l0
  | middle =>
    obtain ⟨h1, h2, e, b1, b2⟩ := two_list' b
    exact (jh_mid b1 b2).mono (L2 e (by decide))
  | next =>
    obtain ⟨h1, h2, e, b1, b2⟩ := two_list' b
    exact (jh_next b1 b2).mono (L2 e (by decide))
  | turn =>
    obtain ⟨h1, h2, e, b1, b2⟩ := two_list' b
    exact (jh_turn b1 b2).mono (L2 e (by decide))
  | share =>
    obtain ⟨h1, h2, e, b1, b2⟩ := two_list' b
    exact (jh_share b1 b2 (nr_sz nr (by decide))).mono (L2 e (by decide))
  | foot o u =>
    obtain ⟨h1, h2, e, b1, c1, c2, c3, c4⟩ := two_list' b
    exact (jh_foot c1 o u b1 c2 c3 c4).mono (L3 e (.inl rfl))
  | mirror o u =>
    obtain ⟨h1, h2, e, b1, c1, c2, c3, c4⟩ := two_list' b
    exact (jh_mirror c1 o u b1 c2 c3 c4).mono (L3 e (.inr rfl))
  | meet dd o o' =>
    obtain ⟨h1, h2, e, ⟨b1, b2, b3, b4⟩, c1, c2, c3, c4⟩ := two_list' b
    exact (jh_meet dd o o' b2 b3 b4 c2 c3 c4).mono (by have := L2 e (by decide); omega)
  | line ne ll o o' =>
    obtain ⟨h1, h2, e, b1, b2⟩ := two_list' b
    have := L2 e (by decide)
    obtain ⟨s1, s2, s3⟩ := jh_line ll ne o o' b1 b2
    exact ⟨ll, s1.mono (by omega), s2.mono (by omega), s3.mono (by omega)⟩
  | along ll o r =>
    obtain ⟨h1, h2, e, b1, c1, c2, c3, c4⟩ := two_list' b
    have := L2 e (by decide)
    obtain ⟨s1, s2, s3⟩ := jh_along ll c1.nz o r b1 c2 c3
    exact ⟨ll, s1.mono (by omega), s2.mono (by omega), s3.mono (by omega)⟩
  | upright ll o r =>
    obtain ⟨h1, h2, e, b1, c1, c2, c3, c4⟩ := two_list' b
    have := L2 e (by decide)
    obtain ⟨s1, s2, s3⟩ := jh_up ll c1.nz o r b1 c2 c3
    exact ⟨ll, s1.mono (by omega), s2.mono (by omega), s3.mono (by omega)⟩
  | circle ne =>
    obtain ⟨h1, h2, e, b1, b2⟩ := two_list' b
    exact ⟨_, _, h1, h2, by have := L2 e (by decide); omega, b1, b2, rfl⟩
/-- how great a cut's numbers are -/
theorem Cut.tb {z : Str} {n : Int} {c r t : Tell} (h : Cut z n c r t) : ∀ {k m : Nat}, Tb k c → Tb m r → ∀ {N : Nat}, (tagOf c = "line" → k + k + m + 12 ≤ N) → (tagOf c = "circle" → 5 * (k + m) + 60 ≤ N) → Tb N t := by
  induction h with
  | miss e h => intro k m bc br N l1 l2; trivial
  | root e h h' => intro k m bc br N l1 l2; trivial
  | centre => intro k m bc br N l1 l2; trivial
  | @«at» a b c x y s d t u e h h' hu =>
    intro k m bc br N l1 l2
    obtain ⟨e⟩ := e
    refine (jh_cut (u := u) bc.1 br (by rw [h', e]) ?_ bc.2.1 bc.2.2.1 bc.2.2.2).mono (l1 rfl)
    rw [hu]
    split
    · exact .inr rfl
    · exact .inl rfl
  | rings e l g0 g1 g2 g3 kk ih =>
    intro k m bc br N l1 l2
    obtain ⟨w1, w2, w3⟩ := jh_rings l e bc br g1 g2 g3
    have := l2 rfl
    exact ih (k := k + k + (m + m) + 12) (m := k) ⟨l, w1, w2, w3⟩ bc (fun _ => by omega) (fun z => absurd (show ("line" : Str) = "circle" from z) (by decide))
/-- what is told is within the thing's height -/
theorem TelR.tb {L : Env} {ps : Tls} {t : Thq} {v : Tell} (tk : Tok_ L ps) (gt : Gt L t) (h : TelR (ordT ps) t.1 t.2.1 t.2.2.2 (t.2.2.1.map (lookT ps)) v) : Tb (hgt (wOf t.2.1 t.2.2.1 L)) v := by
  obtain ⟨z, x, ns, d⟩ := t
  have wp := gt.wpos tk.pos
  have w40 := gt.wt.2
  obtain ⟨so, g, tx, pr⟩ := gt.fit
  have nr : Nr d := gt.near
  replace wp : 1 ≤ wOf x ns L := wp
  replace tx : (x, so, g) ∈ wordsTab := tx
  replace pr : Paired (fun z due => (z ∈ nmsE L ∧ Sok z) ∧ fitB (srtE L z) due = true) ns g := pr
  show Tb (hgt (wOf x ns L)) v
  have inE : ∀ z ∈ ns, z ∈ nmsE L := fun z hz => paired_left (P := fun z => z ∈ nmsE L) (fun _ _ h => h.1.1) pr z hz
  have pos : ∀ z ∈ ns, 1 ≤ wtE L z := fun z hz => (tk.pos z (inE z hz)).1
  have h60 : 60 ≤ hgt (wOf x ns L) := by unfold hgt; omega
  cases h with
  | gone h h' => trivial
  | fig0 nog k => trivial
  | @claim b nog e k => cases b <;> trivial
  | fig nog k =>
    obtain ⟨_, so3⟩ := fg_some k tx
    have n1 : so ≠ "claim" := fun e => by subst e; exact absurd so3 (by decide)
    have n2 : x ≠ "cut" := fun e => by
      rw [show x = "cut" from e] at k
      cases k
    exact k.tb (paired_maps (F := fun t n => Tb n t) (g := fun z => hgt (wtE L z)) ns fun z hz => tk.tb z (inE z hz)) nr h60 fun n3 => fig_hgt tx n1 n2 n3 (Paired.length pr) pos
  | @cut n c r t nog e e' eo k =>
    replace e : x = "cut" := e
    subst e
    obtain ⟨rfl, rfl⟩ := cut_of tx
    obtain ⟨z1, z2, rfl, ⟨⟨m1, _⟩, f1⟩, ⟨m2, _⟩, f2⟩ := two_list pr
    replace eo : [lookT ps z1, lookT ps z2] = [c, r] := eo
    obtain ⟨rfl, rfl⟩ : lookT ps z1 = c ∧ lookT ps z2 = r := by
      injection eo with a b
      injection b with b _
      exact ⟨a, b⟩
    have p1 := pos z1 (by simp)
    have p2 := pos z2 (by simp)
    have s1 := tk.srt z1 m1
    refine k.tb (tk.tb z1 m1) (tk.tb z2 m2) (fun c => ?_) (fun c => ?_)
    · obtain ⟨a, b, cc, e⟩ := tag_ln c
      rw [e] at s1
      have s1 : srtE L z1 = "line" := s1
      show _ ≤ hgt (wOf "cut" [z1, z2] L)
      rw [wOf_cut, s1, if_neg (by decide)]
      unfold hgt
      omega
    · obtain ⟨a, b, cc, e⟩ := tag_ci c
      rw [e] at s1
      have s1 : srtE L z1 = "circle" := s1
      show _ ≤ hgt (wOf "cut" [z1, z2] L)
      rw [wOf_cut, s1, if_pos rfl]
      unfold hgt
      omega
theorem Tok_.step {L : Env} {ps : Tls} {t : Thq} {v : Tell} (tk : Tok_ L ps) (gt : Gt L t) (h : TelR (ordT ps) t.1 t.2.1 t.2.2.2 (t.2.2.1.map (lookT ps)) v) (tos : ∀ z ∈ ps.map (·.1), (z, lookT ps z) ∈ ps) : Tok_ (envStep L (thOf t)) (ps ++ [(t.1, v)]) := by
  obtain ⟨so, g, tx, pr⟩ := gt.fit
  obtain ⟨h1, h2⟩ := h.sort tx
  have nz : t.1 ∉ ps.map (·.1) := by rw [← tk.nms]; exact gt.new
  have e1 : nmsE (envStep L (thOf t)) = nmsE L ++ [t.1] := by simp [nmsE, envStep, thOf]
  refine ⟨by rw [e1, tk.nms]; simp, fun z hz => ?_, fun z n w hz => ?_, fun z hz => ?_, fun z hz => ?_⟩
  · rw [e1] at hz
    rcases List.mem_append.mp hz with hz | hz
    · rw [lookT_old (by rw [← tk.nms]; exact hz)]
      unfold envStep
      rw [srtE_old hz]
      exact tk.srt z hz
    · have es : srtE (envStep L (thOf t)) t.1 = sOf t.2.1 := srtE_new (e := ((thOf t).1, sOf (thOf t).2.1, wOf (thOf t).2.1 (thOf t).2.2 L)) gt.new
      have ev : lookT (ps ++ [(t.1, v)]) t.1 = v := lookT_new (e := (t.1, v)) nz
      rw [List.mem_singleton.mp hz, es, ev]
      rw [sOf_eq tx]
      exact h1
  · rw [List.map_append]
    rcases List.mem_append.mp hz with hz | hz
    · exact List.mem_append_left _ (tk.gon z n w hz)
    · have e := List.mem_singleton.mp hz
      have ev : v = .gone n w := (congrArg Prod.snd e).symm
      rcases h2 n w ev with rfl | hm
      · exact List.mem_append_right _ (by simp)
      · obtain ⟨y, hy, ey⟩ := List.mem_map.mp hm
        have hy' : y ∈ ps.map (·.1) := by rw [← tk.nms]; exact (gt.fit.okm.2 y hy).1
        have := tos y hy'
        rw [ey] at this
        exact List.mem_append_left _ (tk.gon y n w this)
  · rw [e1] at hz
    rcases List.mem_append.mp hz with hz | hz
    · rw [lookT_old (by rw [← tk.nms]; exact hz)]
      unfold envStep
      rw [wtE_old hz]
      exact tk.tb z hz
    · have es : wtE (envStep L (thOf t)) t.1 = wOf t.2.1 t.2.2.1 L := wtE_new (e := ((thOf t).1, sOf (thOf t).2.1, wOf (thOf t).2.1 (thOf t).2.2 L)) gt.new
      have ev : lookT (ps ++ [(t.1, v)]) t.1 = v := lookT_new (e := (t.1, v)) nz
      rw [List.mem_singleton.mp hz, es, ev]
      exact TelR.tb tk gt h
  · rw [e1] at hz
    rcases List.mem_append.mp hz with hz | hz
    · unfold envStep
      rw [wtE_old hz]
      exact tk.pos z hz
    · have es : wtE (envStep L (thOf t)) t.1 = wOf t.2.1 t.2.2.1 L := wtE_new (e := ((thOf t).1, sOf (thOf t).2.1, wOf (thOf t).2.1 (thOf t).2.2 L)) gt.new
      rw [List.mem_singleton.mp hz, es]
      exact ⟨gt.wpos tk.pos, gt.wt.2⟩
theorem Grw.set {T : List (Addr × Str)} {H H1 : Hp} {D : Addr} {a b : List (Key × V)} (g : Grw T H H1) (n : H D = none) (e : H1 D = some (.dK a)) : Grw T H (upd H1 D (.dK b)) := by
  have st : ∀ x o, H1 x = some o → (∀ kvs, o ≠ .dK kvs) → upd H1 D (.dK b) x = some o := fun x o h k => by
    have : x ≠ D := fun z => by
      rw [z, e] at h
      exact k a (Option.some.inj h).symm
    rw [upd_ne this]
    exact h
  refine ⟨fun x o h k => ?_, fun x h => ?_, fun p hp => ?_⟩
  · have : x ≠ D := fun z => by rw [z, n] at h; cases h
    rw [upd_ne this]
    exact g.ext x o h k
  · by_cases z : x = D
    · rw [z, upd_same] at h; cases h
    · rw [upd_ne z] at h
      exact g.new x h
  · obtain ⟨qs, h1, h2, h3⟩ := g.tabs p hp
    refine ⟨qs, st _ _ h1 (fun _ z => by cases z), h2, fun pos cv hc => ?_⟩
    obtain ⟨c, e1, e2⟩ := h3 pos cv hc
    exact ⟨c, e1, st _ _ e2 (fun _ z => by unfold LamX.CodeO at z; cases z)⟩
theorem Grw.dict {T : List (Addr × Str)} {H H' : Hp} {D : Addr} {a : List (Key × V)} (g : Grw T H H') (e : H D = some (.dK a)) : H' D = some (.dK a) := g.ext _ _ e fun _ z => by cases z
theorem Grw.seq {K : PySem.W.Frag} {T : List (Addr × Str)} {H H' : Hp} {p : Addr} {xs : List V} (a : Grw T H H') (h : SqL K H p xs) : SqL K H' p xs := by
  rcases h with h | h
  · refine .inl ?_
    unfold Rd at h ⊢
    rcases h with h | ⟨o, h⟩
    · exact .inl (a.ext _ _ h fun ps z => by cases z)
    · exact .inr ⟨o, a.ext _ _ h fun ps z => by cases z⟩
  · exact .inr h
theorem tok0 : Tok_ [] [] := by
  refine ⟨rfl, fun z hz => ?_, fun z n w hz => ?_, fun e he => ?_, fun e he => ?_⟩
  · cases hz
  · cases hz
  · cases he
  · cases he
theorem ord_put {ns : List Str} {z : Str} (h : z ∉ ns) : putK (ordD ns) (.inr z) (.int ((ordD ns).length : Int)) = ordD (ns ++ [z]) := by
  unfold ordD
  rw [List.zipIdx_append]
  refine put_newG (nm := fun e : Str × Nat => e.1) (f := fun e => V.int (e.2 : Int)) (e := (z, 0 + ns.length)) (fun a ha e => h ?_) rfl ?_
  · rw [← e]
    have := List.mem_map_of_mem (f := (·.1)) ha
    rw [List.zipIdx_map_fst] at this
    exact this
  · simp
theorem told_put {tv : List (Str × V)} {z : Str} {v : V} (h : z ∉ tv.map (·.1)) : putK (toldD tv) (.inr z) v = toldD (tv ++ [(z, v)]) :=
  put_newG (nm := fun e : Str × V => e.1) (f := fun e => e.2) (e := (z, v)) (fun _ ha e => h (e ▸ List.mem_map_of_mem (f := (·.1)) ha)) rfl rfl
theorem paired_map2 {α β γ δ : Type} {F : α → β → Prop} {G : γ → δ → Prop} {f : α → γ} {g : β → δ} (k : ∀ a b, F a b → G (f a) (g b)) : ∀ {l : List α} {m : List β}, Paired F l m → Paired G (l.map f) (m.map g)
  | _, _, .nil => .nil
  | _, _, .cons r t => .cons (k _ _ r) (paired_map2 k t)
theorem Tos.nms {K : PySem.W.Frag} {H : Hp} : ∀ {tv : List (Str × V)} {ps : Tls}, Tos K H tv ps → tv.map (·.1) = ps.map (·.1)
  | _, _, .nil => rfl
  | e :: _, p :: _, .cons r t => by
    rw [List.map_cons, List.map_cons, r.1, Tos.nms t]
end Mb
namespace Mb
open PySem PySem.Spec PyProof.Rows L2 LamX NdefX
theorem r_minL {X : Cx} {T : List (Addr × Str)} {N : List Str} {js : List Nat} {tb : TE} {t : TA} {σ : L2.St} {H : Hp} {Q : VK} (q : t σ H fun vs H1 => ∃ l xs, vs = [V.ref l] ∧ Tabs T H1 ∧ ∀ H2, ExtN H1 H2 → (∀ b, H2 b = Option.none → H1 b = Option.none) → Tabs T H2 →
  SqL X.K H2 l xs ∧ (∀ v ∈ xs, ∃ a, v = V.ref a) ∧ 0 < xs.length ∧ ∃ key : Nat → Int, (∀ i v, xs[i]? = some v → tb (startF N [v] (js.map (slotAt σ))) H2 fun y H' => y = .int (key i) ∧ H' = H2) ∧ ∀ i v, xs[i]? = some v → (∀ j, j < xs.length → key i ≤ key j) → Q v H2) : tMinL X T N js tb t σ H Q := q
end Mb
namespace Mb
open PySem L2
/-! ### drawn rows with their numbers and sorts -/
theorem fb_fq {K : PySem.W.Frag} {H : Hp} {f : Addr} {a b : Int} (h : Fb a b) (k : SqT K H f [.int a, .int b]) : Fq K H (.ref f) (Rat.divInt a b) ∧ NrB (Rat.divInt a b) 1000000000 := by
  have hb : b ≠ 0 := by have := h.pos; omega
  obtain ⟨f1, f2⟩ := low_rat (t := a) hb
  obtain ⟨f3, f4⟩ := low_eq (a := a) (b := b) hb h.pos h.one rfl
  have en : (Rat.divInt a b).num = a := by rw [← f1, f3]
  have ed : ((Rat.divInt a b).den : Int) = b := by rw [← f2, f4]
  have := h.tb
  have := h.ub
  exact ⟨⟨f, rfl, by rw [en, ed]; exact k⟩, by unfold NrB; rw [en, ed]; exact ⟨by omega, by omega⟩⟩
theorem low_fq {K : PySem.W.Frag} {H : Hp} {o : Addr} {t b : Int} {B : Int} (hb : 0 < b) (h : H o = some (.tup [.int (lowT t b), .int (lowB t b)])) (h1 : (t.natAbs : Int) < B) (h2 : b < B) : Fq K H (.ref o) (Rat.divInt t b) ∧ NrB (Rat.divInt t b) B := by
  have hb' : b ≠ 0 := by omega
  obtain ⟨f1, f2⟩ := low_rat (t := t) hb'
  have a1 := lowT_le (t := t) hb'
  have a2 := lowB_le (t := t) hb'
  have a3 := lowB_pos (t := t) hb'
  refine ⟨Fq.of _ hb' rfl h, ?_⟩
  unfold NrB
  rw [← f1, ← f2]
  exact ⟨by omega, by omega⟩
theorem nt0 {K : PySem.W.Frag} {H : Hp} {x : Str} (h1 : x ≠ "free") (h2 : x ≠ "share") (h3 : x ≠ "cut") : Ntl K H x [] .no := ⟨h1, h2, h3, rfl⟩
def spMakingQ (K : PySem.W.Frag) : Sp := fun vs H Q _ => ∃ (p B P Ln C Z : Addr) (pts lns crs cls : List Str) (b : Int), vs = [.ref p, .ref B] ∧ Pl H p b ∧ b ≤ 1700000 ∧ By H p B P Ln C Z pts lns crs cls ∧
  ∀ (m : Addr) (x s : Str) (g ns : List Str) (d : Tail) (H' : Hp), But p H H' → Pl H' p (b + 100) → Mq K H' m x ns d → Nr d → (x, s, g) ∈ wordsTab → Paired (Fit pts lns crs) g ns → Q (.ref m) H'
/-- the names of each sort are of that sort -/
structure Srt (L : Env) (pts lns crs : List Str) : Prop where
  p : ∀ z ∈ pts, (z ∈ nmsE L ∧ Sok z) ∧ srtE L z = "point"
  l : ∀ z ∈ lns, (z ∈ nmsE L ∧ Sok z) ∧ srtE L z = "line"
  c : ∀ z ∈ crs, (z ∈ nmsE L ∧ Sok z) ∧ srtE L z = "circle"
theorem fitsE_of {pts lns crs : List Str} {x s : Str} {g ns : List Str} {L : Env} (tx : (x, s, g) ∈ wordsTab) (pr : Paired (Fit pts lns crs) g ns) (h : Srt L pts lns crs) : FitsE x ns L := by
  refine ⟨s, g, tx, ?_⟩
  have go : ∀ {g ns : List Str}, Paired (Fit pts lns crs) g ns → Paired (fun z due => (z ∈ nmsE L ∧ Sok z) ∧ fitB (srtE L z) due = true) ns g := by
    intro g ns pr
    induction pr with
    | nil => exact .nil
    | cons r t ih =>
      refine .cons ?_ ih
      rcases r with ⟨rfl, h1⟩ | ⟨rfl, h1⟩ | ⟨rfl, h1⟩ | ⟨rfl, h1 | h1⟩
      · exact ⟨(h.p _ h1).1, by rw [(h.p _ h1).2]; decide⟩
      · exact ⟨(h.l _ h1).1, by rw [(h.l _ h1).2]; decide⟩
      · exact ⟨(h.c _ h1).1, by rw [(h.c _ h1).2]; decide⟩
      · exact ⟨(h.l _ h1).1, by rw [(h.l _ h1).2]; decide⟩
      · exact ⟨(h.c _ h1).1, by rw [(h.c _ h1).2]; decide⟩
  exact go pr
theorem fits_free {L : Env} : FitsE "free" [] L := ⟨"point", [], by decide +kernel, .nil⟩
theorem lw_let {c : Nat} (h : isLw c = true) : c ∈ LET.cps.toList := by
  obtain ⟨h1, h2⟩ := Bool.and_eq_true_iff.mp h
  have h1 := of_decide_eq_true h1
  have h2 := of_decide_eq_true h2
  have k : ∀ i, i < 26 → 97 + i ∈ LET.cps.toList := by decide +kernel
  have := k (c - 97) (by omega)
  rwa [show 97 + (c - 97) = c by omega] at this
theorem lf_okc {c : Nat} (h : isLf c = true) : okc c = true := by
  rcases Bool.or_eq_true_iff.mp h with h | h
  · unfold okc
    rw [decide_eq_true (lw_let h), Bool.true_or]
  · obtain ⟨h1, h2⟩ := Bool.and_eq_true_iff.mp h
    have h1 := of_decide_eq_true h1
    have h2 := of_decide_eq_true h2
    have k : ∀ i, i < 10 → 48 + i ∈ FIG.cps.toList := by decide +kernel
    have := k (c - 48) (by omega)
    rw [show 48 + (c - 48) = c by omega] at this
    unfold okc
    rw [decide_eq_true this, Bool.or_true]
theorem sok_good {z : Str} (h : Sok z) : goodB z = true := by
  obtain ⟨⟨h1, h2⟩, _⟩ := h
  unfold Gd at h2
  have hl : z.cps.toList.length = z.length := Array.length_toList
  unfold goodB headB
  cases e : z.cps.toList with
  | nil => rw [e] at h2; exact absurd h2 (by decide)
  | cons c r =>
    rw [e] at h2 hl
    obtain ⟨g1, g2⟩ := Bool.and_eq_true_iff.mp (show (isLw c && r.all isLf) = true from h2)
    rw [List.length_cons] at hl
    rw [decide_eq_true (show 1 ≤ (z.length : Int) by omega), decide_eq_true (show (z.length : Int) ≤ 12 by omega), show firstB (c :: r) = decide (c ∈ LET.cps.toList) from rfl, decide_eq_true (lw_let g1), List.all_cons, lf_okc (show isLf c = true by unfold isLf; rw [g1, Bool.true_or])]
    simp only [Bool.true_and]
    rw [List.all_eq_true] at g2 ⊢
    exact fun x hx => lf_okc (g2 x hx)
theorem Gr.join : ∀ (a b : List Thq) (L : Env), Gr L a → Gr (envOf L (a.map thOf)) b → Gr L (a ++ b)
  | [], _, _, _, h => h
  | _ :: a, b, _, h, h2 => ⟨h.1, Gr.join a b _ h.2 h2⟩
theorem gr_snoc {ts : List Thq} {t : Thq} (h : Gr [] ts) (g : Gt (envOf [] (ts.map thOf)) t) : Gr [] (ts ++ [t]) := Gr.join _ _ _ h ⟨g, trivial⟩
theorem envq_snoc {ts : List Thq} {t : Thq} : envOf [] ((ts ++ [t]).map thOf) = envStep (envOf [] (ts.map thOf)) (thOf t) := by rw [List.map_append]; exact env_snoc
structure AllQ (K : PySem.W.Frag) (H H' : Hp) (p R B S W P Ln C Z : Addr) (c : Int) (us : List V) (ts : List Thq) (pts lns crs cls : List Str) : Prop where
  bt : But p H H'
  pl : Pl H' p c
  eR : H' R = some (.lst us)
  rw : Rwq K H' us ts
  bi : By H' p B P Ln C Z pts lns crs cls
  dc : Dc H' S W (envOf [] (ts.map thOf))
  gr : Gr [] ts
  srt : Srt (envOf [] (ts.map thOf)) pts lns crs
  ln : pts.length ≤ ts.length ∧ lns.length ≤ ts.length ∧ crs.length ≤ ts.length ∧ cls.length ≤ ts.length
theorem AllQ.but {K : PySem.W.Frag} {H H' H2 : Hp} {p R B S W P Ln C Z : Addr} {c c' : Int} {us : List V} {ts : List Thq} {pts lns crs cls : List Str} (h : AllQ K H H' p R B S W P Ln C Z c us ts pts lns crs cls) (k : But p H' H2) (pl : Pl H2 p c') (nR : R ≠ p) : AllQ K H H2 p R B S W P Ln C Z c' us ts pts lns crs cls :=
  ⟨h.bt.trans k, pl, k _ _ nR h.eR, h.rw.kp (Kp.but k h.pl), h.bi.but k, h.dc.but k h.pl, h.gr, h.srt, h.ln⟩
theorem AllQ.same {K : PySem.W.Frag} {H H' H2 : Hp} {p R B S W P Ln C Z : Addr} {c : Int} {us : List V} {ts : List Thq} {pts lns crs cls : List Str} (h : AllQ K H H' p R B S W P Ln C Z c us ts pts lns crs cls) (k : Same H' H2) (nR : R ≠ p) : AllQ K H H2 p R B S W P Ln C Z c us ts pts lns crs cls := h.but (But.same k) (h.pl.same k) nR
theorem srt_old {L : Env} {t : Thing} {z : Str} (h : z ∈ nmsE L) : srtE (envStep L t) z = srtE L z := srtE_old h
/-- the names of each sort, one more -/
theorem Srt.step {L : Env} {t : Thing} {pts lns crs pts' lns' crs' : List Str} (h : Srt L pts lns crs) (nz : t.1 ∉ nmsE L) (ok : Sok t.1)
    (k : (pts' = pts ++ [t.1] ∧ lns' = lns ∧ crs' = crs ∧ sOf t.2.1 = "point") ∨ (pts' = pts ∧ lns' = lns ++ [t.1] ∧ crs' = crs ∧ sOf t.2.1 = "line") ∨ (pts' = pts ∧ lns' = lns ∧ crs' = crs ++ [t.1] ∧ sOf t.2.1 = "circle") ∨ (pts' = pts ∧ lns' = lns ∧ crs' = crs)) : Srt (envStep L t) pts' lns' crs' := by
  have old : ∀ {z s : Str}, (z ∈ nmsE L ∧ Sok z) ∧ srtE L z = s → (z ∈ nmsE (envStep L t) ∧ Sok z) ∧ srtE (envStep L t) z = s := fun {z s} h => ⟨⟨by rw [nms_step]; exact List.mem_append_left _ h.1.1, h.1.2⟩, by rw [srt_old h.1.1]; exact h.2⟩
  have new : ∀ {s : Str}, sOf t.2.1 = s → (t.1 ∈ nmsE (envStep L t) ∧ Sok t.1) ∧ srtE (envStep L t) t.1 = s := fun {s} e => ⟨⟨by rw [nms_step]; simp, ok⟩, by rw [srt_step nz]; exact e⟩
  have one : ∀ {l : List Str} {s : Str}, (∀ z ∈ l, (z ∈ nmsE L ∧ Sok z) ∧ srtE L z = s) → sOf t.2.1 = s → ∀ z ∈ l ++ [t.1], (z ∈ nmsE (envStep L t) ∧ Sok z) ∧ srtE (envStep L t) z = s := fun {l s} h e z hz => by
    rcases List.mem_append.mp hz with hz | hz
    · exact old (h z hz)
    · rw [List.mem_singleton.mp hz]
      exact new e
  rcases k with ⟨rfl, rfl, rfl, e⟩ | ⟨rfl, rfl, rfl, e⟩ | ⟨rfl, rfl, rfl, e⟩ | ⟨rfl, rfl, rfl⟩
  · exact ⟨one h.p e, fun z hz => old (h.l z hz), fun z hz => old (h.c z hz)⟩
  · exact ⟨fun z hz => old (h.p z hz), one h.l e, fun z hz => old (h.c z hz)⟩
  · exact ⟨fun z hz => old (h.p z hz), fun z hz => old (h.l z hz), one h.c e⟩
  · exact ⟨fun z hz => old (h.p z hz), fun z hz => old (h.l z hz), fun z hz => old (h.c z hz)⟩
end Mb
namespace Mb
open PySem PySem.Spec PyProof.Rows L2
/-! ### the head's facts with tables of text keys and empty tables of code objects -/
def obsWX (n : Nat) (fa : List He.Fa) (fn : List He.DefD) (ts : List He.Tab) (tf : List He.Defn) (xb : PySem.W.Frag → Bool) (g : Addr → Option Obj) : He.AlT × Bool := (He.obsT fa fn ts (He.frT g (He.asD g n ++ [cStatics])), xb (He.frT g (He.asD g n ++ [cStatics])) && He.tabsB g tf (He.frT g (He.asD g n ++ [cStatics])))
theorem tabsB_says {g : Addr → Option Obj} {as : List Addr} {tf : List He.Defn} (h : He.tabsB g tf (He.frT g as) = true) : ∀ p ∈ tf, PySem.W.codeHdIn (He.frT g as) (He.cT (He.frT g as) p).1 (He.cT (He.frT g as) p).2 = true ∧ (He.frT g as).lookup (He.cT (He.frT g as) p).2 = none ∧ g (He.cT (He.frT g as) p).2 = some { cls := .none, data := .fields #[] } := fun p hp => by
  obtain ⟨h1, h2⟩ := He.ba (List.all_eq_true.mp h p hp)
  cases q : g (He.cT (He.frT g as) p).2 with
  | none =>
    rw [q] at h2
    cases h2
  | some o =>
    rw [q] at h2
    exact ⟨h1, He.frT_none q h2, by rw [He.emptyTab_eq h2]⟩
def hookWX (n : Nat) (fa : List He.Fa) (fn : List He.DefD) (ts : List He.Tab) (tf : List He.Defn) (xb : PySem.W.Frag → Bool) : PySem.W.Hook where
  α := He.AlT × Bool
  obs := fun s => obsWX n fa fn ts tf xb s.heap.get?
  val := fun w => (He.valT fn ts w, true)
  says := fun w h => ∃ K : PySem.W.Frag, K.In h ∧ He.SaysX fa fn ts tf xb w h K
  of := fun w s e => by
    have e1 := congrArg Prod.fst e
    obtain ⟨e2, e3⟩ := He.ba (show (xb _ && He.tabsB _ tf _) = true from congrArg Prod.snd e)
    have k := tabsB_says e3
    exact ⟨_, He.frT_in, ⟨e1, e2, fun p hp => (k p hp).1, fun p hp => (k p hp).2.1, fun p hp => (k p hp).2.2⟩⟩
  keeps := fun _ _ _ ⟨K, hK, c⟩ k => ⟨K, PySem.W.Frag.In.keeps hK k, ⟨c.t, c.more, c.hd, c.out, fun p hp => k _ _ (c.empty p hp)⟩⟩
theorem obsWX_eq {n : Nat} {fa : List He.Fa} {fn : List He.DefD} {ts : List He.Tab} {tf : List He.Defn} {xb : PySem.W.Frag → Bool} {g : Addr → Option Obj} {s : Shared} (h : ∀ a, g a = s.heap.get? a) : obsWX n fa fn ts tf xb g = (hookWX n fa fn ts tf xb).obs s := by
  have e : g = s.heap.get? := funext h
  subst e
  rfl
/-- the same over a tree that is made once of the heap -/
def hookWT (n : Nat) (fa : List He.Fa) (fn : List He.DefD) (ts : List He.Tab) (tf : List He.Defn) (xb : PySem.W.Frag → Bool) : PySem.W.Hook where
  α := Option (He.AlT × Bool)
  obs := fun s => (HandSHeadRun.treeOf s).bind fun x => HandSHeadRun.frS x fun x => some (obsWX n fa fn ts tf xb (HandSHeadRun.getT x))
  val := fun w => some (He.valT fn ts w, true)
  says := (hookWX n fa fn ts tf xb).says
  of := fun w s e => by
    obtain ⟨x, hx, e2⟩ := Option.bind_eq_some_iff.mp e
    rw [HandSHeadRun.frS_eq] at e2
    have e3 := Option.some.inj e2
    rw [obsWX_eq (HandSHeadRun.getT_eq x), (HandSHeadRun.treeOf_eq hx).1] at e3
    exact (hookWX n fa fn ts tf xb).of w s e3
  keeps := (hookWX n fa fn ts tf xb).keeps
/-! ### what the head tells, by parts -/
theorem fnC_of {K : PySem.W.Frag} {mg : Str → Option Value} {x : Str} {st : Stmt} {fd : FuncData} (F : FnP K x st (He.fAd K (x, none)) fd) (m : mg x = some (.ref (He.fAd K (x, none)))) : FnC K mg x st (He.cT K (x, none)).1 := by
  have F' := F
  obtain ⟨oc, od, dV, kV, doc, pm, an, cdv, ct, osl, e, lk, hcd, _, _⟩ := F'.ex
  obtain ⟨c, rfl⟩ := He.codeIn_ref hcd
  refine ⟨_, fd, F, m, ?_⟩
  have h2 : fd.code = .ref c := by rw [e] <;> rfl
  rw [show (He.cT K (x, none)).1 = c from He.codeOf_eq lk h2]
  exact h2
/-- a table of the text: keys and their texts -/
def txB (K : PySem.W.Frag) (a : Addr) (l : List (Str × Str)) : Bool := l.all fun q => match PySem.W.nsIn K a q.1 with
  | some (some (.str z _)) => decide (z = q.2)
  | _ => false
theorem tx_of {K : PySem.W.Frag} {w : World} {a : Addr} {l : List (Str × Str)} (h : txB K a l = true) (d : ∃ es n, KDict K w a es n) : ∀ q ∈ l, KDct K w a q.1 (.str q.2) := fun q hq => by
  have h1 := List.all_eq_true.mp h q hq
  obtain ⟨es, n, D⟩ := d
  cases e : PySem.W.nsIn K a q.1 with
  | none => rw [e] at h1; cases h1
  | some o =>
    cases o with
    | none => rw [e] at h1; cases h1
    | some v =>
      cases v with
      | str z t =>
        rw [e] at h1
        have ez : z = q.2 := of_decide_eq_true h1
        subst ez
        exact ⟨es, n, _, D.at_, D.lit, e, ⟨t, rfl⟩⟩
      | _ => rw [e] at h1; cases h1
def standL : List (Str × Str) := [("point", "at"), ("line", "line"), ("circle", "circle")]
def failL : List (Str × Str) := [("line", "same"), ("circle", "same"), ("meet", "parallel")]
def tellTs : List He.Tab := [(fun K => He.ga K "WORDS", wordsKeys), (fun K => He.ga K "STANDING", standL.map (·.1)), (fun K => He.ga K "FAILING", failL.map (·.1))]
theorem stand_of {K : PySem.W.Frag} {w : World} {a : Addr} (h : ∀ q ∈ standL, KDct K w a q.1 (.str q.2)) : ∀ x ∈ (["point", "line", "circle"] : List Str), KDct K w a x (.str (tagW x)) := fun x hx => by
  rcases List.mem_cons.mp hx with rfl | hx
  · exact h ("point", "at") (by unfold standL; simp)
  rcases List.mem_cons.mp hx with rfl | hx
  · exact h ("line", "line") (by unfold standL; simp)
  · rw [List.mem_singleton.mp hx]
    exact h ("circle", "circle") (by unfold standL; simp)
theorem fail_of {K : PySem.W.Frag} {w : World} {a : Addr} (h : ∀ q ∈ failL, KDct K w a q.1 (.str q.2)) : ∀ x ∈ (["line", "circle", "meet"] : List Str), KDct K w a x (.str (failW x)) := fun x hx => by
  rcases List.mem_cons.mp hx with rfl | hx
  · exact h ("line", "same") (by unfold failL; simp)
  rcases List.mem_cons.mp hx with rfl | hx
  · exact h ("circle", "same") (by unfold failL; simp)
  · rw [List.mem_singleton.mp hx]
    exact h ("meet", "parallel") (by unfold failL; simp)
def spLawT (K : PySem.W.Frag) (P : Addr) : Sp := fun vs H Q _ => ∃ (a : Addr) (ns : List Int), vs = [.ref a] ∧ SqL K H a (ns.map V.int) ∧ ns.length ≤ 63 ∧ H P = some (.tbl #[]) ∧ ∀ H', Q (.bl true) H'
end Mb
namespace Mb
open PySem PySem.Spec PyProof.Rows L2
/-! ### d.values() as a value, max of it -/
section
variable {X : Cx} {e : Expr} {te : TE} {apos cpos : Pos}
end
end Mb
namespace Mb
open PySem L2
/-! ### one thing alone is told -/
theorem noGone_not {on : List Tell} {n w : Str} (g : noGone on) (h : .gone n w ∈ on) : False := g _ h rfl
theorem cut_not_claim {x : Str} (h : x ∈ claimW) : x ≠ "cut" := fun e => by
  subst e
  exact absurd h (by decide)
theorem fg_not {x : Str} {d : Tail} {on : List Tell} {r : Option Tell} (h : Fg x d on r) : x ≠ "cut" ∧ x ∉ claimW := by
  cases h <;> exact ⟨by decide, by decide⟩
end Mb
namespace Mb
open PySem L2
/-! ### the tellings of a whole row -/
theorem look_in : ∀ {ps : Tls} {z : Str}, z ∈ ps.map (·.1) → (z, lookT ps z) ∈ ps
  | [], _, h => by cases h
  | p :: ps, z, h => by
    by_cases c : p.1 = z
    · have e : lookT (p :: ps) z = p.2 := by unfold lookT; rw [List.find?_cons]; simp [c]
      rw [e, ← c]
      exact List.mem_cons_self
    · have e : lookT (p :: ps) z = lookT ps z := by unfold lookT; rw [List.find?_cons]; simp [c]
      rw [e]
      refine List.mem_cons_of_mem _ (look_in ?_)
      rcases List.mem_cons.mp h with h | h
      · exact absurd h.symm c
      · exact h
theorem TelR.ord {ord ord' : Str → Int} {z x : Str} {d : Tail} {on : List Tell} {t : Tell} (h : TelR ord z x d on t) (e : ∀ n w, .gone n w ∈ on → ord n = ord' n) : TelR ord' z x d on t := by
  cases h with
  | gone h h' => exact .gone h fun n' w' m => by rw [← e _ _ h, ← e _ _ m]; exact h' n' w' m
  | cut g e1 e2 e3 k => exact .cut g e1 e2 e3 k
  | claim g e1 k => exact .claim g e1 k
  | fig g k => exact .fig g k
  | fig0 g k => exact .fig0 g k
/-- who is named as gone is told as that -/
def Own (ps : Tls) : Prop := ∀ z n w, (z, Tell.gone n w) ∈ ps → n ∈ ps.map (·.1) ∧ lookT ps n = .gone n w
theorem ord_old {ps : Tls} {e : Str × Tell} {z : Str} (h : z ∈ ps.map (·.1)) : ordT (ps ++ [e]) z = ordT ps z := by
  unfold ordT
  rw [List.map_append, idx_app h]
theorem AR.run : ∀ {ts : List Thq} {ps out : Tls} {L : Env}, AR ps ts out → Gr L ts → Tok_ L ps → Own ps → (∀ z ∈ ps.map (·.1), lookT out z = lookT ps z ∧ ordT out z = ordT ps z ∧ z ∈ out.map (·.1)) ∧ Tok_ (envOf L (ts.map thOf)) out ∧ Own out ∧ ∀ t ∈ ts, TelR (ordT out) t.1 t.2.1 t.2.2.2 (t.2.2.1.map (lookT out)) (lookT out t.1)
  | [], _, _, _, .nil, _, tk, ow => ⟨fun _ h => ⟨rfl, rfl, h⟩, tk, ow, fun _ h => by cases h⟩
  | t :: r, ps, out, L, .cons (v := v) h k, gr, tk, ow => by
    have gt := gr.1
    obtain ⟨so, g, tx, pr⟩ := id gt.fit
    have inP : ∀ z ∈ t.2.2.1, z ∈ ps.map (·.1) := fun z hz => by rw [← tk.nms]; exact paired_left (P := fun z => z ∈ nmsE L) (fun _ _ h => h.1.1) pr z hz
    have gin : ∀ n w, Tell.gone n w ∈ t.2.2.1.map (lookT ps) → n ∈ ps.map (·.1) ∧ lookT ps n = .gone n w := fun n w hm => by
      obtain ⟨y, hy, e⟩ := List.mem_map.mp hm
      have := look_in (inP y hy)
      rw [e] at this
      exact ow _ _ _ this
    have nz : t.1 ∉ ps.map (·.1) := by rw [← tk.nms]; exact gt.new
    have new : lookT (ps ++ [(t.1, v)]) t.1 = v := lookT_new (e := (t.1, v)) nz
    have tk' := tk.step gt h fun z hz => look_in hz
    have ow' : Own (ps ++ [(t.1, v)]) := fun z n w hm => by
      rcases List.mem_append.mp hm with hm | hm
      · obtain ⟨h1, h2⟩ := ow z n w hm
        exact ⟨by rw [List.map_append]; exact List.mem_append_left _ h1, by rw [lookT_old h1]; exact h2⟩
      · have e := List.mem_singleton.mp hm
        have ev : v = .gone n w := (congrArg Prod.snd e).symm
        rcases (h.sort tx).2 n w ev with rfl | hm
        · exact ⟨by simp, by rw [new, ev]⟩
        · obtain ⟨h1, h2⟩ := gin n w hm
          exact ⟨by rw [List.map_append]; exact List.mem_append_left _ h1, by rw [lookT_old h1]; exact h2⟩
    obtain ⟨i1, i2, i3, i4⟩ := AR.run k gr.2 tk' ow'
    have old : ∀ z ∈ ps.map (·.1), lookT out z = lookT ps z ∧ ordT out z = ordT ps z ∧ z ∈ out.map (·.1) := fun z hz => by
      obtain ⟨h1, h2, h3⟩ := i1 z (by rw [List.map_append]; exact List.mem_append_left _ hz)
      exact ⟨by rw [h1, lookT_old hz], by rw [h2, ord_old hz], h3⟩
    refine ⟨old, i2, i3, fun u hu => ?_⟩
    rcases List.mem_cons.mp hu with rfl | hu
    · have ev : lookT out u.1 = v := by rw [(i1 u.1 (by simp)).1, new]
      have eo : u.2.2.1.map (lookT out) = u.2.2.1.map (lookT ps) := List.map_congr_left fun z hz => (old z (inP z hz)).1
      rw [ev, eo]
      exact h.ord fun n w hm => (old n (gin n w hm).1).2.1.symm
    · exact i4 u hu
theorem own0 : Own [] := fun _ _ _ h => by cases h
theorem AR.all {ts : List Thq} {out : Tls} (ar : AR [] ts out) (gr : Gr [] ts) : Tok_ (envOf [] (ts.map thOf)) out ∧ Own out ∧ ∀ t ∈ ts, TelR (ordT out) t.1 t.2.1 t.2.2.2 (t.2.2.1.map (lookT out)) (lookT out t.1) := (AR.run ar gr tok0 own0).2
theorem nms_of {ts : List Thq} : nmsE (envOf [] (ts.map thOf)) = ts.map (·.1) := by rw [envOf_nms]; rfl
end Mb
namespace Mb
open PySem L2
/-! ### a row with two neighbours exchanged -/
structure EnvEq (L L' : Env) : Prop where
  n : ∀ z, z ∈ nmsE L ↔ z ∈ nmsE L'
  s : ∀ z, srtE L z = srtE L' z
  w : ∀ z, wtE L z = wtE L' z
end Mb
namespace Mb
open PySem L2
/-! ### k34: rows drawn thing by thing, each of its own pool -/
theorem AllQ.sm {K : PySem.W.Frag} {H H' : Hp} {p R B S W P Ln C Z : Addr} {c : Int} {us : List V} {ts : List Thq} {pts lns crs cls : List Str} (h : AllQ K H H' p R B S W P Ln C Z c us ts pts lns crs cls) (n : H p = none) : Same H H' := fun a o e => h.bt a o (fun z => by rw [z, n] at e; cases e) e
theorem AllQ.repool {K : PySem.W.Frag} {H H' H2 : Hp} {p p' R B S W P Ln C Z : Addr} {c c' : Int} {us : List V} {ts : List Thq} {pts lns crs cls : List Str} (h : AllQ K H H' p R B S W P Ln C Z c us ts pts lns crs cls) (n : H p = none) (s : Same H' H2) (n' : H' p' = none) (hp : Pl H2 p' c') : AllQ K H H2 p' R B S W P Ln C Z c' us ts pts lns crs cls := by
  have ne : ∀ {b : Addr} {o : HO}, H' b = some o → b ≠ p' := fun h z => by rw [z, n'] at h; cases h
  exact ⟨But.same ((h.sm n).trans s), hp, s _ _ h.eR, h.rw.kp (Kp.same s), ⟨s _ _ h.bi.b, s _ _ h.bi.eP, s _ _ h.bi.eL, s _ _ h.bi.eC, s _ _ h.bi.eZ, ne h.bi.eP, ne h.bi.eL, ne h.bi.eC, ne h.bi.eZ, h.bi.f, ne h.bi.b⟩, h.dc.same s, h.gr, h.srt, h.ln⟩
def let34 (i : Nat) : Nat := ("qdzamxkbwcyplh" : Str).cps.toList.getD (i % 14) 0
def nm34 (i : Nat) : Str := (⟨#[let34 i]⟩ : Str) ++ Str.ofString (toString (i : Int))
def spPlaceC (K : PySem.W.Frag) : Sp := fun vs H Q _ => ∃ (p : Addr) (b : Int), vs = [.ref p] ∧ Pl H p b ∧ b ≤ 1700000 ∧
  ∀ (o f g : Addr) (t u r s : Int) (H' : Hp), But p H H' → Pl H' p (b + 30) → H' o = some (.tup [.ref f, .ref g]) → SqT K H' f [.int t, .int u] → SqT K H' g [.int r, .int s] → Fb t u → Fb r s → Q (.ref o) H'
end Mb
namespace Mb
open PySem L2
/-! ### k34: tellings as data, the first that fails -/
theorem lc_fm {K : PySem.W.Frag} {j : Nat} {tt : TT} {te : TE} {σ : St} {Q : VK} {l : Addr} {zs : List Str} {H : Hp} (F : Str → V) (keep : Str → Bool) (hl : SqL K H l (zs.map V.str)) (few : zs.length ≤ 10000) (hσ : ∀ v, wipe ((wipe σ [j]).set j (some v)) [j] = wipe σ [j])
    (stT : ∀ z ∈ zs, ∀ H' : Hp, Same H H' → ∀ R : Bool → Hp → Prop, (∀ H4, Same H' H4 → R (keep z) H4) → tt ((wipe σ [j]).set j (some (.str z))) H' R)
    (stE : ∀ z ∈ zs, ∀ H' : Hp, Same H H' → ∀ R : VK, (∀ H4, Same H' H4 → R (F z) H4) → te ((wipe σ [j]).set j (some (.str z))) H' R)
    (fin : ∀ (D : Addr) (H' : Hp), Same H H' → H D = none → H' D = some (.lst ((zs.filter keep).map F)) → Q (.ref D) H') : lcL K (gName j) tt te [j] σ Q (.ref l) H := by
  refine ⟨l, rfl, ⟨_, hl⟩, fun D hD => ?_⟩
  refine lc_list (xs := zs.map V.str) (fun n H' => Same H H' ∧ H' D = some (.lst (((zs.take n).filter keep).map F))) ⟨same_new hD _, by rw [List.take_zero]; exact upd_same⟩ (fun n H' _ h => h.1.seq hl) ?_ ?_
  · rintro n v H' hx ⟨g, d⟩
    rw [List.getElem?_map] at hx
    obtain ⟨z, hz, rfl⟩ := Option.map_eq_some_iff.mp hx
    have hm := List.mem_of_getElem? hz
    have hn : n < zs.length := (List.getElem?_eq_some_iff.mp hz).1
    have e1 : zs.take (n + 1) = zs.take n ++ [z] := by rw [List.take_succ, hz, Option.toList_some]
    refine ⟨hσ _, ?_⟩
    refine stT z hm H' g _ fun H3 g3 => ?_
    cases hk : keep z with
    | false =>
      rw [if_neg (by simp)]
      refine ⟨g.trans g3, ?_⟩
      rw [e1, List.filter_append, List.filter_cons, hk]
      simpa using g3 _ _ d
    | true =>
      rw [if_pos rfl]
      refine stE z hm H3 (g.trans g3) _ fun H4 g4 => ?_
      have d4 := g4 _ _ (g3 _ _ d)
      refine ⟨_, d4, ?_, same_updS ((g.trans g3).trans g4) hD, ?_⟩
      · rw [List.length_map]
        have := List.length_filter_le keep (zs.take n)
        rw [List.length_take] at this
        exact Nat.lt_of_le_of_lt (show _ ≤ 10000 by omega) (by decide)
      · rw [e1, List.filter_append, List.filter_cons, hk]
        simp only [if_true, List.filter_nil, List.map_append]
        exact upd_same
  · rintro H' ⟨g, d⟩
    rw [List.length_map, List.take_length] at d
    exact fin D H' g hD d
/-- a telling as data -/
def dT : Tell → PyData
  | .pt x y => .tuple [.str "at", .tuple [.int x.num, .int x.den], .tuple [.int y.num, .int y.den]]
  | .ln a b c => .tuple [.str "line", .int a, .int b, .int c]
  | .ci x y s => .tuple [.str "circle", .tuple [.int x.num, .int x.den], .tuple [.int y.num, .int y.den], .tuple [.int s.num, .int s.den]]
  | .kept => .tuple [.str "kept"]
  | .broken => .tuple [.str "broken"]
  | .gone n w => .tuple [.str "gone", .str n, .str w]
theorem Fq.dpT {K : PySem.W.Frag} {H : Hp} {v : V} {x : Rat} (h : Fq K H v x) : Dp K H v (.tuple [.int x.num, .int x.den]) := by
  obtain ⟨a, rfl, t⟩ := h
  exact .tup t (.cons (.int _) (.cons (.int _) .nil))
theorem Tq.dp {K : PySem.W.Frag} {H : Hp} {v : V} {t : Tell} (h : Tq K H v t) : Dp K H v (dT t) := by
  cases t with
  | pt x y => obtain ⟨a, f, g, rfl, h1, h2, h3⟩ := h; exact .tup h1 (.cons (.str _) (.cons h2.dpT (.cons h3.dpT .nil)))
  | ln a b c => obtain ⟨p, rfl, h1⟩ := h; exact .tup h1 (.cons (.str _) (.cons (.int _) (.cons (.int _) (.cons (.int _) .nil))))
  | ci x y s => obtain ⟨a, f, g, i, rfl, h1, h2, h3, h4⟩ := h; exact .tup h1 (.cons (.str _) (.cons h2.dpT (.cons h3.dpT (.cons h4.dpT .nil))))
  | kept => obtain ⟨a, rfl, h1⟩ := h; exact .tup h1 (.cons (.str _) .nil)
  | broken => obtain ⟨a, rfl, h1⟩ := h; exact .tup h1 (.cons (.str _) .nil)
  | gone n w => obtain ⟨a, rfl, h1⟩ := h; exact .tup h1 (.cons (.str _) (.cons (.str _) (.cons (.str _) .nil)))
/-- its texts are plain -/
def okT : Tell → Prop
  | .gone n w => PyData.strOk n = true ∧ PyData.strOk w = true
  | _ => True
theorem tags_ok : PyData.strOk "at" = true ∧ PyData.strOk "line" = true ∧ PyData.strOk "circle" = true ∧ PyData.strOk "kept" = true ∧ PyData.strOk "broken" = true ∧ PyData.strOk "gone" = true := by decide +kernel
theorem dT_lay {t : Tell} (h : okT t) : PyData.canLay0 (dT t) = true := by
  obtain ⟨a1, a2, a3, a4, a5, a6⟩ := tags_ok
  cases t with
  | pt x y => simp only [dT, PyData.canLay0, PyData.canLayAll0, a1, Bool.and_self]
  | ln a b c => simp only [dT, PyData.canLay0, PyData.canLayAll0, a2, Bool.and_self]
  | ci x y s => simp only [dT, PyData.canLay0, PyData.canLayAll0, a3, Bool.and_self]
  | kept => simp only [dT, PyData.canLay0, PyData.canLayAll0, a4, Bool.and_self]
  | broken => simp only [dT, PyData.canLay0, PyData.canLayAll0, a5, Bool.and_self]
  | gone n w => simp only [dT, PyData.canLay0, PyData.canLayAll0, a6, h.1, h.2, Bool.and_self]
theorem dT_ok {t : Tell} (h : okT t) : SeqAt.shaped (dT t) = true ∧ PyData.canLay0 (dT t) = true := by
  refine ⟨?_, dT_lay h⟩
  unfold SeqAt.shaped
  rw [dT_lay h, Bool.true_and]
  cases t <;> rfl
theorem r_neTell {K : PySem.W.Frag} {H : Hp} {Q : VK} {v w : V} {t : Tell} (h1 : Tq K H v t) (h2 : Tq K H w t) (ok : okT t) (k : Q (.bl false) H) : rNeD K v w H Q := r_neTrue h1.dp h2.dp (dT_ok ok).1 (dT_ok ok).2 k
def fail5 : List Str := ["parallel", "same", "miss", "root", "centre"]
theorem cut_word {z : Str} {n : Int} {a b t : Tell} (h : Cut z n a b t) : ∀ m w, t = .gone m w → w ∈ fail5 := by
  induction h with
  | miss e h => intro m w e; cases e; decide
  | root e h h' => intro m w e; cases e; decide
  | «at» e h h' hu => intro m w e; cases e
  | centre => intro m w e; cases e; decide
  | rings e l g0 g1 g2 g3 k ih => exact ih
theorem TelR.word {ord : Str → Int} {z x : Str} {d : Tail} {on : List Tell} {t : Tell} (h : TelR ord z x d on t) : ∀ n w, t = .gone n w → w ∈ fail5 ∨ .gone n w ∈ on := by
  intro n w e
  cases h with
  | gone h h' => exact .inr (by cases e; exact h)
  | cut g e1 e2 e3 k => exact .inl (cut_word k n w e)
  | @claim b g e1 k => cases b <;> cases e
  | fig g k => subst e; cases k
  | fig0 g k =>
    cases e
    refine .inl ?_
    unfold failW
    split <;> decide
/-- all texts of the tellings are plain -/
theorem AR.okT : ∀ {ts : List Thq} {ps out : Tls} {L : Env}, AR ps ts out → Gr L ts → nmsE L = ps.map (·.1) → (∀ e ∈ ps, PyData.strOk e.1 = true ∧ okT e.2) → Own ps → Tok_ L ps → ∀ e ∈ out, PyData.strOk e.1 = true ∧ Mb.okT e.2
  | [], _, _, _, .nil, _, _, ok, _, _ => ok
  | t :: r, ps, out, L, .cons (v := v) h k, gr, nm, ok, ow, tk => by
    have gt := gr.1
    obtain ⟨so, g, tx, pr⟩ := id gt.fit
    have inP : ∀ z ∈ t.2.2.1, z ∈ ps.map (·.1) := fun z hz => by rw [← nm]; exact paired_left (P := fun z => z ∈ nmsE L) (fun _ _ h => h.1.1) pr z hz
    obtain ⟨_, tk', ow', _⟩ := AR.run (ts := [t]) (.cons h .nil) (⟨gt, trivial⟩ : Gr L [t]) tk ow
    refine AR.okT k gr.2 tk'.nms (fun e he => ?_) ow' tk'
    rcases List.mem_append.mp he with he | he
    · exact ok e he
    · rw [List.mem_singleton.mp he]
      refine ⟨gt.nm.2, ?_⟩
      cases v with
      | gone n w =>
        have on : ∀ n w, Tell.gone n w ∈ t.2.2.1.map (lookT ps) → PyData.strOk n = true ∧ PyData.strOk w = true := fun n w hm => by
          obtain ⟨y, hy, e⟩ := List.mem_map.mp hm
          have := (ok _ (look_in (inP y hy))).2
          rw [show (y, lookT ps y).2 = lookT ps y from rfl, e] at this
          exact this
        have w5 : ∀ w ∈ fail5, PyData.strOk w = true := by decide +kernel
        rcases (h.sort tx).2 n w rfl with rfl | hm
        · rcases h.word _ w rfl with hw | hm
          · exact ⟨gt.nm.2, w5 w hw⟩
          · exact on _ w hm
        · exact on n w hm
      | pt x y => trivial
      | ln a b c => trivial
      | ci a b c => trivial
      | kept => trivial
      | broken => trivial
theorem AR.ok0 {ts : List Thq} {out : Tls} (ar : AR [] ts out) (gr : Gr [] ts) : ∀ e ∈ out, PyData.strOk e.1 = true ∧ Mb.okT e.2 := AR.okT ar gr rfl (fun e he => by cases he) own0 tok0
theorem AR.split : ∀ {a b : List Thq} {ps out : Tls}, AR ps (a ++ b) out → ∃ mid, AR ps a mid ∧ AR mid b out
  | [], _, ps, _, h => ⟨ps, .nil, h⟩
  | _ :: a, b, _, _, .cons h k => by
    obtain ⟨mid, h1, h2⟩ := AR.split (a := a) (b := b) k
    exact ⟨mid, .cons h h1, h2⟩
theorem AR.pre : ∀ {a : List Thq} {ps out : Tls}, AR ps a out → ∃ q, out = ps ++ q ∧ q.length = a.length
  | [], _, _, .nil => ⟨[], by simp, rfl⟩
  | t :: r, ps, _, .cons (v := v) h k => by
    obtain ⟨q, h1, h2⟩ := AR.pre k
    exact ⟨(t.1, v) :: q, by rw [h1]; simp, by simp [h2]⟩
/-- the i-th thing told -/
theorem AR.at {ts : List Thq} {out : Tls} {i : Nat} {t : Thq} (ar : AR [] ts out) (h : ts[i]? = some t) : ∃ v, AR [] (ts.take i) (out.take i) ∧ TelR (ordT (out.take i)) t.1 t.2.1 t.2.2.2 (t.2.2.1.map (lookT (out.take i))) v ∧ out[i]? = some (t.1, v) ∧ out.take (i + 1) = out.take i ++ [(t.1, v)] := by
  obtain ⟨hi, e⟩ := List.getElem?_eq_some_iff.mp h
  have e2 : ts = ts.take i ++ t :: ts.drop (i + 1) := by rw [← e, ← List.drop_eq_getElem_cons hi, List.take_append_drop]
  rw [e2] at ar
  obtain ⟨mid, h1, h2⟩ := AR.split ar
  cases h2 with
  | @cons _ _ _ _ v hh k =>
    obtain ⟨q1, p1, p2⟩ := AR.pre h1
    obtain ⟨q, p3, p4⟩ := AR.pre k
    rw [List.nil_append] at p1
    subst p1
    have lm : mid.length = i := by rw [p2, List.length_take]; omega
    have eo : out = mid ++ ((t.1, v) :: q) := by rw [p3]; simp
    have e3 : out.take i = mid := by rw [eo, ← lm, List.take_left]
    have e4 : out[i]? = some (t.1, v) := by rw [eo, List.getElem?_append_right (by omega), lm, Nat.sub_self]; rfl
    rw [e3]
    refine ⟨v, h1, hh, e4, ?_⟩
    rw [List.take_succ, e4, e3]
    rfl
theorem ord_inj {ps : Tls} {n m : Str} (h : n ∈ ps.map (·.1)) (k : m ∈ ps.map (·.1)) (e : ordT ps n = ordT ps m) : n = m := by
  unfold ordT at e
  have e : (ps.map (·.1)).idxOf n = (ps.map (·.1)).idxOf m := by omega
  have h1 := List.getElem_idxOf (List.idxOf_lt_length_of_mem h)
  have h2 := List.getElem_idxOf (List.idxOf_lt_length_of_mem k)
  rw [← h1, ← h2]
  simp only [e]
/-- the gone ground that fails first is what is told -/
theorem first_of {ps : Tls} {x z : Str} {d : Tail} {ns : List Str} {v : Tell} (tel : TelR (ordT ps) z x d (ns.map (lookT ps)) v) (gin : ∀ z ∈ ns, ∀ n w, lookT ps z = .gone n w → n ∈ ps.map (·.1) ∧ lookT ps n = .gone n w) {z1 n1 w1 : Str} (h1 : z1 ∈ ns) (e1 : lookT ps z1 = .gone n1 w1) (mn : ∀ z ∈ ns, ∀ n w, lookT ps z = .gone n w → ordT ps n1 ≤ ordT ps n) : v = .gone n1 w1 := by
  have m1 : Tell.gone n1 w1 ∈ ns.map (lookT ps) := List.mem_map.mpr ⟨z1, h1, e1⟩
  cases tel with
  | @gone n w h h' =>
    obtain ⟨y, hy, e⟩ := List.mem_map.mp h
    have a := mn y hy n w e
    have b := h' n1 w1 m1
    obtain ⟨k1, k2⟩ := gin y hy n w e
    obtain ⟨k3, k4⟩ := gin z1 h1 n1 w1 e1
    have := ord_inj k1 k3 (by omega)
    subst this
    rw [k2] at k4
    exact k4
  | cut g _ _ _ _ => exact (noGone_not g m1).elim
  | claim g _ _ => exact (noGone_not g m1).elim
  | fig g _ => exact (noGone_not g m1).elim
  | fig0 g _ => exact (noGone_not g m1).elim
theorem at_hd {v : V} {r : List V} : atI (v :: r) 0 = some v := by
  unfold atI ixN
  rw [if_pos (by decide), if_pos (by simp only [List.length_cons]; omega)]
  rfl
end Mb
namespace Mb
open PySem L2
/-! ### k34: the exchanged row -/
theorem cut_takeP {xs : List V} {a : Nat} (h : a ≤ xs.length) : cutV xs none (some (a : Int)) = xs.take a := by
  unfold cutV
  have e1 : HT.sIx xs.length xs.length (some (a : Int)) = a := by
    have := HT.sIx_nat xs.length xs.length a
    omega
  rw [e1]
  show (xs.drop 0).take (a - 0) = _
  rw [List.drop_zero, Nat.sub_zero]
theorem cut_dropP {xs : List V} {a : Nat} (h : a ≤ xs.length) : cutV xs (some (a : Int)) none = xs.drop a := by
  unfold cutV
  have e1 : HT.sIx xs.length 0 (some (a : Int)) = a := by
    have := HT.sIx_nat xs.length 0 a
    omega
  rw [e1]
  show (xs.drop a).take (xs.length - a) = _
  exact List.take_of_length_le (by rw [List.length_drop]; omega)
end Mb
namespace Mb
open PySem PySem.Spec PyProof.Rows L2
/-! ### the head's facts over a list of addresses made without search for doubles -/
def refsN (o : Obj) : List Addr := match o.data with
  | .fields _ => []
  | _ => He.refsD o
def growN (g : Addr → Option Obj) (as : List Addr) : List Addr := as.flatMap fun a => match g a with
  | some o => refsN o
  | none => []
def asN (g : Addr → Option Obj) : Nat → List Addr → List Addr
  | 0, l => l
  | n + 1, l => l ++ asN g n (growN g l)
def obsWN (n : Nat) (fa : List He.Fa) (fn : List He.DefD) (ts : List He.Tab) (tf : List He.Defn) (xb : PySem.W.Frag → Bool) (g : Addr → Option Obj) (K : PySem.W.Frag) : He.AlT × Bool := (He.obsT fa fn ts K, xb K && He.tabsB g tf K)
def hookWN (n : Nat) (fa : List He.Fa) (fn : List He.DefD) (ts : List He.Tab) (tf : List He.Defn) (xb : PySem.W.Frag → Bool) : PySem.W.Hook where
  α := Option (He.AlT × Bool)
  obs := fun s => (HandSHeadRun.treeOf s).bind fun x => HandSHeadRun.frS x fun x => some (obsWN n fa fn ts tf xb (HandSHeadRun.getT x) (He.frT (HandSHeadRun.getT x) (asN (HandSHeadRun.getT x) n [mainGlobals, cStatics])))
  val := fun w => some (He.valT fn ts w, true)
  says := (hookWX n fa fn ts tf xb).says
  of := fun w s e => by
    obtain ⟨x, hx, e2⟩ := Option.bind_eq_some_iff.mp e
    rw [HandSHeadRun.frS_eq] at e2
    have e3 := Option.some.inj e2
    have eg : HandSHeadRun.getT x = s.heap.get? := by
      funext a
      rw [HandSHeadRun.getT_eq x, (HandSHeadRun.treeOf_eq hx).1]
    rw [eg] at e3
    have e1 := congrArg Prod.fst e3
    obtain ⟨e2, e4⟩ := He.ba (show (xb _ && He.tabsB _ tf _) = true from congrArg Prod.snd e3)
    have k := tabsB_says e4
    exact ⟨_, He.frT_in, ⟨e1, e2, fun p hp => (k p hp).1, fun p hp => (k p hp).2.1, fun p hp => (k p hp).2.2⟩⟩
  keeps := (hookWX n fa fn ts tf xb).keeps
end Mb
namespace Mb
open PySem L2
/-! ### k31: wider // and **, promises of what the law reckons itself -/
def CDivX (i j : Int) : Prop := 0 < j ∧ (j.natAbs.log2 < 9000 ∨ i.natAbs.log2 < 13530)
theorem noPylong_x {i j : Int} (h : j.natAbs.log2 < 9000 ∨ i.natAbs.log2 < 13530) : Builtin.divisionGoesByPylong i j = false := by
  rcases h with h | h
  · exact PyProof.noPylong_of_log2 h
  · have e : (if i == 0 then 0 else i.natAbs.log2 / 30 + 1) ≤ 451 := by
      by_cases hi : (i == 0) = true
      · rw [if_pos hi]; exact Nat.zero_le _
      · rw [if_neg hi]; omega
    show (decide ((if j == 0 then 0 else j.natAbs.log2 / 30 + 1) > 300) && decide ((if i == 0 then 0 else i.natAbs.log2 / 30 + 1) > (if j == 0 then 0 else j.natAbs.log2 / 30 + 1) + 150)) = false
    generalize (if i == 0 then 0 else i.natAbs.log2 / 30 + 1) = a at *
    generalize (if j == 0 then 0 else j.natAbs.log2 / 30 + 1) = b
    by_cases c : b > 300
    · rw [decide_eq_true c, decide_eq_false (show ¬ a > b + 150 by omega)]; rfl
    · rw [decide_eq_false c]; rfl
theorem op_fdivX {X : Cx} : OpR X (binaryOp .FloorDiv) (rI CDivX fun i j => .int (i / j)) := opI fun i j _ _ _ _ _ hc q => by
  have h1 : (0 : Int) < j := hc.1
  exact PyProof.Rows.floordiv_int (by omega) (by rw [Int.fdiv_eq_ediv_of_nonneg i (by omega)]; exact q) (.inl (noPylong_x hc.2))
def CPowX (i j : Int) : Prop := j = 2 ∧ Sm 100000 i
theorem op_powX {X : Cx} : OpR X (binaryOp .Pow) (rI CPowX fun i j => .int (i ^ j.toNat)) := opI fun i j _ _ _ _ _ hc q => by
  obtain ⟨rfl, h⟩ := hc
  refine PyProof.Rows.pow_int (by decide) ?_ q
  have b : Builtin.Int.intBits i ≤ 100001 := by
    unfold Builtin.Int.intBits
    split
    · omega
    · have := PySem.Flt.log2_lt_of (show 0 < 100000 by decide) h
      omega
  have : (2 : Int) ^ 27 = 134217728 := by decide
  omega
def spLowX : Sp := fun vs H Q _ => ∃ t b : Int, vs = [.int t, .int b] ∧ b ≠ 0 ∧ (Sm 8000 b ∨ (Sm 13500 t ∧ Sm 13500 b)) ∧
  ∀ (p : Addr) (H' : Hp), Same H H' → H p = none → H' p = some (.tup [.int (lowT t b), .int (lowB t b)]) → Q (.ref p) H'
theorem lowX_of {K : PySem.W.Frag} {vs : List V} {H : Hp} {Q : VK} {E : XK} (h : spLow vs H Q E) : spLowX vs H Q E := by
  obtain ⟨t, b, e, h1, h2, q⟩ := h
  exact ⟨t, b, e, h1, .inl h2, q⟩
def spNear31 (K : PySem.W.Frag) : Sp := fun vs H Q _ => ∃ (v w : V) (x y x' y' : Rat) (n m : Nat), vs = [v, w] ∧ Pq K H v x y ∧ Pq K H w x' y' ∧ Sz n x ∧ Sz n y ∧ Sz m x' ∧ Sz m y' ∧ n + m ≤ 6300 ∧
  ∀ (r : V) (H' : Hp), Same H H' → Rq K H' r ((x - x') * (x - x') + (y - y') * (y - y')) 30000 → Q r H'
def spOff31 (K : PySem.W.Frag) : Sp := fun vs H Q _ => ∃ (p : Addr) (f g l : V) (x y : Rat) (a b c : Int), vs = [.ref p, l] ∧ SqT K H p [f, g] ∧ Rq K H f x 6300 ∧ Rq K H g y 6300 ∧ Lq K H l a b c ∧ Sm 3100 a ∧ Sm 3100 b ∧ Sm 3100 c ∧
  ∀ (r : V) (H' : Hp), Same H H' → Rq K H' r ((a : Rat) * x + b * y - c) 30000 → Q r H'
theorem Rq.cast {K : PySem.W.Frag} {H : Hp} {v : V} {x y : Rat} {n : Nat} (h : Rq K H v x n) (e : x = y) : Rq K H v y n := e ▸ h
theorem Rq.int {K : PySem.W.Frag} {H : Hp} {p : Addr} {i : Int} {n : Nat} (h : SqT K H p [.int i, .int 1]) (s : Sm n i) (l : 0 < n) : Rq K H (.ref p) (i : Rat) n := ⟨p, i, 1, rfl, h, by decide, (by rw [Rat.divInt_eq_div]; show (i : Rat) = i / 1; grind), s, by unfold Sm; exact Nat.one_lt_two_pow (by omega)⟩
end Mb
namespace Mb
open PySem L2
/-! ### k31: determinants of lists of lists -/
def entQ (M : List (List Rat)) (k : Nat) : Rat := (M.getD k []).getD 0 0
def minorQ (M : List (List Rat)) (k : Nat) : List (List Rat) := (M.eraseIdx k).map List.tail
def psumF (f : List (List Rat) → Rat) (M : List (List Rat)) : Nat → Rat
  | 0 => 0
  | j + 1 => if j % 2 = 0 then psumF f M j + entQ M j * f (minorQ M j) else psumF f M j - entQ M j * f (minorQ M j)
def detN : Nat → List (List Rat) → Rat
  | 0, _ => 0
  | 1, M => entQ M 0
  | n + 2, M => psumF (detN (n + 1)) M (n + 2)
theorem psum_even {f : List (List Rat) → Rat} {M : List (List Rat)} {j : Nat} (h : j % 2 = 0) : psumF f M (j + 1) = psumF f M j + entQ M j * f (minorQ M j) := by
  show (if j % 2 = 0 then _ else _) = _
  rw [if_pos h]
theorem psum_odd {f : List (List Rat) → Rat} {M : List (List Rat)} {j : Nat} (h : ¬ j % 2 = 0) : psumF f M (j + 1) = psumF f M j - entQ M j * f (minorQ M j) := by
  show (if j % 2 = 0 then _ else _) = _
  rw [if_neg h]
structure RowH (D : Int) (n : Nat) (row : List Rat) : Prop where
  nz : D ≠ 0
  s : Sm n D
  h : ∀ q ∈ row, ∃ X : Int, (X : Rat) = q * D ∧ Sm n X
inductive MatH : List (List Rat) → Int → Nat → Prop
  | nil : MatH [] 1 1
  | cons {row : List Rat} {M : List (List Rat)} {D P : Int} {n B : Nat} (h : RowH D n row) (k : MatH M P B) : MatH (row :: M) (D * P) (n + B)
theorem MatH.nz {M : List (List Rat)} {P : Int} {B : Nat} (h : MatH M P B) : P ≠ 0 ∧ Sm B P := by
  induction h with
  | nil => exact ⟨by decide, by decide⟩
  | cons h k ih => exact ⟨Int.mul_ne_zero h.nz ih.1, h.s.mul ih.2⟩
theorem MatH.at {M : List (List Rat)} {P : Int} {B : Nat} (h : MatH M P B) : ∀ k, k < M.length → ∃ D n P' B', RowH D n (M.getD k []) ∧ MatH (M.eraseIdx k) P' B' ∧ P = D * P' ∧ B = n + B' := by
  induction h with
  | nil => intro k hk; cases hk
  | @cons row M D P n B h m ih =>
    intro k hk
    cases k with
    | zero => exact ⟨D, n, P, B, h, m, rfl, rfl⟩
    | succ k =>
      obtain ⟨D', n', P', B', h1, h2, h3, h4⟩ := ih k (by simpa using hk)
      exact ⟨D', n', D * P', n + B', h1, .cons h h2, by rw [h3]; grind, by omega⟩
theorem MatH.tails {M : List (List Rat)} {P : Int} {B : Nat} (h : MatH M P B) : MatH (M.map List.tail) P B := by
  induction h with
  | nil => exact .nil
  | cons h k ih => exact .cons ⟨h.nz, h.s, fun q hq => h.h q (List.mem_of_mem_tail hq)⟩ ih
theorem minor_len {M : List (List Rat)} {n k : Nat} (hl : M.length = n + 1) (hk : k < n + 1) (hr : ∀ row ∈ M, row.length = n + 1) : (minorQ M k).length = n ∧ ∀ row ∈ minorQ M k, row.length = n := by
  unfold minorQ
  refine ⟨by rw [List.length_map, List.length_eraseIdx_of_lt (by omega), hl]; rfl, fun row h => ?_⟩
  obtain ⟨r, h1, rfl⟩ := List.mem_map.mp h
  rw [List.length_tail, hr r (List.mem_of_mem_eraseIdx h1)]
  rfl
theorem psum_hgt {f : List (List Rat) → Rat} {M : List (List Rat)} {P : Int} {B c : Nat} (h : MatH M P B) (hne : ∀ row ∈ M, row ≠ []) (hf : ∀ k, k < M.length → ∀ P' B', MatH (minorQ M k) P' B' → ∃ F : Int, (F : Rat) = f (minorQ M k) * P' ∧ Sm (B' + c) F) : ∀ j, j ≤ M.length → ∃ F : Int, (F : Rat) = psumF f M j * P ∧ Sm (B + c + j) F
  | 0, _ => ⟨0, by show ((0 : Int) : Rat) = 0 * P; rw [Rat.zero_mul]; rfl, by unfold Sm; exact Nat.pow_pos (by decide)⟩
  | j + 1, hj => by
    obtain ⟨F, e, s⟩ := psum_hgt h hne hf j (by omega)
    obtain ⟨D, n, P', B', h1, h2, h3, h4⟩ := h.at j (by omega)
    obtain ⟨G, e2, s2⟩ := hf j (by omega) P' B' h2.tails
    have mm : entQ M j ∈ M.getD j [] := by
      have hm : M.getD j [] ∈ M := by
        rw [List.getD_eq_getElem?_getD, List.getElem?_eq_getElem (by omega)]
        exact List.getElem_mem _
      have := hne _ hm
      unfold entQ
      cases hh : M.getD j [] with
      | nil => exact absurd hh this
      | cons a b => simp
    obtain ⟨X, e3, s3⟩ := h1.h _ mm
    have e4 : ((X * G : Int) : Rat) = entQ M j * f (minorQ M j) * P := by
      rw [h3]
      simp only [Rat.intCast_mul]
      rw [e3, e2]
      grind
    have s4 : Sm (B + c) (X * G) := (s3.mul s2).mono (by omega)
    by_cases c2 : j % 2 = 0
    · refine ⟨F + X * G, ?_, (s.add (s4.mono (by omega))).mono (by omega)⟩
      unfold psumF
      rw [if_pos c2, Rat.intCast_add, e, e4]
      grind
    · refine ⟨F - X * G, ?_, (s.sub (s4.mono (by omega))).mono (by omega)⟩
      unfold psumF
      rw [if_neg c2, Rat.intCast_sub, e, e4]
      grind
theorem det_hgt : ∀ (n : Nat) {M : List (List Rat)} {P : Int} {B : Nat}, M.length = n + 1 → (∀ row ∈ M, row.length = n + 1) → MatH M P B → ∃ F : Int, (F : Rat) = detN (n + 1) M * P ∧ Sm (B + (n + 1) * (n + 1)) F
  | 0, M, P, B, hl, hr, h => by
    obtain ⟨D, k, P', B', h1, h2, h3, h4⟩ := h.at 0 (by omega)
    have hE : M.eraseIdx 0 = [] := List.length_eq_zero_iff.mp (by rw [List.length_eraseIdx_of_lt (by omega), hl])
    rw [hE] at h2
    cases h2
    have mm : entQ M 0 ∈ M.getD 0 [] := by
      have hm : M.getD 0 [] ∈ M := by
        rw [List.getD_eq_getElem?_getD, List.getElem?_eq_getElem (by omega)]
        exact List.getElem_mem _
      have := hr _ hm
      unfold entQ
      cases hh : M.getD 0 [] with
      | nil => rw [hh] at this; cases this
      | cons a b => simp
    obtain ⟨X, e, s⟩ := h1.h _ mm
    exact ⟨X, by rw [h3, Int.mul_one, e]; rfl, s.mono (by omega)⟩
  | n + 1, M, P, B, hl, hr, h => by
    obtain ⟨F, e, s⟩ := psum_hgt (f := detN (n + 1)) (c := (n + 1) * (n + 1)) h (fun row hm z => by have := hr row hm; rw [z] at this; cases this) (fun k hk P' B' hm => by
      obtain ⟨h1, h2⟩ := minor_len hl (show k < n + 2 by omega) hr
      exact det_hgt n h1 h2 hm) (n + 2) (by omega)
    refine ⟨F, e, s.mono ?_⟩
    have : (n + 1 + 1) * (n + 1 + 1) = (n + 1) * (n + 1) + (n + 1) + (n + 1) + 1 := by
      generalize n + 1 = m
      rw [Nat.mul_add, Nat.add_mul]; omega
    omega
theorem psum_sz {n : Nat} {M : List (List Rat)} {P : Int} {B j : Nat} (hn : n ≤ 2) (hl : M.length = n + 2) (hr : ∀ row ∈ M, row.length = n + 2) (h : MatH M P B) (hj : j ≤ n + 2) : Sz (B + 20) (psumF (detN (n + 1)) M j) := by
  obtain ⟨F, e, s⟩ := psum_hgt (f := detN (n + 1)) (c := (n + 1) * (n + 1)) h (fun row hm z => by have := hr row hm; rw [z] at this; cases this) (fun k hk P' B' hm => by
      obtain ⟨h1, h2⟩ := minor_len hl (show k < n + 2 by omega) hr
      exact det_hgt n h1 h2 hm) j (by omega)
  have := h.nz
  have hq : (n + 1) * (n + 1) ≤ 9 := by
    rcases (show n = 0 ∨ n = 1 ∨ n = 2 by omega) with rfl | rfl | rfl <;> decide
  rw [divInt_of this.1 e]
  exact Sz.divInt this.1 (s.mono (by omega)) (this.2.mono (by omega))
theorem det_in (x y x' y' x2 y2 : Rat) : detN 3 [[x, y, 1], [x', y', 1], [x2, y2, 1]] = (x' - x) * (y2 - y) - (y' - y) * (x2 - x) := by
  simp only [detN, psumF, entQ, minorQ, List.getD_cons_zero, List.getD_cons_succ, List.eraseIdx_cons_zero, List.eraseIdx_cons_succ, List.map_cons, List.map_nil, List.tail_cons]
  simp
  grind
theorem det_rd (x1 y1 x2 y2 x3 y3 x4 y4 : Rat) : detN 4 [[x1 * x1 + y1 * y1, x1, y1, 1], [x2 * x2 + y2 * y2, x2, y2, 1], [x3 * x3 + y3 * y3, x3, y3, 1], [x4 * x4 + y4 * y4, x4, y4, 1]] = detQ x1 y1 x2 y2 x3 y3 x4 y4 := by
  simp only [detN, psumF, entQ, minorQ, List.getD_cons_zero, List.getD_cons_succ, List.eraseIdx_cons_zero, List.eraseIdx_cons_succ, List.map_cons, List.map_nil, List.tail_cons]
  simp
  unfold detQ
  grind
def RowAt (K : PySem.W.Frag) (H : Hp) (v : V) (row : List Rat) : Prop := ∃ a es, v = .ref a ∧ SqL K H a es ∧ Paired (fun e q => Rq K H e q 5100) es row
def spDet31 (K : PySem.W.Frag) (n : Nat) : Sp := fun vs H Q _ => ∃ (l : Addr) (rows : List V) (M : List (List Rat)) (P : Int) (B : Nat), vs = [.ref l] ∧ SqL K H l rows ∧ Paired (RowAt K H) rows M ∧ M.length = n ∧ (∀ row ∈ M, row.length = n) ∧ MatH M P B ∧ B ≤ 3050 ∧
  ∀ (r : V) (H' : Hp), Same H H' → Rq K H' r (detN n M) 5100 → Q r H'
def spDetU (K : PySem.W.Frag) (m : Nat) : Sp := fun vs H Q E => ∃ n, 1 ≤ n ∧ n ≤ m ∧ spDet31 K n vs H Q E
end Mb
namespace Mb
open PySem L2
theorem lc_mkD {α : Type} {K : PySem.W.Frag} {j : Nat} {te : TE} {σ : St} {Q : VK} {l : Addr} {ws : List V} {xs : List α} {H : Hp} (P : Hp → V → α → Prop) (R : Addr → Hp → V → α → Prop) (mono : ∀ {H H' : Hp} {v : V} {x : α}, Same H H' → P H v x → P H' v x) (monoR : ∀ {D : Addr} {H H' : Hp} {v : V} {x : α} {ys : List V}, H D = some (.lst ys) → But D H H' → R D H v x → R D H' v x) (hl : SqL K H l ws) (pr : Paired (P H) ws xs) (few : xs.length ≤ 10000) (hσ : ∀ v, wipe ((wipe σ [j]).set j (some v)) [j] = wipe σ [j])
    (stE : ∀ (v : V) (x : α) (D : Addr) (H' : Hp), x ∈ xs → P H' v x → Same H H' → (∃ vs, H' D = some (.lst vs)) → ∀ S : VK, (∀ (u : V) (H4 : Hp), Same H' H4 → R D H4 u x → S u H4) → te ((wipe σ [j]).set j (some v)) H' S)
    (fin : ∀ (D : Addr) (vs : List V) (H' : Hp), Same H H' → H D = none → H' D = some (.lst vs) → Paired (R D H') vs xs → Q (.ref D) H') : lcL K (gName j) tYes te [j] σ Q (.ref l) H := by
  refine ⟨l, rfl, ⟨_, hl⟩, fun D hD => ?_⟩
  have ln : ws.length = xs.length := Paired.length pr
  refine lc_list (xs := ws) (fun n H' => ∃ vs : List V, Same H H' ∧ H' D = some (.lst vs) ∧ vs.length = n ∧ Paired (R D H') vs (xs.take n)) ⟨[], same_new hD _, upd_same, rfl, by rw [List.take_zero]; exact .nil⟩ (fun n H' _ h => by obtain ⟨_, h, _⟩ := h; exact h.seq hl) ?_ ?_
  · rintro n v H' hx ⟨vs, g, d, lv, pr'⟩
    obtain ⟨x, ht, px⟩ := LiI.paired_get pr hx
    have hm := List.mem_of_getElem? ht
    have hn : n < xs.length := (List.getElem?_eq_some_iff.mp ht).1
    have e1 : xs.take (n + 1) = xs.take n ++ [x] := by rw [List.take_succ, ht, Option.toList_some]
    refine ⟨hσ _, ?_⟩
    refine r_yes ?_
    rw [if_pos rfl]
    refine stE v x D H' hm (mono g px) g ⟨vs, d⟩ _ fun u H4 g4 ru => ?_
    have d4 := g4 _ _ d
    have k4 : But D H4 (upd H4 D (.lst (vs ++ [u]))) := But.upd _ _ _
    refine ⟨_, d4, Nat.lt_of_le_of_lt (show vs.length ≤ 10000 by omega) (by decide), vs ++ [u], same_updS (g.trans g4) hD, upd_same, by simp [lv], ?_⟩
    rw [e1]
    exact paired_snocT (Paired.mapP pr' fun _ _ h => monoR d ((But.same g4).trans k4) h) (monoR d4 k4 ru)
  · rintro H' ⟨vs, g, d, lv, pr'⟩
    rw [ln, List.take_length] at pr'
    exact fin D vs H' g hD d pr'
def lcV (K : PySem.W.Frag) (g : TG) (tt : TT) (te : TE) (vs : List Nat) (σ : St) (Q : VK) (x : V) (H1 : Hp) : Prop := ∃ a, x = .ref a ∧ (∃ xs, SqT K H1 a xs) ∧ ∀ D, H1 D = none → ∃ W : Nat → Nat → Hp → Prop, (∃ m, W 0 m (upd H1 D (.lst []))) ∧ ∀ i m H, W i m H →
  ((Itt K a).stop i H ∧ Q (.ref D) H) ∨ ((Itt K a).go i H ∧ ∃ Nx : Hp → Prop, (∀ H', Nx H' → ∃ m', m' < m ∧ W (i + 1) m' H') ∧ ∀ x H', (Itt K a).yld i H x H' → g x (wipe σ vs) H' fun σ2 H2 => wipe σ2 vs = wipe σ vs ∧ tt σ2 H2 fun b H3 =>
    if b = true then te σ2 H3 fun y H4 => ∃ acc, H4 D = some (.lst acc) ∧ acc.length < sizeLine ∧ Nx (upd H4 D (.lst (acc ++ [y]))) else Nx H3)
theorem r_lcV {K : PySem.W.Frag} {tl : TE} {g : TG} {tt : TT} {te : TE} {vs : List Nat} {σ : St} {H : Hp} {Q : VK} (q : tl σ H (lcV K g tt te vs σ Q)) : tLc (iTup K tl) g tt te vs σ H Q := q
theorem lc_mkV {α : Type} {K : PySem.W.Frag} {j : Nat} {te : TE} {σ : St} {Q : VK} {l : Addr} {ws : List V} {xs : List α} {H : Hp} (P : Hp → V → α → Prop) (R : Addr → Hp → V → α → Prop) (mono : ∀ {H H' : Hp} {v : V} {x : α}, Same H H' → P H v x → P H' v x) (monoR : ∀ {D : Addr} {H H' : Hp} {v : V} {x : α} {ys : List V}, H D = some (.lst ys) → But D H H' → R D H v x → R D H' v x) (hl : SqT K H l ws) (pr : Paired (P H) ws xs) (few : xs.length ≤ 10000) (hσ : ∀ v, wipe ((wipe σ [j]).set j (some v)) [j] = wipe σ [j])
    (stE : ∀ (v : V) (x : α) (D : Addr) (H' : Hp), x ∈ xs → P H' v x → Same H H' → (∃ vs, H' D = some (.lst vs)) → ∀ S : VK, (∀ (u : V) (H4 : Hp), Same H' H4 → R D H4 u x → S u H4) → te ((wipe σ [j]).set j (some v)) H' S)
    (fin : ∀ (D : Addr) (vs : List V) (H' : Hp), Same H H' → H D = none → H' D = some (.lst vs) → Paired (R D H') vs xs → Q (.ref D) H') : lcV K (gName j) tYes te [j] σ Q (.ref l) H := by
  refine ⟨l, rfl, ⟨_, hl⟩, fun D hD => ?_⟩
  have ln : ws.length = xs.length := Paired.length pr
  refine lc_tup (xs := ws) (fun n H' => ∃ vs : List V, Same H H' ∧ H' D = some (.lst vs) ∧ vs.length = n ∧ Paired (R D H') vs (xs.take n)) ⟨[], same_new hD _, upd_same, rfl, by rw [List.take_zero]; exact .nil⟩ (fun n H' _ h => by obtain ⟨_, h, _⟩ := h; exact h.tp hl) ?_ ?_
  · rintro n v H' hx ⟨vs, g, d, lv, pr'⟩
    obtain ⟨x, ht, px⟩ := LiI.paired_get pr hx
    have hm := List.mem_of_getElem? ht
    have hn : n < xs.length := (List.getElem?_eq_some_iff.mp ht).1
    have e1 : xs.take (n + 1) = xs.take n ++ [x] := by rw [List.take_succ, ht, Option.toList_some]
    refine ⟨hσ _, ?_⟩
    refine r_yes ?_
    rw [if_pos rfl]
    refine stE v x D H' hm (mono g px) g ⟨vs, d⟩ _ fun u H4 g4 ru => ?_
    have d4 := g4 _ _ d
    have k4 : But D H4 (upd H4 D (.lst (vs ++ [u]))) := But.upd _ _ _
    refine ⟨_, d4, Nat.lt_of_le_of_lt (show vs.length ≤ 10000 by omega) (by decide), vs ++ [u], same_updS (g.trans g4) hD, upd_same, by simp [lv], ?_⟩
    rw [e1]
    exact paired_snocT (Paired.mapP pr' fun _ _ h => monoR d ((But.same g4).trans k4) h) (monoR d4 k4 ru)
  · rintro H' ⟨vs, g, d, lv, pr'⟩
    rw [ln, List.take_length] at pr'
    exact fin D vs H' g hD d pr'
theorem RowAt.up {K : PySem.W.Frag} {H H' : Hp} {v : V} {row : List Rat} (s : Same H H') (h : RowAt K H v row) : RowAt K H' v row := by
  obtain ⟨a, es, rfl, h1, h2⟩ := h
  exact ⟨a, es, rfl, s.seq h1, Paired.mapP h2 fun _ _ e => e.up s⟩
/-- a row that stands off an address -/
def RowD (K : PySem.W.Frag) (D : Addr) (H : Hp) (v : V) (row : List Rat) : Prop := ∃ a es, v = .ref a ∧ a ≠ D ∧ H a = some (.lst es) ∧ Paired (fun e q => Rq K H e q 5100) es row
theorem Rq.but {K : PySem.W.Frag} {H H' : Hp} {v : V} {q : Rat} {n : Nat} {p : Addr} {xs : List V} (h : Rq K H v q n) (hp : H p = some (.lst xs)) (s : But p H H') : Rq K H' v q n := by
  obtain ⟨a, t, b, rfl, h1, h2⟩ := h
  exact ⟨a, t, b, rfl, s.tup hp h1, h2⟩
theorem RowD.mono {K : PySem.W.Frag} {D : Addr} {H H' : Hp} {v : V} {x : List Rat} {ys : List V} (d : H D = some (.lst ys)) (s : But D H H') (h : RowD K D H v x) : RowD K D H' v x := by
  obtain ⟨a, es, rfl, n, h1, h2⟩ := h
  exact ⟨a, es, rfl, n, s _ _ n h1, Paired.mapP h2 fun _ _ e => e.but d s⟩
theorem RowD.at {K : PySem.W.Frag} {D : Addr} {H : Hp} {v : V} {x : List Rat} (h : RowD K D H v x) : RowAt K H v x := by
  obtain ⟨a, es, rfl, n, h1, h2⟩ := h
  exact ⟨a, es, rfl, lstOf h1, h2⟩
theorem paired_tail {α β : Type} {F : α → β → Prop} {l : List α} {m : List β} (h : Paired F l m) : Paired F l.tail m.tail := by
  cases h with
  | nil => exact .nil
  | cons r t => exact t
theorem paired_erase {α β : Type} {F : α → β → Prop} : ∀ {l : List α} {m : List β} (k : Nat), Paired F l m → Paired F (l.eraseIdx k) (m.eraseIdx k)
  | _, _, k, .nil => by cases k <;> exact .nil
  | _, _, 0, .cons r t => t
  | _, _, k + 1, .cons r t => .cons r (paired_erase k t)
theorem paired_mapR {α β γ : Type} {F : α → γ → Prop} {f : β → γ} {l : List α} {m : List β} (h : Paired (fun a b => F a (f b)) l m) : Paired F l (m.map f) := by
  induction h with
  | nil => exact .nil
  | cons r t ih => exact .cons r ih
theorem cut_tailV {xs : List V} : cutV xs (some 1) none = xs.tail := by
  cases xs with
  | nil => rfl
  | cons a b => exact (cut_dropP (a := 1) (by simp)).trans rfl
end Mb
namespace Mb
open PySem L2
/-! ### k31: cuts by the law's own chord -/
/-- the law's chord of a curve and a circle -/
def Chd (c : Tell) (x y s A B C : Rat) : Prop := match c with
  | .ln a b c => A = a ∧ B = b ∧ C = c
  | .ci x2 y2 s2 => A = 2 * (x - x2) ∧ B = 2 * (y - y2) ∧ C = (s2 - s) + ((x * x + y * y) - (x2 * x2 + y2 * y2))
  | _ => False
theorem ln_nn {a b c : Int} (l : Ln a b c) : (0 : Rat) < (a : Rat) * a + b * b := by
  have h := pos_int l.sq
  simp only [Rat.intCast_add, Rat.intCast_mul] at h
  exact h
theorem sc_lt {g d : Rat} (g0 : g ≠ 0) : g * g * d < 0 ↔ d < 0 := by
  have gn : g * g ≠ 0 := fun z => by rcases Rat.mul_eq_zero.mp z with z | z <;> contradiction
  have gp : 0 < g * g := by have := sq_nnR g; grind
  constructor
  · intro h
    apply Rat.not_le.mp
    intro z
    have := Rat.mul_nonneg (show 0 ≤ g * g by grind) z
    grind
  · intro h
    have := Rat.mul_pos gp (show 0 < -d by grind)
    grind
theorem sc_sq {g d : Rat} (g0 : g ≠ 0) : (∃ r : Rat, r * r = g * g * d) ↔ ∃ r : Rat, r * r = d := by
  constructor
  · rintro ⟨r, h⟩
    refine ⟨r / g, ?_⟩
    have e : r = g * (r / g) := by rw [Rat.mul_comm, Rat.div_mul_cancel g0]
    generalize r / g = q at *
    have z : g * g * (q * q - d) = 0 := by grind
    rcases Rat.mul_eq_zero.mp z with z | z
    · rcases Rat.mul_eq_zero.mp z with z | z <;> contradiction
    · grind
  · rintro ⟨r, h⟩
    exact ⟨g * r, by grind⟩
/-- one line and one circle: what is told, by d -/
theorem cut_ln {z : Str} {n : Int} {a b c : Int} {x y s : Rat} {t : Tell} (h : Cut z n (.ln a b c) (.ci x y s) t) : let d := s * ((a : Rat) * a + b * b) - (c - a * x - b * y) * (c - a * x - b * y); (d < 0 → t = .gone z "miss") ∧ (0 ≤ d → (¬ ∃ r : Rat, r * r = d) → t = .gone z "root") ∧ ((∃ r : Rat, r * r = d) → ∃ u w : Rat, 0 ≤ w ∧ w * w = d ∧ u = (if n = 1 ↔ 0 < b then -w else w) ∧ t = .pt (cX a b c x y u) (cY a b c x y u)) := by
  intro d
  cases h with
  | @miss _ _ _ _ _ _ d' e h =>
    obtain ⟨e⟩ := e
    have e : d' = d := e
    subst e
    exact ⟨fun _ => rfl, fun k _ => absurd k (Rat.not_le.mpr h), fun ⟨r, k⟩ => absurd (k ▸ sq_nnR r) (Rat.not_le.mpr h)⟩
  | @root _ _ _ _ _ _ d' e h h' =>
    obtain ⟨e⟩ := e
    have e : d' = d := e
    subst e
    exact ⟨fun k => absurd h (Rat.not_le.mpr k), fun _ _ => rfl, fun k => absurd k h'⟩
  | @«at» _ _ _ _ _ _ d' t u e h h' hu =>
    obtain ⟨e⟩ := e
    have e : d' = d := e
    subst e
    exact ⟨fun k => absurd (h' ▸ sq_nnR t) (Rat.not_le.mpr k), fun _ k => absurd ⟨t, h'⟩ k, fun _ => ⟨u, t, h, h', hu, rfl⟩⟩
/-- where the place stands, seen from the foot of the centre -/
theorem cut_pl {a b c : Int} {x y s u d : Rat} (l : Ln a b c) (e : u * u = s * ((a : Rat) * a + b * b) - (c - a * x - b * y) * (c - a * x - b * y)) :
    let N := (a : Rat) * a + b * b; let p := cX a b c x y u; let q := cY a b c x y u; (a : Rat) * p + b * q = c ∧ (p - x) * (p - x) + (q - y) * (q - y) = s ∧ N * (p - (x + a * ((c - a * x - b * y) / N))) = b * u ∧ N * (q - (y + b * ((c - a * x - b * y) / N))) = -(a * u) := by
  intro N p q
  have nn := ln_nn l
  have nz : N ≠ 0 := by have : 0 < N := nn; grind
  have e1 : p * N = x * N + (a * (c - a * x - b * y) + b * u) := cX_mul nz
  have e2 : q * N = y * N + (b * (c - a * x - b * y) - a * u) := cY_mul nz
  have e3 : ((c - a * x - b * y) / N) * N = c - a * x - b * y := Rat.div_mul_cancel nz
  generalize (c - a * x - b * y) / N = w at *
  have hN : N = (a : Rat) * a + b * b := rfl
  generalize (a : Rat) = A at *
  generalize (b : Rat) = B at *
  generalize (c : Rat) = C at *
  generalize p = p at *
  generalize q = q at *
  generalize N = M at *
  have k1 : M * (A * p + B * q - C) = 0 := by grind
  have k3 : M * (p - (x + A * w)) = B * u := by grind
  have k4 : M * (q - (y + B * w)) = -(A * u) := by grind
  have k2 : (M * M) * ((p - x) * (p - x) + (q - y) * (q - y) - s) = 0 := by
    have m1 : M * (p - x) = A * (C - A * x - B * y) + B * u := by grind
    have m2 : M * (q - y) = B * (C - A * x - B * y) - A * u := by grind
    have : (M * M) * ((p - x) * (p - x) + (q - y) * (q - y) - s) = (M * (p - x)) * (M * (p - x)) + (M * (q - y)) * (M * (q - y)) - M * M * s := by grind
    rw [this, m1, m2]
    grind
  refine ⟨?_, ?_, k3, k4⟩
  · rcases Rat.mul_eq_zero.mp k1 with k | k
    · contradiction
    · grind
  · rcases Rat.mul_eq_zero.mp k2 with k | k
    · rcases Rat.mul_eq_zero.mp k with k | k <;> contradiction
    · grind
/-- which of the two, by the signs -/
def ordN (X Y : Rat) : Int := if X ≠ 0 then (if 0 < X then 2 else 1) else if Y ≠ 0 then (if 0 < Y then 2 else 1) else 0
theorem sgn_of {N X w : Rat} (n0 : 0 < N) (e : N * X = w) : (X = 0 ↔ w = 0) ∧ (0 < X ↔ 0 < w) := by
  refine ⟨⟨fun h => by rw [← e, h]; grind, fun h => ?_⟩, ⟨fun h => by rw [← e]; exact Rat.mul_pos n0 h, fun h => ?_⟩⟩
  · rw [h] at e
    rcases Rat.mul_eq_zero.mp e with k | k
    · grind
    · exact k
  · apply Rat.not_le.mp
    intro z
    have := Rat.mul_nonneg (show 0 ≤ N by grind) (show 0 ≤ -X by grind)
    grind
theorem ord_of {a b c : Int} {N X Y u w : Rat} {n : Int} (l : Ln a b c) (hn : n = 1 ∨ n = 2) (n0 : 0 < N) (w0 : 0 ≤ w) (hu : u = if n = 1 ↔ 0 < b then -w else w) (e1 : N * X = b * u) (e2 : N * Y = -(a * u)) : ordN X Y = 0 ∨ ordN X Y = n := by
  obtain ⟨x1, x2⟩ := sgn_of n0 e1
  obtain ⟨y1, y2⟩ := sgn_of n0 e2
  by_cases hw : w = 0
  · subst hw
    have : u = 0 := by rw [hu]; split <;> grind
    subst this
    left
    unfold ordN
    rw [if_neg (fun k => k (x1.mpr (by grind))), if_neg (fun k => k (y1.mpr (by grind)))]
  · have wp : 0 < w := by grind
    have sg := l.sg
    right
    rcases (show b = 0 ∨ 0 < b ∨ b < 0 by omega) with hb | hb | hb
    · subst hb
      have ap : 0 < a := by omega
      have ar := pos_int ap
      have X0 : X = 0 := x1.mpr (by rw [Rat.intCast_zero]; grind)
      unfold ordN
      rw [if_neg (fun k => k X0)]
      have aw : 0 < (a : Rat) * w := Rat.mul_pos ar wp
      rcases hn with rfl | rfl
      · have : u = w := by rw [hu, if_neg (by decide)]
        subst this
        rw [if_pos (fun k => by have := y1.mp k; grind), if_neg (fun k => by have := y2.mp k; grind)]
      · have : u = -w := by rw [hu, if_pos (by decide)]
        subst this
        rw [if_pos (fun k => by have := y1.mp k; grind), if_pos (y2.mpr (by grind))]
    · have br := pos_int hb
      have bw : 0 < (b : Rat) * w := Rat.mul_pos br wp
      unfold ordN
      rcases hn with rfl | rfl
      · have : u = -w := by rw [hu, if_pos (by simp [hb])]
        subst this
        rw [if_pos (fun k => by have := x1.mp k; grind), if_neg (fun k => by have := x2.mp k; grind)]
      · have : u = w := by rw [hu, if_neg (by simp [hb])]
        subst this
        rw [if_pos (fun k => by have := x1.mp k; grind), if_pos (x2.mpr (by grind))]
    · have br := pos_int (show 0 < -b by omega)
      rw [Rat.intCast_neg] at br
      have bw : 0 < (-(b : Rat)) * w := Rat.mul_pos br wp
      unfold ordN
      rcases hn with rfl | rfl
      · have : u = w := by rw [hu, if_neg (by simp; omega)]
        subst this
        rw [if_pos (fun k => by have := x1.mp k; grind), if_neg (fun k => by have := x2.mp k; grind)]
      · have : u = -w := by rw [hu, if_pos (by simp; omega)]
        subst this
        rw [if_pos (fun k => by have := x1.mp k; grind), if_pos (x2.mpr (by grind))]
/-- what a cut is told as, by the law's own numbers -/
structure CutW (z : Str) (n : Int) (c : Tell) (x y s A B C : Rat) (t : Tell) : Prop where
  nz : A * A + B * B ≠ 0
  miss : s * (A * A + B * B) - (C - (A * x + B * y)) * (C - (A * x + B * y)) < 0 → t = .gone z "miss"
  root : 0 ≤ s * (A * A + B * B) - (C - (A * x + B * y)) * (C - (A * x + B * y)) → (¬ ∃ r : Rat, r * r = s * (A * A + B * B) - (C - (A * x + B * y)) * (C - (A * x + B * y))) → t = .gone z "root"
  at_ : (∃ r : Rat, r * r = s * (A * A + B * B) - (C - (A * x + B * y)) * (C - (A * x + B * y))) → ∃ p q : Rat, t = .pt p q ∧ (p - x) * (p - x) + (q - y) * (q - y) = s ∧
    (match c with | .ln a b c => (a : Rat) * p + b * q = c | .ci x2 y2 s2 => (p - x2) * (p - x2) + (q - y2) * (q - y2) = s2 | _ => True) ∧
    (∀ v : Rat, v * (A * A + B * B) = C - (A * x + B * y) → ordN (p - (x + A * v)) (q - (y + B * v)) = 0 ∨ ordN (p - (x + A * v)) (q - (y + B * v)) = n)
theorem cutW_ln {z : Str} {n : Int} {a b c : Int} {x y s : Rat} {t : Tell} (l : Ln a b c) (hn : n = 1 ∨ n = 2) (h : Cut z n (.ln a b c) (.ci x y s) t) {A B C : Rat} (hc : Chd (.ln a b c) x y s A B C) : CutW z n (.ln a b c) x y s A B C t := by
  obtain ⟨rfl, rfl, rfl⟩ := hc
  have nn := ln_nn l
  obtain ⟨h1, h2, h3⟩ := cut_ln h
  have ee : s * ((a : Rat) * a + b * b) - ((c : Rat) - (a * x + b * y)) * (c - (a * x + b * y)) = s * ((a : Rat) * a + b * b) - (c - a * x - b * y) * (c - a * x - b * y) := by grind
  refine ⟨by grind, fun k => h1 (by rw [← ee]; exact k), fun k k' => h2 (by rw [← ee]; exact k) (by rw [← ee]; exact k'), fun k => ?_⟩
  rw [ee] at k
  obtain ⟨u, w, w0, ww, hu, rfl⟩ := h3 k
  have uu : u * u = w * w := by rw [hu]; split <;> grind
  obtain ⟨p1, p2, p3, p4⟩ := cut_pl (x := x) (y := y) (s := s) (u := u) (d := w * w) l (by rw [uu, ww])
  refine ⟨_, _, rfl, p2, p1, fun v hv => ?_⟩
  have ev : v = (c - a * x - b * y) / ((a : Rat) * a + b * b) := by
    have nz : (a : Rat) * a + b * b ≠ 0 := by grind
    have e3 : ((c - a * x - b * y) / ((a : Rat) * a + b * b)) * ((a : Rat) * a + b * b) = c - a * x - b * y := Rat.div_mul_cancel nz
    generalize (c - a * x - b * y) / ((a : Rat) * a + b * b) = v2 at *
    have : (v - v2) * ((a : Rat) * a + b * b) = 0 := by grind
    rcases Rat.mul_eq_zero.mp this with k | k
    · grind
    · contradiction
  rw [ev]
  exact ord_of l hn nn w0 hu p3 p4
theorem cutW_ci {z : Str} {n : Int} {x2 y2 s2 : Rat} {x y s : Rat} {t : Tell} (hn : n = 1 ∨ n = 2) (h : Cut z n (.ci x2 y2 s2) (.ci x y s) t) {A B C : Rat} (hc : Chd (.ci x2 y2 s2) x y s A B C) : ((x2 = x ∧ y2 = y) → t = .gone z "centre") ∧ (¬ (x2 = x ∧ y2 = y) → CutW z n (.ci x2 y2 s2) x y s A B C t) := by
  obtain ⟨hA, hB, hC⟩ := hc
  cases h with
  | centre => exact ⟨fun _ => rfl, fun k => absurd ⟨rfl, rfl⟩ k⟩
  | @rings _ _ _ _ _ _ g a b c _ e l g0 g1 g2 g3 k =>
    refine ⟨fun h => absurd h e, fun _ => ?_⟩
    have nn := ln_nn l
    obtain ⟨h1, h2, h3⟩ := cut_ln k
    have eA : A = g * a := by rw [hA, g1]
    have eB : B = g * b := by rw [hB, g2]
    have eC : C = g * c := by rw [hC, g3]; grind
    have q1 : x = x2 + g * a / 2 := by grind
    have q2 : y = y2 + g * b / 2 := by grind
    have q3 : s = s2 - g * (c - a * x2 - b * y2) + g * g * ((a : Rat) * a + b * b) / 4 := by grind
    have ee : s * (A * A + B * B) - (C - (A * x + B * y)) * (C - (A * x + B * y)) = g * g * (s2 * ((a : Rat) * a + b * b) - (c - a * x2 - b * y2) * (c - a * x2 - b * y2)) := by
      rw [eA, eB, eC, q3, q1, q2]
      generalize (a : Rat) = a at *
      generalize (b : Rat) = b at *
      generalize (c : Rat) = c at *
      clear h1 h2 h3 k g1 g2 g3 hA hB hC eA eB eC q1 q2 q3
      grind
    have eN : A * A + B * B = g * g * ((a : Rat) * a + b * b) := by rw [eA, eB]; grind
    have gg : g * g ≠ 0 := fun z => by rcases Rat.mul_eq_zero.mp z with z | z <;> contradiction
    refine ⟨fun z => ?_, fun k => ?_, fun k k' => ?_, fun k => ?_⟩
    · rw [eN] at z
      rcases Rat.mul_eq_zero.mp z with z | z
      · contradiction
      · grind
    · rw [ee] at k; exact h1 ((sc_lt g0).mp k)
    · rw [ee] at k k'
      exact h2 (Rat.not_lt.mp fun z => absurd ((sc_lt g0).mpr z) (Rat.not_lt.mpr k)) (fun z => k' ((sc_sq g0).mpr z))
    rw [ee] at k
    obtain ⟨u, w, w0, ww, hu, rfl⟩ := h3 ((sc_sq g0).mp k)
    have uu : u * u = w * w := by rw [hu]; split <;> grind
    obtain ⟨p1, p2, p3, p4⟩ := cut_pl (x := x2) (y := y2) (s := s2) (u := u) (d := w * w) l (by rw [uu, ww])
    have nz : (a : Rat) * a + b * b ≠ 0 := by grind
    have e3 : ((c - a * x2 - b * y2) / ((a : Rat) * a + b * b)) * ((a : Rat) * a + b * b) = c - a * x2 - b * y2 := Rat.div_mul_cancel nz
    generalize cX a b c x2 y2 u = p at *
    generalize cY a b c x2 y2 u = q at *
    generalize (c - a * x2 - b * y2) / ((a : Rat) * a + b * b) = v2 at *
    refine ⟨p, q, rfl, ?_, p2, fun v hv => ?_⟩
    · generalize (a : Rat) = a at *
      generalize (b : Rat) = b at *
      generalize (c : Rat) = c at *
      clear h1 h2 h3 k g1 g2 g3 hA hB hC eA eB eC p3 p4 e3 ee eN
      rw [q3, q1, q2]
      grind
    · have key : (g * g * ((a : Rat) * a + b * b)) * (x + A * v - (x2 + a * v2)) = 0 ∧ (g * g * ((a : Rat) * a + b * b)) * (y + B * v - (y2 + b * v2)) = 0 := by
        rw [eN] at hv
        rw [eC, eA, eB] at hv
        rw [eA, eB]
        generalize (a : Rat) = a at *
        generalize (b : Rat) = b at *
        generalize (c : Rat) = c at *
        clear h1 h2 h3 k g1 g2 g3 hA hB hC eA eB eC p1 p2 p3 p4 ee eN q3
        constructor
        · have : (g * g * (a * a + b * b)) * (x + g * a * v - (x2 + a * v2)) = (g * g * (a * a + b * b)) * (x - x2) + g * a * (v * (g * g * (a * a + b * b))) - g * g * a * (v2 * (a * a + b * b)) := by grind
          rw [this, hv, e3, q1, q2]
          grind
        · have : (g * g * (a * a + b * b)) * (y + g * b * v - (y2 + b * v2)) = (g * g * (a * a + b * b)) * (y - y2) + g * b * (v * (g * g * (a * a + b * b))) - g * g * b * (v2 * (a * a + b * b)) := by grind
          rw [this, hv, e3, q1, q2]
          grind
      have gz : g * g * ((a : Rat) * a + b * b) ≠ 0 := fun z => by rcases Rat.mul_eq_zero.mp z with z | z <;> contradiction
      have k1 := (Rat.mul_eq_zero.mp key.1).resolve_left gz
      have k2 := (Rat.mul_eq_zero.mp key.2).resolve_left gz
      have f1 : x + A * v = x2 + a * v2 := by grind
      have f2 : y + B * v = y2 + b * v2 := by grind
      rw [f1, f2]
      exact ord_of l hn nn w0 hu p3 p4
end Mb
namespace Mb
open PySem L2
/-! ### k31: sizes of the law's chord -/
inductive Cv : Tell → Nat → Rat → Rat → Rat → Nat → Prop
  | ln {a b c : Int} {k m : Nat} {x y s : Rat} (l : Ln a b c) (sa : Sm k a) (sb : Sm k b) (sc : Sm k c) (ch : Ch m x y s) (h : 2 * k + m ≤ 3000) : Cv (.ln a b c) k x y s m
  | ci {x2 y2 s2 : Rat} {k m : Nat} {x y s : Rat} (c2 : Ch k x2 y2 s2) (ch : Ch m x y s) (h : 5 * (k + m) ≤ 3000) : Cv (.ci x2 y2 s2) k x y s m
theorem Cv.ch {c : Tell} {k m : Nat} {x y s : Rat} (h : Cv c k x y s m) : Ch m x y s ∧ m ≤ 3000 := by
  cases h with
  | ln l sa sb sc ch h => exact ⟨ch, by omega⟩
  | ci c2 ch h => exact ⟨ch, by omega⟩
theorem Ch.szs {n : Nat} {x y s : Rat} (h : Ch n x y s) : Sz (n + n + 3) s := ⟨h.sz.1, h.sz.2.mono (by omega)⟩
theorem sz_over {n : Nat} {D F : Int} {x : Rat} (nz : D ≠ 0) (e : (F : Rat) = x * D) (s1 : Sm n F) (s2 : Sm n D) : Sz n x := by
  rw [divInt_of nz e]
  exact Sz.divInt nz s1 s2
theorem Cv.sizes {c : Tell} {k m : Nat} {x y s A B C : Rat} (h : Cv c k x y s m) (hc : Chd c x y s A B C) : Sz 1510 A ∧ Sz 1510 B ∧ Sz 3010 C ∧ ∃ ne nn, Sz ne (C - (A * x + B * y)) ∧ Sz nn (A * A + B * B) ∧ ne ≤ 3010 ∧ nn ≤ 3010 ∧ 2 * ne + nn + 2 * m + 3 ≤ 13400 := by
  cases h with
  | @ln a b c _ _ _ _ _ l sa sb sc ch h =>
    obtain ⟨rfl, rfl, rfl⟩ := hc
    obtain ⟨X, Y, D, d0, eX, eY, s1, s2, s3⟩ := ch.jh
    have lit : ∀ {i : Int} {n : Nat}, Sm k i → k ≤ n → 0 < n → Sz n (i : Rat) := fun h l l0 => Sz.int (h.mono l) l0
    refine ⟨lit sa (by omega) (by decide), lit sb (by omega) (by decide), lit sc (by omega) (by decide), k + m + 2, 2 * k + 1, ?_, ?_, by omega, by omega, by omega⟩
    · refine sz_over (F := c * D - (a * X + b * Y)) d0 ?_ ?_ (s3.mono (by omega))
      · simp only [Rat.intCast_mul, Rat.intCast_add, Rat.intCast_sub]
        rw [eX, eY]
        grind
      · exact (Sm.subm (Sm.mul sc s3) (Sm.addm (Sm.mul sa s1) (Sm.mul sb s2))).mono (by omega)
    · have := Sz.int (i := a * a + b * b) (n := 2 * k + 1) ((Sm.addm (Sm.mul sa sa) (Sm.mul sb sb)).mono (by omega)) (by omega)
      rw [Rat.intCast_add, Rat.intCast_mul, Rat.intCast_mul] at this
      exact this
  | @ci x2 y2 s2 _ _ _ _ _ c2 ch h =>
    obtain ⟨rfl, rfl, rfl⟩ := hc
    obtain ⟨X, Y, D, d0, eX, eY, a1, a2, a3⟩ := ch.jh
    obtain ⟨X2, Y2, D2, d20, eX2, eY2, b1, b2, b3⟩ := c2.jh
    obtain ⟨R, M, m0, eR, r1, r2⟩ := ch.sq
    obtain ⟨R2, M2, m20, eR2, r3, r4⟩ := c2.sq
    have dd : D * D2 ≠ 0 := Int.mul_ne_zero d0 d20
    have mm : (M * M2) * (M * M2) ≠ 0 := Int.mul_ne_zero (Int.mul_ne_zero m0 m20) (Int.mul_ne_zero m0 m20)
    have zz : (D * D2) * (D * D2) ≠ 0 := Int.mul_ne_zero dd dd
    have sM := Sm.mul (Sm.mul r2 r4) (Sm.mul r2 r4)
    have sD := Sm.mul (Sm.mul a3 b3) (Sm.mul a3 b3)
    have sR : Sm (4 * k + 4 * m + 4) ((R2 * (M * M) - R * (M2 * M2)) * ((D * D2) * (D * D2))) := (Sm.mul (Sm.subm (Sm.mul r3 (Sm.mul r2 r2)) (Sm.mul r1 (Sm.mul r4 r4))) sD).mono (by omega)
    have cR : ((R2 * (M * M) - R * (M2 * M2) : Int) : Rat) = (s2 - s) * (M * M2 * (M * M2)) := by
      simp only [Rat.intCast_mul, Rat.intCast_sub]; rw [eR, eR2]; grind
    have fin : ∀ {G : Int} {z : Rat}, (G : Rat) = z * (D * D2 * (D * D2)) → Sm (2 * k + 2 * m + 4) G → Sz (4 * k + 4 * m + 9) ((s2 - s) + z) ∧ Sz (4 * k + 4 * m + 9) ((s2 - s) - z) := fun {G z} e sG => by
      have sG2 := (Sm.mul sG sM).mono (show _ ≤ 4 * k + 4 * m + 8 by omega)
      have nz := Int.mul_ne_zero mm zz
      have sN := (Sm.mul sM sD).mono (show _ ≤ 4 * k + 4 * m + 9 by omega)
      constructor
      · refine sz_over (F := (R2 * (M * M) - R * (M2 * M2)) * ((D * D2) * (D * D2)) + G * ((M * M2) * (M * M2))) nz ?_ (Sm.add (sR.mono (by omega)) sG2) sN
        rw [Rat.intCast_add, Rat.intCast_mul, Rat.intCast_mul G, cR, e]
        simp only [Rat.intCast_mul]
        grind
      · refine sz_over (F := (R2 * (M * M) - R * (M2 * M2)) * ((D * D2) * (D * D2)) - G * ((M * M2) * (M * M2))) nz ?_ (Sm.sub (sR.mono (by omega)) sG2) sN
        rw [Rat.intCast_sub, Rat.intCast_mul, Rat.intCast_mul G, cR, e]
        simp only [Rat.intCast_mul]
        grind
    have sx := Sm.subm (Sm.mul a1 b3) (Sm.mul b1 a3)
    have sy := Sm.subm (Sm.mul a2 b3) (Sm.mul b2 a3)
    have cx : ((X * D2 - X2 * D : Int) : Rat) = (x - x2) * (D * D2) := by simp only [Rat.intCast_mul, Rat.intCast_sub]; rw [eX, eX2]; grind
    have cy : ((Y * D2 - Y2 * D : Int) : Rat) = (y - y2) * (D * D2) := by simp only [Rat.intCast_mul, Rat.intCast_sub]; rw [eY, eY2]; grind
    have zx : Sz (k + m + 3) (2 * (x - x2)) := by
      refine sz_over (F := 2 * (X * D2 - X2 * D)) dd ?_ ((Sm.mul two_sm sx).mono (by omega)) ((Sm.mul a3 b3).mono (by omega))
      rw [Rat.intCast_mul, cx, show ((2 : Int) : Rat) = 2 from rfl, Rat.intCast_mul]
      grind
    have zy : Sz (k + m + 3) (2 * (y - y2)) := by
      refine sz_over (F := 2 * (Y * D2 - Y2 * D)) dd ?_ ((Sm.mul two_sm sy).mono (by omega)) ((Sm.mul a3 b3).mono (by omega))
      rw [Rat.intCast_mul, cy, show ((2 : Int) : Rat) = 2 from rfl, Rat.intCast_mul]
      grind
    refine ⟨zx.mono (by omega), zy.mono (by omega), ?_, 4 * k + 4 * m + 9, 4 * k + 4 * m + 15, ?_, ?_, by omega, by omega, by omega⟩
    · refine (fin (G := (X * X + Y * Y) * (D2 * D2) - (X2 * X2 + Y2 * Y2) * (D * D)) ?_ ?_).1.mono (by omega)
      · simp only [Rat.intCast_mul, Rat.intCast_sub, Rat.intCast_add]
        rw [eX, eY, eX2, eY2]
        grind
      · exact (Sm.subm (Sm.mul (Sm.addm (Sm.mul a1 a1) (Sm.mul a2 a2)) (Sm.mul b3 b3)) (Sm.mul (Sm.addm (Sm.mul b1 b1) (Sm.mul b2 b2)) (Sm.mul a3 a3))).mono (by omega)
    · have := (fin (G := (X * D2 - X2 * D) * (X * D2 - X2 * D) + (Y * D2 - Y2 * D) * (Y * D2 - Y2 * D)) (z := (x - x2) * (x - x2) + (y - y2) * (y - y2)) ?_ ?_).2
      · rw [show (s2 - s) + ((x * x + y * y) - (x2 * x2 + y2 * y2)) - (2 * (x - x2) * x + 2 * (y - y2) * y) = (s2 - s) - ((x - x2) * (x - x2) + (y - y2) * (y - y2)) by grind]
        exact this
      · rw [Rat.intCast_add, Rat.intCast_mul, Rat.intCast_mul, cx, cy]
        grind
      · exact (Sm.addm (Sm.mul sx sx) (Sm.mul sy sy)).mono (by omega)
    · exact (Sz.add (Sz.mul zx zx) (Sz.mul zy zy)).mono (by omega)
def spChord31 (K : PySem.W.Frag) : Sp := fun vs H Q _ => ∃ (v w : V) (c : Tell) (x y s : Rat) (k m : Nat), vs = [v, w] ∧ Tq K H v c ∧ Tq K H w (.ci x y s) ∧ Cv c k x y s m ∧
  ∀ (l : Addr) (f g h : V) (A B C : Rat) (H' : Hp), Same H H' → SqL K H' l [f, g, h] → Fq K H' f A → Fq K H' g B → Fq K H' h C → Chd c x y s A B C → Q (.ref l) H'
def spParts31 (K : PySem.W.Frag) : Sp := fun vs H Q _ => ∃ (v w : V) (c : Tell) (x y s : Rat) (k m : Nat), vs = [v, w] ∧ Tq K H v c ∧ Tq K H w (.ci x y s) ∧ Cv c k x y s m ∧
  ∀ (p : Addr) (f g h i : V) (A B C : Rat) (H' : Hp), Same H H' → SqT K H' p [f, g, h, i] → Fq K H' f A → Fq K H' g B → Fq K H' h (C - (A * x + B * y)) → Fq K H' i (A * A + B * B) → Chd c x y s A B C → Q (.ref p) H'
def spFirst31 (K : PySem.W.Frag) : Sp := fun vs H Q _ => ∃ (u v w : V) (p q : Rat) (c : Tell) (x y s : Rat) (k m : Nat), vs = [u, v, w] ∧ Pq K H u p q ∧ Sz 3000 p ∧ Sz 3000 q ∧ Tq K H v c ∧ Tq K H w (.ci x y s) ∧ Cv c k x y s m ∧ (∀ A B C, Chd c x y s A B C → A * A + B * B ≠ 0) ∧
  ∀ (A B C v : Rat) (H' : Hp), Same H H' → Chd c x y s A B C → v * (A * A + B * B) = C - (A * x + B * y) → Q (.int (ordN (p - (x + A * v)) (q - (y + B * v)))) H'
/-! ### fractions with a bottom above 0, in lowest terms or not -/
theorem r_gq4 {i j k l : Nat} {u v w x : V} {σ : St} {H : Hp} {Q : St → Hp → Prop} (q : Q ((((σ.set i (some u)).set j (some v)).set k (some w)).set l (some x)) H) : gCons (gName i) (gCons (gName j) (gCons (gName k) (gCons (gName l) gNil))) [u, v, w, x] σ H Q := ⟨u, _, rfl, v, _, rfl, w, _, rfl, x, _, rfl, rfl, q⟩
def Rp (K : PySem.W.Frag) (H : Hp) (v : V) (q : Rat) (n : Nat) : Prop := ∃ a t b, v = .ref a ∧ SqT K H a [.int t, .int b] ∧ 0 < b ∧ q = Rat.divInt t b ∧ Sm n t ∧ Sm n b
theorem Rp.up {K : PySem.W.Frag} {H H' : Hp} {v : V} {q : Rat} {n : Nat} (h : Rp K H v q n) (s : Same H H') : Rp K H' v q n := by
  obtain ⟨a, t, b, rfl, h1, h2⟩ := h
  exact ⟨a, t, b, rfl, s.tp h1, h2⟩
theorem Fq.rp {K : PySem.W.Frag} {H : Hp} {v : V} {q : Rat} {n : Nat} (h : Fq K H v q) (s : Sz n q) : Rp K H v q n := by
  obtain ⟨a, rfl, t⟩ := h
  exact ⟨a, _, _, rfl, t, den_pos q, (Rat.num_divInt_den q).symm, s.t, s.b⟩
theorem Rp.sgn {K : PySem.W.Frag} {H : Hp} {v : V} {q : Rat} {n : Nat} (h : Rp K H v q n) : ∃ a t b, v = .ref a ∧ SqT K H a [.int t, .int b] ∧ (t = 0 ↔ q = 0) ∧ (0 < t ↔ 0 < q) := by
  obtain ⟨a, t, b, rfl, h1, h2, h3, _⟩ := h
  have e : (b : Rat) * q = t := by
    rw [h3, Rat.divInt_eq_div, Rat.mul_comm, Rat.div_mul_cancel (ratz (by omega))]
  obtain ⟨k1, k2⟩ := sgn_of (pos_int h2) e
  refine ⟨a, t, b, rfl, h1, ⟨fun z => k1.mpr (by rw [z]; rfl), fun z => cast_inj ((k1.mp z).trans rfl)⟩, ⟨fun z => k2.mpr (pos_int z), fun z => ?_⟩⟩
  have := k2.mp z
  apply Int.not_le.mp
  intro y
  have h0 := Rat.mul_nonneg (show (0 : Rat) ≤ 1 by decide) (show (0 : Rat) ≤ ((-t : Int) : Rat) by
    rw [← Rat.num_nonneg]
    show 0 ≤ -t
    omega)
  rw [Rat.intCast_neg] at h0
  grind
def spRp (K : PySem.W.Frag) (op : Rat → Rat → Rat) : Sp := fun vs H Q _ => ∃ (v w : V) (p q : Rat) (n m : Nat), vs = [v, w] ∧ Rp K H v p n ∧ Rp K H w q m ∧ n ≤ 20000 ∧ m ≤ 20000 ∧
  ∀ (r : V) (H' : Hp), Same H H' → Rp K H' r (op p q) (n + m + 1) → Q r H'
def spRB (K : PySem.W.Frag) (op : Rat → Rat → Rat) : Sp := fun vs H Q E => spR2 K op vs H Q E ∨ spRp K op vs H Q E
theorem rp_raw {K : PySem.W.Frag} {op : Rat → Rat → Rat} {T B : Int → Int → Int → Int → Int}
    (hop : ∀ x y u v : Int, ∀ n m : Nat, 0 < y → 0 < v → Sm n x → Sm n y → Sm m u → Sm m v → 0 < B x y u v ∧ op (Rat.divInt x y) (Rat.divInt u v) = Rat.divInt (T x y u v) (B x y u v) ∧ Sm (n + m + 1) (T x y u v) ∧ Sm (n + m + 1) (B x y u v)) {vs : List V} {H : Hp} {Q : VK} {E : XK} (h : spRp K op vs H Q E) : spRaw K T B vs H Q E := by
  obtain ⟨_, _, p, q, n, m, rfl, ⟨a, x, y, rfl, ha, y0, rfl, sx, sy⟩, ⟨b, u, v, rfl, hb, v0, rfl, su, sv⟩, l1, l2, k⟩ := h
  obtain ⟨h1, h2, h3, h4⟩ := hop x y u v n m y0 v0 sx sy su sv
  exact ⟨a, b, _, _, _, _, rfl, ha, hb, sx.mono l1, sy.mono l1, su.mono l2, sv.mono l2, fun o H' g _ ho => k _ _ g ⟨o, _, _, rfl, tupOf ho, h1, h2, h3, h4⟩⟩
theorem plus_rB {K : PySem.W.Frag} {vs : List V} {H : Hp} {Q : VK} {E : XK} (h : spRB K (· + ·) vs H Q E) : spRaw K (fun x y u v => x * v + u * y) (fun x y u v => y * v) vs H Q E :=
  h.elim plus_r2 (rp_raw fun x y u v n m y0 v0 sx sy su sv => ⟨Int.mul_pos y0 v0, Rat.divInt_add_divInt _ _ (by omega) (by omega), (sx.mul sv).add ((su.mul sy).mono (by omega)), (sy.mul sv).mono (by omega)⟩)
theorem minus_rB {K : PySem.W.Frag} {vs : List V} {H : Hp} {Q : VK} {E : XK} (h : spRB K (· - ·) vs H Q E) : spRaw K (fun x y u v => x * v - u * y) (fun x y u v => y * v) vs H Q E :=
  h.elim minus_r2 (rp_raw fun x y u v n m y0 v0 sx sy su sv => ⟨Int.mul_pos y0 v0, Rat.divInt_sub_divInt _ _ (by omega) (by omega), (sx.mul sv).sub ((su.mul sy).mono (by omega)), (sy.mul sv).mono (by omega)⟩)
theorem times_rB {K : PySem.W.Frag} {vs : List V} {H : Hp} {Q : VK} {E : XK} (h : spRB K (· * ·) vs H Q E) : spRaw K (fun x y u v => x * u) (fun x y u v => y * v) vs H Q E :=
  h.elim times_r2 (rp_raw fun x y u v n m y0 v0 sx sy su sv => ⟨Int.mul_pos y0 v0, Rat.divInt_mul_divInt _ _, (sx.mul su).mono (by omega), (sy.mul sv).mono (by omega)⟩)
theorem rB_r2 {K : PySem.W.Frag} {op : Rat → Rat → Rat} {vs : List V} {H : Hp} {Q : VK} {E : XK} (h : spR2 K op vs H Q E) : spRB K op vs H Q E := .inl h
theorem rB_rp {K : PySem.W.Frag} {op : Rat → Rat → Rat} {vs : List V} {H : Hp} {Q : VK} {E : XK} (h : spRp K op vs H Q E) : spRB K op vs H Q E := .inr h
end Mb
namespace Mb
open PySem L2
/-! ### k31: the grounds as they stand -/
theorem ng_pt {x y : Rat} : tagOf (.pt x y) ≠ "gone" := show ("at" : Str) ≠ "gone" by decide
theorem ng_ln {x y z : Int} : tagOf (.ln x y z) ≠ "gone" := show ("line" : Str) ≠ "gone" by decide
theorem ng_ci {x y z : Rat} : tagOf (.ci x y z) ≠ "gone" := show ("circle" : Str) ≠ "gone" by decide
inductive On31 : Str → List Tell → Prop
  | free : On31 "free" []
  | pp {x : Str} {x1 y1 x2 y2 : Rat} {n m : Nat} (h : x ∈ (["middle", "next", "turn", "share", "line", "circle"] : List Str)) (a : Jh n x1 y1) (b : Jh m x2 y2) (l : n + m ≤ 3000) : On31 x [.pt x1 y1, .pt x2 y2]
  | pl {x : Str} {x1 y1 : Rat} {a b c : Int} {n m : Nat} (h : x ∈ (["foot", "mirror", "along", "upright"] : List Str)) (j : Jh n x1 y1) (t : Tb m (.ln a b c)) (l : n + m ≤ 3000) : On31 x [.pt x1 y1, .ln a b c]
  | ll {x : Str} {a b c a' b' c' : Int} {n m : Nat} (h : x ∈ (["meet", "beside", "square"] : List Str)) (t : Tb n (.ln a b c)) (t' : Tb m (.ln a' b' c')) (l : n + m ≤ 3000) : On31 x [.ln a b c, .ln a' b' c']
  | cut {c : Tell} {k m : Nat} {x y s : Rat} (h : Cv c k x y s m) : On31 "cut" [c, .ci x y s]
  | p3 {x1 y1 x2 y2 x3 y3 : Rat} {n m k : Nat} (a : Jh n x1 y1) (b : Jh m x2 y2) (c : Jh k x3 y3) (l : n + m + k ≤ 3000) : On31 "inline" [.pt x1 y1, .pt x2 y2, .pt x3 y3]
  | p4 {x : Str} {x1 y1 x2 y2 x3 y3 x4 y4 : Rat} {n m k j : Nat} (h : x ∈ (["round", "alike"] : List Str)) (a : Jh n x1 y1) (b : Jh m x2 y2) (c : Jh k x3 y3) (d : Jh j x4 y4) (l : 2 * (n + m + k + j) ≤ 3000) (l1 : n ≤ 1270) (l2 : m ≤ 1270) (l3 : k ≤ 1270) (l4 : j ≤ 1270) : On31 x [.pt x1 y1, .pt x2 y2, .pt x3 y3, .pt x4 y4]
theorem pt_tell {t : Tell} {n : Nat} (h : sortT "point" t) (g : tagOf t ≠ "gone") (b : Tb n t) : ∃ x y, t = .pt x y ∧ Jh n x y := by
  have e := (tag_srt h g).1 rfl
  cases t with
  | pt x y => exact ⟨x, y, rfl, b⟩
  | ln a b c => exact absurd (show ("line" : Str) = "at" from e) (by decide)
  | ci a b c => exact absurd (show ("circle" : Str) = "at" from e) (by decide)
  | kept => exact absurd (show ("kept" : Str) = "at" from e) (by decide)
  | broken => exact absurd (show ("broken" : Str) = "at" from e) (by decide)
  | gone a b => exact absurd rfl g
theorem ln_tell {t : Tell} {n : Nat} (h : sortT "line" t) (g : tagOf t ≠ "gone") (b : Tb n t) : ∃ x y z, t = .ln x y z ∧ Tb n (.ln x y z) := by
  obtain ⟨x, y, z, rfl⟩ := tag_ln ((tag_srt h g).2.1 rfl)
  exact ⟨x, y, z, rfl, b⟩
theorem ci_tell {t : Tell} {n : Nat} (h : sortT "circle" t) (g : tagOf t ≠ "gone") (b : Tb n t) : ∃ x y z, t = .ci x y z ∧ Ch n x y z := by
  obtain ⟨x, y, z, rfl⟩ := tag_ci ((tag_srt h g).2.2 rfl)
  exact ⟨x, y, z, rfl, b⟩
theorem wOf_sum {x : Str} {ns : List Str} {L : Env} (h1 : x ≠ "free") (h2 : ¬ (x = "foot" ∨ x = "mirror")) (h3 : x ≠ "cut") (h4 : ¬ (x = "round" ∨ x = "alike")) : wOf x ns L = (ns.map (wtE L)).sum := by
  unfold wOf
  rw [if_neg h1, if_neg h2, if_neg h3, if_neg h4]
theorem wOf_ft2 {x z1 z2 : Str} {L : Env} (h1 : x ≠ "free") (h2 : x = "foot" ∨ x = "mirror") : wOf x [z1, z2] L = wtE L z1 + 2 * wtE L z2 := by
  unfold wOf
  rw [if_neg h1, if_pos h2]
  rfl
theorem wOf_dbl {x : Str} {ns : List Str} {L : Env} (h1 : x ≠ "free") (h2 : ¬ (x = "foot" ∨ x = "mirror")) (h3 : x ≠ "cut") (h4 : x = "round" ∨ x = "alike") : wOf x ns L = 2 * (ns.map (wtE L)).sum := by
  unfold wOf
  rw [if_neg h1, if_neg h2, if_neg h3, if_pos h4]
theorem hgt2 {a b : Int} (h : a + b ≤ 40) (ha : 1 ≤ a) (hb : 1 ≤ b) : hgt a + hgt b ≤ 3000 := by unfold hgt; omega
theorem on31 {x : Str} {ns : List Str} {L : Env} {ps : Tls} (fe : FitsE x ns L) (tk : Tok_ L ps) (w40 : wOf x ns L ≤ 40) (nog : noGone (ns.map (lookT ps))) : On31 x (ns.map (lookT ps)) := by
  obtain ⟨so, g, tx, pr⟩ := fe
  have gz : ∀ z ∈ ns, tagOf (lookT ps z) ≠ "gone" := fun z hz => nog _ (List.mem_map_of_mem hz)
  by_cases c : x = "cut"
  · subst c
    obtain ⟨_, rfl⟩ := cut_of tx
    obtain ⟨z1, z2, rfl, ⟨⟨m1, _⟩, f1⟩, ⟨m2, _⟩, f2⟩ := two_list pr
    have s2 := tk.srt z2 m2
    rw [fit_eq f2 (by decide)] at s2
    obtain ⟨x, y, s, e2, c2⟩ := ci_tell s2 (gz z2 (by simp)) (tk.tb z2 m2)
    have p1 := tk.pos z1 m1
    have p2 := tk.pos z2 m2
    rw [wOf_cut] at w40
    have s1 := tk.srt z1 m1
    rw [List.map_cons, List.map_cons, List.map_nil, e2]
    rcases fit_cur f1 with e | e
    · rw [e] at s1 w40
      rw [if_neg (by decide)] at w40
      obtain ⟨a, b, c, e1, c1⟩ := ln_tell s1 (gz z1 (by simp)) (tk.tb z1 m1)
      rw [e1]
      exact .cut (.ln c1.1 c1.2.1 c1.2.2.1 c1.2.2.2 c2 (by unfold hgt; omega))
    · rw [e] at s1 w40
      rw [if_pos rfl] at w40
      obtain ⟨a, b, c, e1, c1⟩ := ci_tell s1 (gz z1 (by simp)) (tk.tb z1 m1)
      rw [e1]
      exact .cut (.ci c1 c2 (by unfold hgt; omega))
  have nc := nocurve_of tx c
  have two : ∀ {s1 s2 : Str}, g = [s1, s2] → ∃ z1 z2, ns = [z1, z2] ∧ (sortT s1 (lookT ps z1) ∧ tagOf (lookT ps z1) ≠ "gone" ∧ Tb (hgt (wtE L z1)) (lookT ps z1)) ∧ (sortT s2 (lookT ps z2) ∧ tagOf (lookT ps z2) ≠ "gone" ∧ Tb (hgt (wtE L z2)) (lookT ps z2)) ∧ 1 ≤ wtE L z1 ∧ 1 ≤ wtE L z2 := fun {s1 s2} hg => by
    subst hg
    obtain ⟨z1, z2, rfl, ⟨⟨m1, _⟩, f1⟩, ⟨m2, _⟩, f2⟩ := two_list pr
    have k1 := tk.srt z1 m1
    rw [fit_eq f1 (nc s1 (by simp))] at k1
    have k2 := tk.srt z2 m2
    rw [fit_eq f2 (nc s2 (by simp))] at k2
    exact ⟨z1, z2, rfl, ⟨k1, gz z1 (by simp), tk.tb z1 m1⟩, ⟨k2, gz z2 (by simp), tk.tb z2 m2⟩, (tk.pos z1 m1).1, (tk.pos z2 m2).1⟩
  have pp : g = gP2 → x ∈ (["middle", "next", "turn", "share", "line", "circle"] : List Str) → On31 x (ns.map (lookT ps)) := fun hg hx => by
    obtain ⟨z1, z2, rfl, ⟨a1, a2, a3⟩, ⟨b1, b2, b3⟩, p1, p2⟩ := two hg
    obtain ⟨x1, y1, e1, j1⟩ := pt_tell a1 a2 a3
    obtain ⟨x2, y2, e2, j2⟩ := pt_tell b1 b2 b3
    have hw : wOf x [z1, z2] L = wtE L z1 + wtE L z2 := by
      simp only [List.mem_cons, List.not_mem_nil, or_false] at hx
      rw [wOf_sum (by rcases hx with rfl | rfl | rfl | rfl | rfl | rfl <;> decide) (by rcases hx with rfl | rfl | rfl | rfl | rfl | rfl <;> decide) (by rcases hx with rfl | rfl | rfl | rfl | rfl | rfl <;> decide) (by rcases hx with rfl | rfl | rfl | rfl | rfl | rfl <;> decide)]
      simp
    rw [List.map_cons, List.map_cons, List.map_nil, e1, e2]
    exact .pp hx j1 j2 (hgt2 (by omega) p1 p2)
  have pl : g = gPL → x ∈ (["foot", "mirror", "along", "upright"] : List Str) → On31 x (ns.map (lookT ps)) := fun hg hx => by
    obtain ⟨z1, z2, rfl, ⟨a1, a2, a3⟩, ⟨b1, b2, b3⟩, p1, p2⟩ := two hg
    obtain ⟨x1, y1, e1, j1⟩ := pt_tell a1 a2 a3
    obtain ⟨x2, y2, u2, e2, j2⟩ := ln_tell b1 b2 b3
    have hw : wtE L z1 + wtE L z2 ≤ wOf x [z1, z2] L := by
      simp only [List.mem_cons, List.not_mem_nil, or_false] at hx
      rcases hx with rfl | rfl | rfl | rfl
      · rw [wOf_ft2 (by decide) (by decide)]; omega
      · rw [wOf_ft2 (by decide) (by decide)]; omega
      · rw [wOf_sum (by decide) (by decide) (by decide) (by decide)]; simp
      · rw [wOf_sum (by decide) (by decide) (by decide) (by decide)]; simp
    rw [List.map_cons, List.map_cons, List.map_nil, e1, e2]
    exact .pl hx j1 j2 (hgt2 (by omega) p1 p2)
  have ll : g = gL2 → x ∈ (["meet", "beside", "square"] : List Str) → On31 x (ns.map (lookT ps)) := fun hg hx => by
    obtain ⟨z1, z2, rfl, ⟨a1, a2, a3⟩, ⟨b1, b2, b3⟩, p1, p2⟩ := two hg
    obtain ⟨x1, y1, u1, e1, j1⟩ := ln_tell a1 a2 a3
    obtain ⟨x2, y2, u2, e2, j2⟩ := ln_tell b1 b2 b3
    have hw : wOf x [z1, z2] L = wtE L z1 + wtE L z2 := by
      simp only [List.mem_cons, List.not_mem_nil, or_false] at hx
      rw [wOf_sum (by rcases hx with rfl | rfl | rfl <;> decide) (by rcases hx with rfl | rfl | rfl <;> decide) (by rcases hx with rfl | rfl | rfl <;> decide) (by rcases hx with rfl | rfl | rfl <;> decide)]
      simp
    rw [List.map_cons, List.map_cons, List.map_nil, e1, e2]
    exact .ll hx j1 j2 (hgt2 (by omega) p1 p2)
  by_cases cs : so = "claim"
  · subst cs
    rcases claims_of tx with ⟨rfl, rfl⟩ | ⟨rfl, rfl⟩ | ⟨rfl, rfl⟩ | ⟨rfl, rfl⟩ | ⟨rfl, rfl⟩
    · obtain ⟨z1, z2, z3, rfl, ⟨⟨m1, _⟩, f1⟩, ⟨⟨m2, _⟩, f2⟩, ⟨m3, _⟩, f3⟩ := three_list pr
      obtain ⟨x1, y1, e1, j1⟩ := pt_tell (fit_eq f1 (by decide) ▸ tk.srt z1 m1) (gz z1 (by simp)) (tk.tb z1 m1)
      obtain ⟨x2, y2, e2, j2⟩ := pt_tell (fit_eq f2 (by decide) ▸ tk.srt z2 m2) (gz z2 (by simp)) (tk.tb z2 m2)
      obtain ⟨x3, y3, e3, j3⟩ := pt_tell (fit_eq f3 (by decide) ▸ tk.srt z3 m3) (gz z3 (by simp)) (tk.tb z3 m3)
      have p1 := (tk.pos z1 m1).1
      have p2 := (tk.pos z2 m2).1
      have p3 := (tk.pos z3 m3).1
      have hw : wOf "inline" [z1, z2, z3] L = wtE L z1 + (wtE L z2 + wtE L z3) := by rw [wOf_sum (by decide) (by decide) (by decide) (by decide)]; simp
      rw [List.map_cons, List.map_cons, List.map_cons, List.map_nil, e1, e2, e3]
      exact .p3 j1 j2 j3 (by unfold hgt; omega)
    · obtain ⟨z1, z2, z3, z4, rfl, ⟨⟨m1, _⟩, f1⟩, ⟨⟨m2, _⟩, f2⟩, ⟨⟨m3, _⟩, f3⟩, ⟨m4, _⟩, f4⟩ := four_list pr
      obtain ⟨x1, y1, e1, j1⟩ := pt_tell (fit_eq f1 (by decide) ▸ tk.srt z1 m1) (gz z1 (by simp)) (tk.tb z1 m1)
      obtain ⟨x2, y2, e2, j2⟩ := pt_tell (fit_eq f2 (by decide) ▸ tk.srt z2 m2) (gz z2 (by simp)) (tk.tb z2 m2)
      obtain ⟨x3, y3, e3, j3⟩ := pt_tell (fit_eq f3 (by decide) ▸ tk.srt z3 m3) (gz z3 (by simp)) (tk.tb z3 m3)
      obtain ⟨x4, y4, e4, j4⟩ := pt_tell (fit_eq f4 (by decide) ▸ tk.srt z4 m4) (gz z4 (by simp)) (tk.tb z4 m4)
      have p1 := (tk.pos z1 m1).1
      have p2 := (tk.pos z2 m2).1
      have p3 := (tk.pos z3 m3).1
      have p4 := (tk.pos z4 m4).1
      have hw : wOf "round" [z1, z2, z3, z4] L = 2 * (wtE L z1 + (wtE L z2 + (wtE L z3 + wtE L z4))) := by rw [wOf_dbl (by decide) (by decide) (by decide) (by decide)]; simp
      rw [List.map_cons, List.map_cons, List.map_cons, List.map_cons, List.map_nil, e1, e2, e3, e4]
      exact .p4 (by simp) j1 j2 j3 j4 (by unfold hgt; omega) (by unfold hgt; omega) (by unfold hgt; omega) (by unfold hgt; omega) (by unfold hgt; omega)
    · obtain ⟨z1, z2, z3, z4, rfl, ⟨⟨m1, _⟩, f1⟩, ⟨⟨m2, _⟩, f2⟩, ⟨⟨m3, _⟩, f3⟩, ⟨m4, _⟩, f4⟩ := four_list pr
      obtain ⟨x1, y1, e1, j1⟩ := pt_tell (fit_eq f1 (by decide) ▸ tk.srt z1 m1) (gz z1 (by simp)) (tk.tb z1 m1)
      obtain ⟨x2, y2, e2, j2⟩ := pt_tell (fit_eq f2 (by decide) ▸ tk.srt z2 m2) (gz z2 (by simp)) (tk.tb z2 m2)
      obtain ⟨x3, y3, e3, j3⟩ := pt_tell (fit_eq f3 (by decide) ▸ tk.srt z3 m3) (gz z3 (by simp)) (tk.tb z3 m3)
      obtain ⟨x4, y4, e4, j4⟩ := pt_tell (fit_eq f4 (by decide) ▸ tk.srt z4 m4) (gz z4 (by simp)) (tk.tb z4 m4)
      have p1 := (tk.pos z1 m1).1
      have p2 := (tk.pos z2 m2).1
      have p3 := (tk.pos z3 m3).1
      have p4 := (tk.pos z4 m4).1
      have hw : wOf "alike" [z1, z2, z3, z4] L = 2 * (wtE L z1 + (wtE L z2 + (wtE L z3 + wtE L z4))) := by rw [wOf_dbl (by decide) (by decide) (by decide) (by decide)]; simp
      rw [List.map_cons, List.map_cons, List.map_cons, List.map_cons, List.map_nil, e1, e2, e3, e4]
      exact .p4 (by simp) j1 j2 j3 j4 (by unfold hgt; omega) (by unfold hgt; omega) (by unfold hgt; omega) (by unfold hgt; omega) (by unfold hgt; omega)
    · exact ll rfl (by simp)
    · exact ll rfl (by simp)
  · rcases figs_of tx cs c with ⟨rfl, rfl⟩ | ⟨rfl, h⟩ | ⟨rfl, h⟩ | ⟨rfl, h⟩ | ⟨rfl, h⟩ | ⟨rfl, h⟩ | ⟨rfl, h⟩ | ⟨rfl, h⟩ | ⟨rfl, h⟩ | ⟨rfl, h⟩ | ⟨rfl, h⟩ | ⟨rfl, h⟩
    · cases pr
      exact .free
    all_goals first
      | exact pp h (by simp)
      | exact pl h (by simp)
      | exact ll h (by simp)
theorem On31.nog {x : Str} {on : List Tell} (h : On31 x on) : noGone on := by
  intro t ht e
  cases h with
  | free => cases ht
  | pp _ _ _ _ => simp only [List.mem_cons, List.not_mem_nil, or_false] at ht; rcases ht with rfl | rfl <;> first | exact absurd e ng_pt | exact absurd e ng_ln | exact absurd e ng_ci
  | pl _ _ _ _ => simp only [List.mem_cons, List.not_mem_nil, or_false] at ht; rcases ht with rfl | rfl <;> first | exact absurd e ng_pt | exact absurd e ng_ln | exact absurd e ng_ci
  | ll _ _ _ _ => simp only [List.mem_cons, List.not_mem_nil, or_false] at ht; rcases ht with rfl | rfl <;> first | exact absurd e ng_pt | exact absurd e ng_ln | exact absurd e ng_ci
  | cut h =>
    simp only [List.mem_cons, List.not_mem_nil, or_false] at ht
    cases h <;> rcases ht with rfl | rfl <;> first | exact absurd e ng_pt | exact absurd e ng_ln | exact absurd e ng_ci
  | p3 _ _ _ _ => simp only [List.mem_cons, List.not_mem_nil, or_false] at ht; rcases ht with rfl | rfl | rfl <;> first | exact absurd e ng_pt | exact absurd e ng_ln | exact absurd e ng_ci
  | p4 _ _ _ _ _ _ _ _ _ _ => simp only [List.mem_cons, List.not_mem_nil, or_false] at ht; rcases ht with rfl | rfl | rfl | rfl <;> first | exact absurd e ng_pt | exact absurd e ng_ln | exact absurd e ng_ci
/-- the ones that never fail themselves -/
theorem tel_stands {ord : Str → Int} {z x : Str} {d : Tail} {on : List Tell} {t : Tell} (g : noGone on) (hx : x ∉ (["line", "circle", "meet", "cut"] : List Str)) (h : TelR ord z x d on t) : tagOf t ≠ "gone" := by
  cases h with
  | gone h h' => exact (noGone_not g h).elim
  | cut _ e _ _ _ => exact absurd (by simp [e]) hx
  | @claim b _ _ _ => cases b <;> decide
  | fig _ k => cases k <;> first | exact ng_pt | exact ng_ln | exact ng_ci
  | fig0 _ k => exact absurd (by have := fg_none k; simp only [List.mem_cons, List.not_mem_nil, or_false] at this ⊢; rcases this with h | h | h <;> simp [h]) hx
theorem tel_two {ord : Str → Int} {z x : Str} {d : Tail} {x1 y1 x2 y2 : Rat} {t : Tell} (hx : x = "line" ∨ x = "circle") (h : TelR ord z x d [.pt x1 y1, .pt x2 y2] t) : ((x1 = x2 ∧ y1 = y2) → t = .gone z "same") ∧ (¬ (x1 = x2 ∧ y1 = y2) → tagOf t ≠ "gone") := by
  have ng : noGone [.pt x1 y1, .pt x2 y2] := fun t ht e => by simp only [List.mem_cons, List.not_mem_nil, or_false] at ht; rcases ht with rfl | rfl <;> first | exact absurd e ng_pt | exact absurd e ng_ln | exact absurd e ng_ci
  cases h with
  | gone h h' => exact (noGone_not ng h).elim
  | cut _ e _ _ _ => exact absurd e (by rcases hx with rfl | rfl <;> decide)
  | claim _ e _ => exact absurd e (by rcases hx with rfl | rfl <;> decide)
  | fig _ k =>
    rcases hx with rfl | rfl
    · cases k with | line e _ _ _ => exact ⟨fun h => absurd h e, fun _ => by first | exact ng_pt | exact ng_ln | exact ng_ci⟩
    · cases k with | circle e => exact ⟨fun h => absurd h e, fun _ => by first | exact ng_pt | exact ng_ln | exact ng_ci⟩
  | fig0 _ k =>
    rcases hx with rfl | rfl
    · cases k with | line0 e => exact ⟨fun _ => rfl, fun h => absurd e h⟩
    · cases k with | circle0 e => exact ⟨fun _ => rfl, fun h => absurd e h⟩
theorem tel_meet {ord : Str → Int} {z : Str} {d : Tail} {a b c a' b' c' : Int} {t : Tell} (h : TelR ord z "meet" d [.ln a b c, .ln a' b' c'] t) : (a * b' = b * a' → t = .gone z "parallel") ∧ (¬ a * b' = b * a' → tagOf t ≠ "gone") := by
  have ng : noGone [.ln a b c, .ln a' b' c'] := fun t ht e => by simp only [List.mem_cons, List.not_mem_nil, or_false] at ht; rcases ht with rfl | rfl <;> first | exact absurd e ng_pt | exact absurd e ng_ln | exact absurd e ng_ci
  cases h with
  | gone h h' => exact (noGone_not ng h).elim
  | cut _ e _ _ _ => exact absurd e (by decide)
  | claim _ e _ => exact absurd e (by decide)
  | fig _ k => cases k with | meet e _ _ => exact ⟨fun h => absurd h e, fun _ => by first | exact ng_pt | exact ng_ln | exact ng_ci⟩
  | fig0 _ k => cases k with | meet0 e => exact ⟨fun _ => rfl, fun h => absurd e h⟩
theorem tel_cut {ord : Str → Int} {z : Str} {d : Tail} {c r t : Tell} (h : TelR ord z "cut" d [c, r] t) (ng : noGone [c, r]) : ∃ n, d = .ct n ∧ Cut z n c r t := by
  cases h with
  | gone h h' => exact (noGone_not ng h).elim
  | @cut n c' r' _ _ e e' eo k =>
    cases eo
    exact ⟨n, e', k⟩
  | claim _ e _ => exact absurd e (by decide)
  | fig _ k => exact absurd rfl (fg_not k).1
  | fig0 _ k => exact absurd rfl (fg_not k).1
theorem map_nil' {α β : Type} {f : α → β} {l : List α} (h : l.map f = []) : l = [] := List.map_eq_nil_iff.mp h
theorem map_two {α β : Type} {f : α → β} {l : List α} {a b : β} (h : l.map f = [a, b]) : ∃ u v, l = [u, v] ∧ f u = a ∧ f v = b := by
  match l, h with
  | [u, v], h => cases h; exact ⟨u, v, rfl, rfl, rfl⟩
theorem map_three {α β : Type} {f : α → β} {l : List α} {a b c : β} (h : l.map f = [a, b, c]) : ∃ u v w, l = [u, v, w] ∧ f u = a ∧ f v = b ∧ f w = c := by
  match l, h with
  | [u, v, w], h => cases h; exact ⟨u, v, w, rfl, rfl, rfl, rfl⟩
theorem map_four {α β : Type} {f : α → β} {l : List α} {a b c d : β} (h : l.map f = [a, b, c, d]) : ∃ u v w x, l = [u, v, w, x] ∧ f u = a ∧ f v = b ∧ f w = c ∧ f x = d := by
  match l, h with
  | [u, v, w, x], h => cases h; exact ⟨u, v, w, x, rfl, rfl, rfl, rfl, rfl⟩
/-- what stands ahead: a making, the tellings by name -/
structure Ah (K : PySem.W.Frag) (H : Hp) (m D : Addr) (x : Str) (ns : List Str) (d : Tail) (tv : List (Str × V)) (ps : Tls) : Prop where
  mq : Mq K H m x ns d
  okm : ∃ L, Okm x ns L
  dD : H D = some (.dK (toldD tv))
  tos : Tos K H tv ps
  inP : ∀ z ∈ ns, z ∈ ps.map (·.1)
  nr : Nr d
  on : On31 x (ns.map (lookT ps))
theorem Ah.up {K : PySem.W.Frag} {H H' : Hp} {m D : Addr} {x : Str} {ns : List Str} {d : Tail} {tv : List (Str × V)} {ps : Tls} (h : Ah K H m D x ns d tv ps) (s : Same H H') : Ah K H' m D x ns d tv ps := ⟨h.mq.kp (Kp.same s), h.okm, s _ _ h.dD, h.tos.kp (Kp.same s), h.inP, h.nr, h.on⟩
def spFail31 (K : PySem.W.Frag) : Sp := fun vs H Q _ => ∃ (m D : Addr) (x : Str) (ns : List Str) (d : Tail) (tv : List (Str × V)) (ps : Tls), vs = [.ref m, .ref D] ∧ Ah K H m D x ns d tv ps ∧
  ∀ (wd : Str) (H' : Hp), Same H H' → (∀ (ord : Str → Int) (z : Str) (t : Tell), TelR ord z x d (ns.map (lookT ps)) t → (wd = "" ∧ tagOf t ≠ "gone") ∨ (wd ≠ "" ∧ t = .gone z wd)) → Q (.str wd) H'
def spSo31 (K : PySem.W.Frag) : Sp := fun vs H Q _ => ∃ (m D : Addr) (x : Str) (ns : List Str) (d : Tail) (tv : List (Str × V)) (ps : Tls) (b : Bool), vs = [.ref m, .ref D] ∧ Ah K H m D x ns d tv ps ∧ Hd x (ns.map (lookT ps)) b ∧ ∀ H', Same H H' → Q (.bl b) H'
def spFits31 (K : PySem.W.Frag) : Sp := fun vs H Q _ => ∃ (m D : Addr) (v : V) (z x : Str) (ns : List Str) (d : Tail) (tv : List (Str × V)) (ps : Tls) (t : Tell) (ord : Str → Int), vs = [.ref m, v, .ref D] ∧ Ah K H m D x ns d tv ps ∧ Tq K H v t ∧ TelR ord z x d (ns.map (lookT ps)) t ∧ tagOf t ≠ "gone" ∧ Tb 3000 t ∧ ∀ H', Same H H' → Q (.bl true) H'
def Shq (K : PySem.W.Frag) (H : Hp) (v : V) (p : Thq × Tell) : Prop := ∃ (a m : Addr) (u : V), v = .ref a ∧ SqT K H a [.str p.1.1, .ref m, u] ∧ Mq K H m p.1.2.1 p.1.2.2.1 p.1.2.2.2 ∧ Tq K H u p.2
def spHolds31 (K : PySem.W.Frag) : Sp := fun vs H Q _ => ∃ (l : Addr) (us : List V) (ts : List Thq) (out : Tls), vs = [.ref l] ∧ SqL K H l us ∧ Paired (Shq K H) us (ts.zip (out.map (·.2))) ∧ Gr [] ts ∧ ts.length ≤ 60 ∧ AR [] ts out ∧ ∀ H', Same H H' → Q (.bl true) H'
end Mb
namespace Mb
open PySem L2
def spOnWay31 (K : PySem.W.Frag) : Sp := fun vs H Q _ => ∃ (v w u r : V) (X Y x1 y1 x2 y2 t : Rat), vs = [v, w, u, r] ∧ Pq K H v X Y ∧ Pq K H w x1 y1 ∧ Pq K H u x2 y2 ∧ Rq K H r t 100 ∧ Sz 3000 X ∧ Sz 3000 Y ∧ Sz 3000 x1 ∧ Sz 3000 y1 ∧ Sz 3000 x2 ∧ Sz 3000 y2 ∧ X = x1 + t * (x2 - x1) ∧ Y = y1 + t * (y2 - y1) ∧ ∀ H', Same H H' → Q (.bl true) H'
def spPoint31 (K : PySem.W.Frag) : Sp := fun vs H Q _ => ∃ (m l : Addr) (v : V) (x : Str) (ns : List Str) (d : Tail) (us : List V) (on : List Tell) (X Y : Rat), vs = [.ref m, v, .ref l] ∧ Mq K H m x ns d ∧ ns.length = on.length ∧ Pq K H v X Y ∧ Sz 3000 X ∧ Sz 3000 Y ∧ SqL K H l us ∧ Paired (Pt K H) us on ∧ On31 x on ∧ Nr d ∧ Fg x d on (some (.pt X Y)) ∧ x ≠ "free" ∧ ∀ H', Same H H' → Q (.bl true) H'
def spLineFits31 (K : PySem.W.Frag) : Sp := fun vs H Q _ => ∃ (m l : Addr) (v : V) (x : Str) (ns : List Str) (d : Tail) (us : List V) (on : List Tell) (a b c : Int), vs = [.ref m, v, .ref l] ∧ Mq K H m x ns d ∧ ns.length = on.length ∧ Lq K H v a b c ∧ Sm 3000 a ∧ Sm 3000 b ∧ Sm 3000 c ∧ SqL K H l us ∧ Paired (Pt K H) us on ∧ On31 x on ∧ Fg x d on (some (.ln a b c)) ∧ ∀ H', Same H H' → Q (.bl true) H'
theorem nr_sz31 {t : Rat} (h : Nr (.sh t)) : Sz 10 t := by
  obtain ⟨h1, h2⟩ := h
  refine ⟨?_, ?_⟩
  · show t.num.natAbs < 2 ^ 10
    omega
  · show ((t.den : Int)).natAbs < 2 ^ 10
    omega
end Mb
namespace Mb
open PySem L2
/-! ### k31: comprehensions over a range, tails of tellings -/
theorem r_lcRQ {ta : TA} {g : TG} {tt : TT} {te : TE} {vs : List Nat} {σ : St} {H : Hp} {Q : VK} (q : ta σ H fun xs H1 => ∃ j : Int, xs = [.int j] ∧ -(2 ^ 62) ≤ j ∧ j < 2 ^ 62 ∧ ∀ D, H1 D = none → ∃ W : Nat → Nat → Hp → Prop, (∃ m, W 0 m (upd H1 D (.lst []))) ∧ ∀ i m H, W i m H →
  ((Itr 0 j.toNat).stop i H ∧ Q (.ref D) H) ∨ ((Itr 0 j.toNat).go i H ∧ ∃ Nx : Hp → Prop, (∀ H', Nx H' → ∃ m', m' < m ∧ W (i + 1) m' H') ∧ ∀ x H', (Itr 0 j.toNat).yld i H x H' → g x (wipe σ vs) H' fun σ2 H2 => wipe σ2 vs = wipe σ vs ∧ tt σ2 H2 fun b H3 =>
    if b = true then te σ2 H3 fun y H4 => ∃ acc, H4 D = some (.lst acc) ∧ acc.length < sizeLine ∧ Nx (upd H4 D (.lst (acc ++ [y]))) else Nx H3)) : tLc (iRng1 ta) g tt te vs σ H Q := q
theorem lc_mkN {j n : Nat} {te : TE} {σ : St} {Q : VK} {H : Hp} (R : Addr → Hp → V → Nat → Prop) (monoR : ∀ {D : Addr} {H H' : Hp} {v : V} {x : Nat} {ys : List V}, H D = some (.lst ys) → But D H H' → R D H v x → R D H' v x) (few : n ≤ 10000) (hσ : ∀ v, wipe ((wipe σ [j]).set j (some v)) [j] = wipe σ [j])
    (stE : ∀ (i : Nat) (D : Addr) (H' : Hp), i < n → Same H H' → (∃ vs, H' D = some (.lst vs)) → ∀ S : VK, (∀ (u : V) (H4 : Hp), Same H' H4 → R D H4 u i → S u H4) → te ((wipe σ [j]).set j (some (.int (0 + (i : Int))))) H' S)
    (fin : ∀ (D : Addr) (vs : List V) (H' : Hp), Same H H' → H D = none → H' D = some (.lst vs) → Paired (R D H') vs (List.range n) → Q (.ref D) H') : ∀ D, H D = none → ∃ W : Nat → Nat → Hp → Prop, (∃ m, W 0 m (upd H D (.lst []))) ∧ ∀ i m H, W i m H →
      ((Itr 0 n).stop i H ∧ Q (.ref D) H) ∨ ((Itr 0 n).go i H ∧ ∃ Nx : Hp → Prop, (∀ H', Nx H' → ∃ m', m' < m ∧ W (i + 1) m' H') ∧ ∀ x H', (Itr 0 n).yld i H x H' → gName j x (wipe σ [j]) H' fun σ2 H2 => wipe σ2 [j] = wipe σ [j] ∧ tYes σ2 H2 fun b H3 =>
        if b = true then te σ2 H3 fun y H4 => ∃ acc, H4 D = some (.lst acc) ∧ acc.length < sizeLine ∧ Nx (upd H4 D (.lst (acc ++ [y]))) else Nx H3) := fun D hD => by
  refine lc_range (lo := 0) (fun i H' => ∃ vs : List V, Same H H' ∧ H' D = some (.lst vs) ∧ vs.length = i ∧ Paired (R D H') vs (List.range i)) ⟨[], same_new hD _, upd_same, rfl, .nil⟩ ?_ ?_
  · rintro i H' hi ⟨vs, g, d, lv, pr'⟩
    refine ⟨hσ _, ?_⟩
    refine r_yes ?_
    rw [if_pos rfl]
    refine stE i D H' hi g ⟨vs, d⟩ _ fun u H4 g4 ru => ?_
    have d4 := g4 _ _ d
    have k4 : But D H4 (upd H4 D (.lst (vs ++ [u]))) := But.upd _ _ _
    refine ⟨_, d4, Nat.lt_of_le_of_lt (show vs.length ≤ 10000 by omega) (by decide), vs ++ [u], same_updS (g.trans g4) hD, upd_same, by simp [lv], ?_⟩
    rw [List.range_succ]
    exact paired_snocT (Paired.mapP pr' fun _ _ h => monoR d ((But.same g4).trans k4) h) (monoR d4 k4 ru)
  · rintro H' ⟨vs, g, d, lv, pr'⟩
    exact fin D vs H' g hD d pr'
theorem lc_mkZ {j n : Nat} {z : Int} {te : TE} {σ : St} {Q : VK} {H : Hp} (R : Addr → Hp → V → Nat → Prop) (monoR : ∀ {D : Addr} {H H' : Hp} {v : V} {x : Nat} {ys : List V}, H D = some (.lst ys) → But D H H' → R D H v x → R D H' v x) (hz : z.toNat = n) (few : n ≤ 10000) (hσ : ∀ v, wipe ((wipe σ [j]).set j (some v)) [j] = wipe σ [j])
    (stE : ∀ (i : Nat) (D : Addr) (H' : Hp), i < n → Same H H' → (∃ vs, H' D = some (.lst vs)) → ∀ S : VK, (∀ (u : V) (H4 : Hp), Same H' H4 → R D H4 u i → S u H4) → te ((wipe σ [j]).set j (some (.int (0 + (i : Int))))) H' S)
    (fin : ∀ (D : Addr) (vs : List V) (H' : Hp), Same H H' → H D = none → H' D = some (.lst vs) → Paired (R D H') vs (List.range n) → Q (.ref D) H') : ∀ D, H D = none → ∃ W : Nat → Nat → Hp → Prop, (∃ m, W 0 m (upd H D (.lst []))) ∧ ∀ i m H, W i m H →
      ((Itr 0 z.toNat).stop i H ∧ Q (.ref D) H) ∨ ((Itr 0 z.toNat).go i H ∧ ∃ Nx : Hp → Prop, (∀ H', Nx H' → ∃ m', m' < m ∧ W (i + 1) m' H') ∧ ∀ x H', (Itr 0 z.toNat).yld i H x H' → gName j x (wipe σ [j]) H' fun σ2 H2 => wipe σ2 [j] = wipe σ [j] ∧ tYes σ2 H2 fun b H3 =>
        if b = true then te σ2 H3 fun y H4 => ∃ acc, H4 D = some (.lst acc) ∧ acc.length < sizeLine ∧ Nx (upd H4 D (.lst (acc ++ [y]))) else Nx H3) := by
  rw [hz]
  exact lc_mkN R monoR few hσ stE fin
theorem lc_rngA {ta : TA} {j n : Nat} {z : Int} {te : TE} {σ : St} {Q : VK} {H : Hp} (R : Addr → Hp → V → Nat → Prop) (monoR : ∀ {D : Addr} {H H' : Hp} {v : V} {x : Nat} {ys : List V}, H D = some (.lst ys) → But D H H' → R D H v x → R D H' v x) (hz : z.toNat = n) (b1 : -(2 ^ 62) ≤ z) (b2 : z < 2 ^ 62) (hta : ∀ S : List V → Hp → Prop, S [.int z] H → ta σ H S) (few : n ≤ 10000) (hσ : ∀ v, wipe ((wipe σ [j]).set j (some v)) [j] = wipe σ [j])
    (stE : ∀ (i : Nat) (D : Addr) (H' : Hp), i < n → Same H H' → (∃ vs, H' D = some (.lst vs)) → ∀ S : VK, (∀ (u : V) (H4 : Hp), Same H' H4 → R D H4 u i → S u H4) → te ((wipe σ [j]).set j (some (.int (0 + (i : Int))))) H' S)
    (fin : ∀ (D : Addr) (vs : List V) (H' : Hp), Same H H' → H D = none → H' D = some (.lst vs) → Paired (R D H') vs (List.range n) → Q (.ref D) H') : tLc (iRng1 ta) (gName j) tYes te [j] σ H Q :=
  r_lcRQ (hta _ ⟨z, rfl, b1, b2, lc_mkZ R monoR hz few hσ stE fin⟩)
theorem On31.fig {x : Str} {on : List Tell} (h : On31 x on) : ∀ t ∈ on, figT t := by
  intro t ht
  have fp : ∀ {x y : Rat}, figT (.pt x y) := .inl rfl
  have fl : ∀ {x y z : Int}, figT (.ln x y z) := .inr (.inl rfl)
  have fc : ∀ {x y z : Rat}, figT (.ci x y z) := .inr (.inr rfl)
  cases h with
  | free => cases ht
  | pp _ _ _ _ => simp only [List.mem_cons, List.not_mem_nil, or_false] at ht; rcases ht with rfl | rfl <;> exact fp
  | pl _ _ _ _ => simp only [List.mem_cons, List.not_mem_nil, or_false] at ht; rcases ht with rfl | rfl <;> first | exact fp | exact fl
  | ll _ _ _ _ => simp only [List.mem_cons, List.not_mem_nil, or_false] at ht; rcases ht with rfl | rfl <;> exact fl
  | cut h =>
    simp only [List.mem_cons, List.not_mem_nil, or_false] at ht
    cases h <;> rcases ht with rfl | rfl <;> first | exact fl | exact fc
  | p3 _ _ _ _ => simp only [List.mem_cons, List.not_mem_nil, or_false] at ht; rcases ht with rfl | rfl | rfl <;> exact fp
  | p4 _ _ _ _ _ _ _ _ _ _ => simp only [List.mem_cons, List.not_mem_nil, or_false] at ht; rcases ht with rfl | rfl | rfl | rfl <;> exact fp
theorem r_slTell {K : PySem.W.Frag} {H : Hp} {Q : VK} {v : V} {t : Tell} (h : Tq K H v t) (f : figT t) (k : ∀ (p : Addr) (H' : Hp), Same H H' → Pt K H' (.ref p) t → Q (.ref p) H') : rSlT K v (some 1) none H Q := by
  cases t with
  | pt a b =>
    obtain ⟨aa, u1, u2, rfl, ta, q1, q2⟩ := h
    refine ⟨aa, _, rfl, ta, cut_part, fun p hp => ?_⟩
    rw [cut_tail]
    have gg := same_new hp (.tup [u1, u2])
    exact k _ _ gg ⟨p, u1, u2, rfl, tupOf upd_same, q1.up gg, q2.up gg⟩
  | ln a b e =>
    obtain ⟨aa, rfl, ta⟩ := h
    refine ⟨aa, _, rfl, ta, cut_part, fun p hp => ?_⟩
    rw [cut_tail]
    have gg := same_new hp (.tup [.int a, .int b, .int e])
    exact k _ _ gg ⟨p, rfl, tupOf upd_same⟩
  | ci a b e =>
    obtain ⟨aa, u1, u2, u3, rfl, ta, q1, q2, q3⟩ := h
    refine ⟨aa, _, rfl, ta, cut_part, fun p hp => ?_⟩
    rw [cut_tail]
    have gg := same_new hp (.tup [u1, u2, u3])
    exact k _ _ gg ⟨p, u1, u2, u3, rfl, tupOf upd_same, q1.up gg, q2.up gg, q3.up gg⟩
  | kept => exact (not_fig f).elim
  | broken => exact (not_fig f).elim
  | gone n w' => exact (not_fig f).elim
theorem paired_strs : ∀ (l : List Str), Paired (fun (v : V) z => v = .str z) (l.map V.str) l
  | [] => .nil
  | _ :: r => .cons rfl (paired_strs r)
/-- the row of a determinant that a place gives -/
def rowIn : Tell → List Rat
  | .pt x y => [x, y, 1]
  | _ => []
def rowRd : Tell → List Rat
  | .pt x y => [x * x + y * y, x, y, 1]
  | _ => []
def sqT : Tell → Rat
  | .pt x y => x * x + y * y
  | _ => 0
theorem rowH_in {n : Nat} {x y : Rat} (h : Jh n x y) : ∃ D, RowH D n [x, y, 1] := by
  obtain ⟨X, Y, D, d0, eX, eY, s1, s2, s3⟩ := h
  refine ⟨D, d0, s3, fun q hq => ?_⟩
  simp only [List.mem_cons, List.not_mem_nil, or_false] at hq
  rcases hq with rfl | rfl | rfl
  · exact ⟨X, eX, s1⟩
  · exact ⟨Y, eY, s2⟩
  · exact ⟨D, by rw [Rat.one_mul], s3⟩
theorem rowH_rd {n : Nat} {x y : Rat} (h : Jh n x y) : ∃ D, RowH D (2 * n + 1) [x * x + y * y, x, y, 1] := by
  obtain ⟨X, Y, D, d0, eX, eY, s1, s2, s3⟩ := h
  refine ⟨D * D, Int.mul_ne_zero d0 d0, (s3.mul s3).mono (by omega), fun q hq => ?_⟩
  simp only [List.mem_cons, List.not_mem_nil, or_false] at hq
  rcases hq with rfl | rfl | rfl | rfl
  · exact ⟨X * X + Y * Y, by simp only [Rat.intCast_add, Rat.intCast_mul]; rw [eX, eY]; grind, (Sm.addm (Sm.mul s1 s1) (Sm.mul s2 s2)).mono (by omega)⟩
  · exact ⟨X * D, by simp only [Rat.intCast_mul]; rw [eX]; grind, (Sm.mul s1 s3).mono (by omega)⟩
  · exact ⟨Y * D, by simp only [Rat.intCast_mul]; rw [eY]; grind, (Sm.mul s2 s3).mono (by omega)⟩
  · exact ⟨D * D, by rw [Rat.one_mul], (Sm.mul s3 s3).mono (by omega)⟩
end Mb
namespace Mb
open PySem L2
/-! ### k31: == of places told, parts of tellings, roots of rationals -/
theorem r_eqTpt {K : PySem.W.Frag} {H : Hp} {Q : VK} {v w : V} {x y x' y' : Rat} (h1 : Tq K H v (.pt x y)) (h2 : Tq K H w (.pt x' y')) (k : Q (.bl (decide (x = x' ∧ y = y'))) H) : rEqD K v w H Q := by
  refine ⟨_, _, h1.dp, h2.dp, (dT_ok (t := .pt x y) trivial).1, (dT_ok (t := .pt x' y') trivial).1, ?_⟩
  have e : PyData.eqv (dT (.pt x y)) (dT (.pt x' y')) = decide (x = x' ∧ y = y') := by
    have e2 : PyData.eqv (dT (.pt x y)) (dT (.pt x' y')) = PyData.eqv (dpl x y) (dpl x' y') := by
      simp [dT, dpl, dq, PyData.eqv, PyData.eqvAll]
    rw [e2, eqv_dpl]
  rw [e]
  exact k
theorem cut_mid {x f g : V} {r : List V} : cutV (x :: f :: g :: r) (some 1) (some 3) = [f, g] := by
  unfold cutV
  have e1 : HT.sIx (x :: f :: g :: r).length 0 (some 1) = 1 := by
    have := HT.sIx_nat (x :: f :: g :: r).length 0 1
    rw [show (some (1 : Int)) = some (((1 : Nat) : Int)) from rfl, this]
    simp only [List.length_cons]
    omega
  have e3 : HT.sIx (x :: f :: g :: r).length (x :: f :: g :: r).length (some 3) = 3 := by
    have := HT.sIx_nat (x :: f :: g :: r).length (x :: f :: g :: r).length 3
    rw [show (some (3 : Int)) = some (((3 : Nat) : Int)) from rfl, this]
    simp only [List.length_cons]
    omega
  rw [e1, e3]
  rfl
theorem r_slMid {K : PySem.W.Frag} {H : Hp} {Q : VK} {a : Addr} {x f g : V} {r : List V} (h : SqT K H a (x :: f :: g :: r)) (k : ∀ (p : Addr) (H' : Hp), Same H H' → SqT K H' p [f, g] → Q (.ref p) H') : rSlT K (.ref a) (some 1) (some 3) H Q := by
  refine ⟨a, _, rfl, h, cut_part, fun p hp => ?_⟩
  rw [cut_mid]
  exact k _ _ (same_new hp _) (tupOf upd_same)
theorem rat_sq {q : Rat} : (∃ r : Rat, r * r = q) ↔ (Sq q.num ∧ Sq (q.den : Int)) := by
  constructor
  · rintro ⟨r, e⟩
    obtain ⟨h1, h2⟩ := sq_parts e
    refine ⟨⟨r.num.natAbs, by omega, ?_⟩, ⟨r.den, by omega, h2.symm⟩⟩
    rw [h1]
    have := Int.natAbs_mul_self' r.num
    exact this
  · rintro ⟨⟨a, a0, ha⟩, ⟨b, b0, hb⟩⟩
    have nb : b ≠ 0 := fun z => by have := q.den_nz; rw [z] at hb; omega
    refine ⟨(a : Rat) / b, ?_⟩
    have r0 := ratz nb
    have e1 : q = (q.num : Rat) / (q.den : Int) := by rw [← Rat.divInt_eq_div, Rat.num_divInt_den]
    rw [e1, ← ha, ← hb]
    simp only [Rat.intCast_mul]
    have k := Rat.div_mul_cancel (a := (a : Rat)) r0
    generalize (a : Rat) / b = c at *
    have nz2 : (b : Rat) * b ≠ 0 := fun z => by rcases Rat.mul_eq_zero.mp z with z | z <;> contradiction
    have k2 := Rat.div_mul_cancel (a := (a : Rat) * a) nz2
    generalize (a : Rat) * a / (b * b) = e at *
    have : (c * c - e) * ((b : Rat) * b) = 0 := by grind
    rcases Rat.mul_eq_zero.mp this with z | z
    · grind
    · contradiction
theorem isq2 {n g : Int} (g0 : 0 ≤ g) (hg : g * g ≤ n) (mx : ∀ k, 0 ≤ k → k * k ≤ n → k ≤ g) : decide (g ^ (2 : Int).toNat = n) = true ↔ Sq n := by
  rw [decide_eq_true_iff, show g ^ (2 : Int).toNat = g * g from by show g ^ 2 = g * g; grind]
  exact isq_iff g0 hg mx
end Mb
namespace Mb
open PySem L2
theorem tel_fig {ord : Str → Int} {z x : Str} {d : Tail} {on : List Tell} {t : Tell} (g : noGone on) (h1 : x ≠ "cut") (h2 : x ∉ claimW) (nt : tagOf t ≠ "gone") (h : TelR ord z x d on t) : Fg x d on (some t) := by
  cases h with
  | gone h h' => exact (noGone_not g h).elim
  | cut _ e _ _ _ => exact absurd e h1
  | claim _ e _ => exact absurd e h2
  | fig _ k => exact k
  | fig0 _ k => exact absurd rfl nt
theorem tel_claim {ord : Str → Int} {z x : Str} {d : Tail} {on : List Tell} {t : Tell} (g : noGone on) (h2 : x ∈ claimW) (h : TelR ord z x d on t) : ∃ b, Hd x on b ∧ t = if b = true then .kept else .broken := by
  cases h with
  | gone h h' => exact (noGone_not g h).elim
  | cut _ e _ _ _ => exact absurd e (cut_not_claim h2)
  | @claim b _ e k => exact ⟨b, k, rfl⟩
  | fig _ k => exact absurd h2 (fg_not k).2
  | fig0 _ k => exact absurd h2 (fg_not k).2
theorem r_eqTell {K : PySem.W.Frag} {H : Hp} {Q : VK} {v w : V} {t : Tell} (h1 : Tq K H v t) (h2 : Tq K H w t) (ok : okT t) (k : Q (.bl true) H) : rEqD K v w H Q := r_eqTrue h1.dp h2.dp (dT_ok ok).1 (dT_ok ok).2 k
theorem Rwq.rwsT {K : PySem.W.Frag} {H : Hp} : ∀ {us : List V} {ts : List Thq}, Rwq K H us ts → Rws K H us (ts.map thOf)
  | _, _, .nil => .nil
  | _, _, .cons h r => .cons h.th (Rwq.rwsT r)
end Mb
namespace Mb
open PySem L2
theorem at31 : ∀ i : Nat, i < 17 → atI ("qdzamxkbwcyplh" : Str).cps.toList ((i : Int) % 14) = some (let34 i) := by decide +kernel
theorem num31 : ∀ i : Nat, i < 17 → (i : Int).natAbs.log2 < 1920 ∧ (⟨#[let34 i]⟩ : Str).length + (Str.ofString (toString (i : Int))).length ≤ 4 := by decide +kernel
theorem nm31_ok' : ∀ i : Nat, i < 17 → ((nm34 i).length ≤ 12 ∧ gdL (nm34 i).cps.toList = true) ∧ PyData.strOk (nm34 i) = true := by decide +kernel
theorem nm31_ok (i : Nat) (h : i < 17) : Sok (nm34 i) := nm31_ok' i h
theorem nm31_ne : ∀ i : Nat, i < 17 → ∀ j : Nat, j < i → nm34 j ≠ nm34 i := by decide +kernel
theorem nm31_new {i : Nat} (h : i < 17) : nm34 i ∉ (List.range i).map nm34 := fun m => by
  obtain ⟨j, hj, e⟩ := List.mem_map.mp m
  exact nm31_ne i h j (List.mem_range.mp hj) e
def spRow31 (K : PySem.W.Frag) : Sp := fun vs H Q _ => ∃ (a : Addr) (xs : List Int) (n : Nat), vs = [.ref a, .int (n : Int)] ∧ SqL K H a (xs.map V.int) ∧ xs.length ≤ 63 ∧ n ≤ 17 ∧
  ∀ (l : Addr) (us : List V) (ts : List Thq) (H' : Hp), Same H H' → H l = none → H' l = some (.lst us) → Rwq K H' us ts → Gr [] ts → ts.length = n → Q (.ref l) H'
end Mb
namespace Mb
open PySem L2
theorem paired_of_get {α β : Type} {F : α → β → Prop} : ∀ {l : List α} {m : List β}, l.length = m.length → (∀ (i : Nat) a b, l[i]? = some a → m[i]? = some b → F a b) → Paired F l m
  | [], [], _, _ => .nil
  | [], _ :: _, h, _ => by cases h
  | _ :: _, [], h, _ => by cases h
  | a :: l, b :: m, h, f => .cons (f 0 a b rfl rfl) (paired_of_get (by simpa using h) fun i x y hx hy => f (i + 1) x y hx hy)
end Mb
namespace Mb
open PySem L2
def top (i : Nat) : Stmt := PySem.Challenge.pw_movebook_k31_whole_tellings.main.body.getD i (.Pass ⟨0, 0, 0, 0⟩)
abbrev s_common_divisor : Stmt := top 10
theorem sc_common_divisor : FnScope ["one", "other"] ["one", "other"] (defScope s_common_divisor) := ⟨rfl, rfl, rfl, by decide +kernel, rfl, by decide +kernel, by decide +kernel⟩
abbrev s_whole_root : Stmt := top 11
theorem sc_whole_root : FnScope ["number", "guess"] ["number"] (defScope s_whole_root) := ⟨rfl, rfl, rfl, by decide +kernel, rfl, by decide +kernel, by decide +kernel⟩
abbrev s_fraction : Stmt := top 13
theorem sc_fraction : FnScope ["top", "bottom", "divisor"] ["top", "bottom"] (defScope s_fraction) := ⟨rfl, rfl, rfl, by decide +kernel, rfl, by decide +kernel, by decide +kernel⟩
abbrev s_plus : Stmt := top 14
theorem sc_plus : FnScope ["one", "other"] ["one", "other"] (defScope s_plus) := ⟨rfl, rfl, rfl, by decide +kernel, rfl, by decide +kernel, by decide +kernel⟩
abbrev s_minus : Stmt := top 15
theorem sc_minus : FnScope ["one", "other"] ["one", "other"] (defScope s_minus) := ⟨rfl, rfl, rfl, by decide +kernel, rfl, by decide +kernel, by decide +kernel⟩
abbrev s_root : Stmt := top 16
theorem sc_root : FnScope ["one", "top", "bottom"] ["one"] (defScope s_root) := ⟨rfl, rfl, rfl, by decide +kernel, rfl, by decide +kernel, by decide +kernel⟩
abbrev s_middle : Stmt := top 18
theorem sc_middle : FnScope ["p", "q"] ["p", "q"] (defScope s_middle) := ⟨rfl, rfl, rfl, by decide +kernel, rfl, by decide +kernel, by decide +kernel⟩
abbrev s_share : Stmt := top 19
theorem sc_share : FnScope ["p", "q", "t"] ["p", "q", "t"] (defScope s_share) := ⟨rfl, rfl, rfl, by decide +kernel, rfl, by decide +kernel, by decide +kernel⟩
abbrev s_beyond : Stmt := top 20
theorem sc_beyond : FnScope ["p", "q"] ["p", "q"] (defScope s_beyond) := ⟨rfl, rfl, rfl, by decide +kernel, rfl, by decide +kernel, by decide +kernel⟩
abbrev s_turned : Stmt := top 21
theorem sc_turned : FnScope ["p", "q", "right", "up"] ["p", "q"] (defScope s_turned) := ⟨rfl, rfl, rfl, by decide +kernel, rfl, by decide +kernel, by decide +kernel⟩
abbrev s_between : Stmt := top 22
theorem sc_between : FnScope ["start", "end", "t", "first", "last"] ["start", "end", "t"] (defScope s_between) := ⟨rfl, rfl, rfl, by decide +kernel, rfl, by decide +kernel, by decide +kernel⟩
abbrev s_cleared : Stmt := top 23
theorem sc_cleared : FnScope ["p", "x", "x_bottom", "y", "y_bottom", "divisor"] ["p"] (defScope s_cleared) := ⟨rfl, rfl, rfl, by decide +kernel, rfl, by decide +kernel, by decide +kernel⟩
abbrev s_way : Stmt := top 24
theorem sc_way : FnScope ["p", "q", "x", "y", "w", "to_x", "to_y", "to_w"] ["p", "q"] (defScope s_way) := ⟨rfl, rfl, rfl, by decide +kernel, rfl, by decide +kernel, by decide +kernel⟩
abbrev s_through : Stmt := top 26
theorem sc_through : FnScope ["p", "q", "x", "y", "w", "to_x", "to_y", "to_w"] ["p", "q"] (defScope s_through) := ⟨rfl, rfl, rfl, by decide +kernel, rfl, by decide +kernel, by decide +kernel⟩
abbrev s_along : Stmt := top 27
theorem sc_along : FnScope ["p", "line"] ["p", "line"] (defScope s_along) := ⟨rfl, rfl, rfl, by decide +kernel, rfl, by decide +kernel, by decide +kernel⟩
abbrev s_upright : Stmt := top 28
theorem sc_upright : FnScope ["p", "line"] ["p", "line"] (defScope s_upright) := ⟨rfl, rfl, rfl, by decide +kernel, rfl, by decide +kernel, by decide +kernel⟩
abbrev s_meet : Stmt := top 29
theorem sc_meet : FnScope ["line", "other", "a", "b", "c", "other_a", "other_b", "other_c", "apart"] ["line", "other"] (defScope s_meet) := ⟨rfl, rfl, rfl, by decide +kernel, rfl, by decide +kernel, by decide +kernel⟩
abbrev s_foot : Stmt := top 30
theorem sc_foot : FnScope ["p", "line"] ["p", "line"] (defScope s_foot) := ⟨rfl, rfl, rfl, by decide +kernel, rfl, by decide +kernel, by decide +kernel⟩
abbrev s_mirror : Stmt := top 31
theorem sc_mirror : FnScope ["p", "line"] ["p", "line"] (defScope s_mirror) := ⟨rfl, rfl, rfl, by decide +kernel, rfl, by decide +kernel, by decide +kernel⟩
abbrev s_line_at : Stmt := top 32
theorem sc_line_at : FnScope ["p", "a", "b", "x", "y", "w"] ["p", "a", "b"] (defScope s_line_at) := ⟨rfl, rfl, rfl, by decide +kernel, rfl, by decide +kernel, by decide +kernel⟩
abbrev s_one_form : Stmt := top 33
theorem sc_one_form : FnScope ["a", "b", "c", "divisor"] ["a", "b", "c"] (defScope s_one_form) := ⟨rfl, rfl, rfl, by decide +kernel, rfl, by decide +kernel, by decide +kernel⟩
abbrev s_about : Stmt := top 35
theorem sc_about : FnScope ["p", "q", "x", "y", "w"] ["p", "q"] (defScope s_about) := ⟨rfl, rfl, rfl, by decide +kernel, rfl, by decide +kernel, by decide +kernel⟩
abbrev s_line_cuts : Stmt := top 36
theorem sc_line_cuts : FnScope ["line", "ring", "a", "b", "c", "x", "y", "w", "top", "bottom", "short", "spare", "reach", "onward", "backward"] ["line", "ring"] (defScope s_line_cuts) := ⟨rfl, rfl, rfl, by decide +kernel, rfl, by decide +kernel, by decide +kernel⟩
abbrev s_ring_cuts : Stmt := top 37
theorem sc_ring_cuts : FnScope ["ring", "other"] ["ring", "other"] (defScope s_ring_cuts) := ⟨rfl, rfl, rfl, by decide +kernel, rfl, by decide +kernel, by decide +kernel⟩
abbrev s_reached : Stmt := top 38
theorem sc_reached : FnScope ["line", "centre", "short", "reach", "a", "b", "c", "x", "y", "w", "n", "top", "bottom", "right", "up"] ["line", "centre", "short", "reach"] (defScope s_reached) := ⟨rfl, rfl, rfl, by decide +kernel, rfl, by decide +kernel, by decide +kernel⟩
abbrev s_common_line : Stmt := top 39
theorem sc_common_line : FnScope ["ring", "other", "m", "g", "h", "k", "other_m", "other_g", "other_h", "other_k"] ["ring", "other"] (defScope s_common_line) := ⟨rfl, rfl, rfl, by decide +kernel, rfl, by decide +kernel, by decide +kernel⟩
abbrev s_equation : Stmt := top 40
theorem sc_equation : FnScope ["ring", "x", "y", "w", "top", "bottom"] ["ring"] (defScope s_equation) := ⟨rfl, rfl, rfl, by decide +kernel, rfl, by decide +kernel, by decide +kernel⟩
abbrev s_in_line : Stmt := top 42
theorem sc_in_line : FnScope ["p", "q", "r", "x", "y", "w", "other_x", "other_y", "other_w"] ["p", "q", "r"] (defScope s_in_line) := ⟨rfl, rfl, rfl, by decide +kernel, rfl, by decide +kernel, by decide +kernel⟩
abbrev s_side_by_side : Stmt := top 43
theorem sc_side_by_side : FnScope ["line", "other"] ["line", "other"] (defScope s_side_by_side) := ⟨rfl, rfl, rfl, by decide +kernel, rfl, by decide +kernel, by decide +kernel⟩
abbrev s_square_on : Stmt := top 44
theorem sc_square_on : FnScope ["line", "other"] ["line", "other"] (defScope s_square_on) := ⟨rfl, rfl, rfl, by decide +kernel, rfl, by decide +kernel, by decide +kernel⟩
abbrev s_all_round : Stmt := top 45
theorem sc_all_round : FnScope ["p", "q", "r", "s", "x", "y", "far", "second_x", "second_y", "second_far", "third_x", "third_y", "third_far", "first", "second", "third"] ["p", "q", "r", "s"] (defScope s_all_round) := ⟨rfl, rfl, rfl, by decide +kernel, rfl, by decide +kernel, by decide +kernel⟩
abbrev s_as_far : Stmt := top 46
theorem sc_as_far : FnScope ["p", "q", "r", "s", "x", "y", "w", "other_x", "other_y", "other_w"] ["p", "q", "r", "s"] (defScope s_as_far) := ⟨rfl, rfl, rfl, by decide +kernel, rfl, by decide +kernel, by decide +kernel⟩
abbrev s_lifted : Stmt := top 47
theorem sc_lifted : FnScope ["p", "q", "x", "y", "w"] ["p", "q"] (defScope s_lifted) := ⟨rfl, rfl, rfl, by decide +kernel, rfl, by decide +kernel, by decide +kernel⟩
abbrev s_sort_of : Stmt := top 52
theorem sc_sort_of : FnScope ["making"] ["making"] (defScope s_sort_of) := ⟨rfl, rfl, rfl, by decide +kernel, rfl, by decide +kernel, by decide +kernel⟩
abbrev s_wanted : Stmt := top 53
theorem sc_wanted : FnScope ["making"] ["making"] (defScope s_wanted) := ⟨rfl, rfl, rfl, by decide +kernel, rfl, by decide +kernel, by decide +kernel⟩
abbrev s_grounds : Stmt := top 54
theorem sc_grounds : FnScope ["making"] ["making"] (defScope s_grounds) := ⟨rfl, rfl, rfl, by decide +kernel, rfl, by decide +kernel, by decide +kernel⟩
abbrev s_fits : Stmt := top 55
theorem sc_fits : FnScope ["sort", "due"] ["sort", "due"] (defScope s_fits) := ⟨rfl, rfl, rfl, by decide +kernel, rfl, by decide +kernel, by decide +kernel⟩
abbrev s_near : Stmt := top 56
theorem sc_near : FnScope ["making"] ["making"] (defScope s_near) := ⟨rfl, rfl, rfl, by decide +kernel, rfl, by decide +kernel, by decide +kernel⟩
abbrev s_below : Stmt := top 57
theorem sc_below : FnScope ["one", "bound"] ["one", "bound"] (defScope s_below) := ⟨rfl, rfl, rfl, by decide +kernel, rfl, by decide +kernel, by decide +kernel⟩
abbrev s_good : Stmt := top 62
theorem sc_good : FnScope ["name", "sign"] ["name"] (defScope s_good) := ⟨rfl, rfl, rfl, by decide +kernel, rfl, by decide +kernel, by decide +kernel⟩
abbrev s_weight : Stmt := top 65
theorem sc_weight : FnScope ["making", "sorts", "weighed", "word", "names", "loads", "name"] ["making", "sorts", "weighed"] (defScope s_weight) := ⟨rfl, rfl, rfl, by decide +kernel, rfl, by decide +kernel, by decide +kernel⟩
abbrev s_enter : Stmt := top 66
theorem sc_enter : FnScope ["name", "making", "sorts", "weighed"] ["name", "making", "sorts", "weighed"] (defScope s_enter) := ⟨rfl, rfl, rfl, by decide +kernel, rfl, by decide +kernel, by decide +kernel⟩
abbrev s_check_row : Stmt := top 67
theorem sc_check_row : FnScope ["row", "sorts", "weighed", "name", "making"] ["row"] (defScope s_check_row) := ⟨rfl, rfl, rfl, by decide +kernel, rfl, by decide +kernel, by decide +kernel⟩
abbrev s_check_next : Stmt := top 68
theorem sc_check_next : FnScope ["name", "making", "sorts", "weighed"] ["name", "making", "sorts", "weighed"] (defScope s_check_next) := ⟨rfl, rfl, rfl, by decide +kernel, rfl, by decide +kernel, by decide +kernel⟩
abbrev s_check_grounds : Stmt := top 69
theorem sc_check_grounds : FnScope ["making", "sorts", "names", "ground", "due"] ["making", "sorts"] (defScope s_check_grounds) := ⟨rfl, rfl, rfl, by decide +kernel, rfl, by decide +kernel, by decide +kernel⟩
abbrev s_anew : Stmt := top 73
theorem sc_anew : FnScope ["row", "told", "order", "name", "making"] ["row"] (defScope s_anew) := ⟨rfl, rfl, rfl, by decide +kernel, rfl, by decide +kernel, by decide +kernel⟩
abbrev s_telling : Stmt := top 74
theorem sc_telling : FnScope ["name", "making", "told", "order", "on", "ground", "gone", "one", "parts", "made"] ["name", "making", "told", "order"] (defScope s_telling) := ⟨rfl, rfl, rfl, by decide +kernel, rfl, by decide +kernel, by decide +kernel⟩
abbrev s_cut : Stmt := top 75
theorem sc_cut : FnScope ["name", "number", "curve", "ring", "word", "places"] ["name", "number", "curve", "ring"] (defScope s_cut) := ⟨rfl, rfl, rfl, by decide +kernel, rfl, by decide +kernel, by decide +kernel⟩
abbrev s_figure : Stmt := top 76
theorem sc_figure : FnScope ["making", "parts", "one", "other"] ["making", "parts"] (defScope s_figure) := ⟨rfl, rfl, rfl, by decide +kernel, rfl, by decide +kernel, by decide +kernel⟩
abbrev s_holds : Stmt := top 77
theorem sc_holds : FnScope ["word", "parts"] ["word", "parts"] (defScope s_holds) := ⟨rfl, rfl, rfl, by decide +kernel, rfl, by decide +kernel, by decide +kernel⟩
abbrev s_pool : Stmt := top 79
theorem sc_pool : FnScope ["_law_script", "_law_at", "_law_cell", "_law_digits"] ["_law_script", "_law_at"] (defScope s_pool) := ⟨rfl, rfl, rfl, by decide +kernel, rfl, by decide +kernel, by decide +kernel⟩
abbrev s_take : Stmt := top 80
theorem sc_take : FnScope ["_law_pool_here", "_law_wide", "_law_found", "_law_seed"] ["_law_pool_here", "_law_wide"] (defScope s_take) := ⟨rfl, rfl, rfl, by decide +kernel, rfl, by decide +kernel, by decide +kernel⟩
abbrev s_gcd : Stmt := top 81
theorem sc_gcd : FnScope ["_law_one", "_law_other"] ["_law_one", "_law_other"] (defScope s_gcd) := ⟨rfl, rfl, rfl, by decide +kernel, rfl, by decide +kernel, by decide +kernel⟩
abbrev s_low : Stmt := top 82
theorem sc_low : FnScope ["_law_top", "_law_bottom", "_law_most"] ["_law_top", "_law_bottom"] (defScope s_low) := ⟨rfl, rfl, rfl, by decide +kernel, rfl, by decide +kernel, by decide +kernel⟩
abbrev s_l_plus : Stmt := top 83
theorem sc_l_plus : FnScope ["_law_one", "_law_other"] ["_law_one", "_law_other"] (defScope s_l_plus) := ⟨rfl, rfl, rfl, by decide +kernel, rfl, by decide +kernel, by decide +kernel⟩
abbrev s_l_less : Stmt := top 84
theorem sc_l_less : FnScope ["_law_one", "_law_other"] ["_law_one", "_law_other"] (defScope s_l_less) := ⟨rfl, rfl, rfl, by decide +kernel, rfl, by decide +kernel, by decide +kernel⟩
abbrev s_l_times : Stmt := top 85
theorem sc_l_times : FnScope ["_law_one", "_law_other"] ["_law_one", "_law_other"] (defScope s_l_times) := ⟨rfl, rfl, rfl, by decide +kernel, rfl, by decide +kernel, by decide +kernel⟩
abbrev s_even : Stmt := top 86
theorem sc_even : FnScope ["_law_one", "_law_other"] ["_law_one", "_law_other"] (defScope s_even) := ⟨rfl, rfl, rfl, by decide +kernel, rfl, by decide +kernel, by decide +kernel⟩
abbrev s_whole : Stmt := top 87
theorem sc_whole : FnScope ["_law_found"] ["_law_found"] (defScope s_whole) := ⟨rfl, rfl, rfl, by decide +kernel, rfl, by decide +kernel, by decide +kernel⟩
abbrev s_is_frac : Stmt := top 88
theorem sc_is_frac : FnScope ["_law_found"] ["_law_found"] (defScope s_is_frac) := ⟨rfl, rfl, rfl, by decide +kernel, rfl, by decide +kernel, by decide +kernel⟩
abbrev s_is_place : Stmt := top 89
theorem sc_is_place : FnScope ["_law_found"] ["_law_found"] (defScope s_is_place) := ⟨rfl, rfl, rfl, by decide +kernel, rfl, by decide +kernel, by decide +kernel⟩
abbrev s_is_line : Stmt := top 90
theorem sc_is_line : FnScope ["_law_found", "_law_part"] ["_law_found"] (defScope s_is_line) := ⟨rfl, rfl, rfl, by decide +kernel, rfl, by decide +kernel, by decide +kernel⟩
abbrev s_frac : Stmt := top 91
theorem sc_frac : FnScope ["_law_pool_here", "_law_way", "_law_edge", "_law_top", "_law_bottom"] ["_law_pool_here"] (defScope s_frac) := ⟨rfl, rfl, rfl, by decide +kernel, rfl, by decide +kernel, by decide +kernel⟩
abbrev s_place : Stmt := top 92
theorem sc_place : FnScope ["_law_pool_here", "_law_x"] ["_law_pool_here"] (defScope s_place) := ⟨rfl, rfl, rfl, by decide +kernel, rfl, by decide +kernel, by decide +kernel⟩
abbrev s_l_grounds : Stmt := top 93
theorem sc_l_grounds : FnScope ["_law_making_here"] ["_law_making_here"] (defScope s_l_grounds) := ⟨rfl, rfl, rfl, by decide +kernel, rfl, by decide +kernel, by decide +kernel⟩
abbrev s_sort : Stmt := top 94
theorem sc_sort : FnScope ["_law_making_here"] ["_law_making_here"] (defScope s_sort) := ⟨rfl, rfl, rfl, by decide +kernel, rfl, by decide +kernel, by decide +kernel⟩
abbrev s_l_weight : Stmt := top 95
theorem sc_l_weight : FnScope ["_law_making_here", "_law_sorts", "_law_heavy", "_law_each", "_law_name"] ["_law_making_here", "_law_sorts", "_law_heavy"] (defScope s_l_weight) := ⟨rfl, rfl, rfl, by decide +kernel, rfl, by decide +kernel, by decide +kernel⟩
abbrev s_making : Stmt := top 96
theorem sc_making : FnScope ["_law_pool_here", "_law_by", "_law_points", "_law_lines", "_law_rings", "_law_way", "_law_p", "_law_q", "_law_line", "_law_ring", "_law_r", "_law_word"] ["_law_pool_here", "_law_by"] (defScope s_making) := ⟨rfl, rfl, rfl, by decide +kernel, rfl, by decide +kernel, by decide +kernel⟩
abbrev s_l_near : Stmt := top 97
theorem sc_l_near : FnScope ["_law_one", "_law_other", "_law_x", "_law_y"] ["_law_one", "_law_other"] (defScope s_l_near) := ⟨rfl, rfl, rfl, by decide +kernel, rfl, by decide +kernel, by decide +kernel⟩
abbrev s_off : Stmt := top 98
theorem sc_off : FnScope ["_law_place_here", "_law_line", "_law_x", "_law_y"] ["_law_place_here", "_law_line"] (defScope s_off) := ⟨rfl, rfl, rfl, by decide +kernel, rfl, by decide +kernel, by decide +kernel⟩
abbrev s_det : Stmt := top 99
theorem sc_det : FnScope ["_law_rows", "_law_found", "_law_k", "_law_rest", "_law_row", "_law_part"] ["_law_rows"] (defScope s_det) := ⟨rfl, rfl, rfl, by decide +kernel, rfl, by decide +kernel, by decide +kernel⟩
abbrev s_so : Stmt := top 100
theorem sc_so : FnScope ["_law_making_here", "_law_at", "_law_g", "_law_name", "_law_p", "_law_square", "_law_k"] ["_law_making_here", "_law_at"] (defScope s_so) := ⟨rfl, rfl, rfl, by decide +kernel, rfl, by decide +kernel, by decide +kernel⟩
abbrev s_l_root : Stmt := top 101
theorem sc_l_root : FnScope ["_law_number", "_law_low_here", "_law_high", "_law_amid"] ["_law_number"] (defScope s_l_root) := ⟨rfl, rfl, rfl, by decide +kernel, rfl, by decide +kernel, by decide +kernel⟩
abbrev s_chord : Stmt := top 102
theorem sc_chord : FnScope ["_law_u", "_law_ring", "_law_part", "_law_x", "_law_y", "_law_d", "_law_e", "_law_c"] ["_law_u", "_law_ring"] (defScope s_chord) := ⟨rfl, rfl, rfl, by decide +kernel, rfl, by decide +kernel, by decide +kernel⟩
abbrev s_parts : Stmt := top 103
theorem sc_parts : FnScope ["_law_u", "_law_ring", "_law_a", "_law_b", "_law_c", "_law_e", "_law_n"] ["_law_u", "_law_ring"] (defScope s_parts) := ⟨rfl, rfl, rfl, by decide +kernel, rfl, by decide +kernel, by decide +kernel⟩
abbrev s_fail : Stmt := top 104
theorem sc_fail : FnScope ["_law_making_here", "_law_at", "_law_g", "_law_name", "_law_a", "_law_b", "_law_e", "_law_n", "_law_d"] ["_law_making_here", "_law_at"] (defScope s_fail) := ⟨rfl, rfl, rfl, by decide +kernel, rfl, by decide +kernel, by decide +kernel⟩
abbrev s_first : Stmt := top 105
theorem sc_first : FnScope ["_law_m", "_law_u", "_law_ring", "_law_a", "_law_b", "_law_e", "_law_n", "_law_part", "_law_x", "_law_y"] ["_law_m", "_law_u", "_law_ring"] (defScope s_first) := ⟨rfl, rfl, rfl, by decide +kernel, rfl, by decide +kernel, by decide +kernel⟩
abbrev s_on_way : Stmt := top 106
theorem sc_on_way : FnScope ["_law_m", "_law_p", "_law_q", "_law_part", "_law_k", "_law_more"] ["_law_m", "_law_p", "_law_q", "_law_part"] (defScope s_on_way) := ⟨rfl, rfl, rfl, by decide +kernel, rfl, by decide +kernel, by decide +kernel⟩
abbrev s_point : Stmt := top 107
theorem sc_point : FnScope ["_law_making_here", "_law_m", "_law_g", "_law_p", "_law_q", "_law_word", "_law_x", "_law_y"] ["_law_making_here", "_law_m", "_law_g"] (defScope s_point) := ⟨rfl, rfl, rfl, by decide +kernel, rfl, by decide +kernel, by decide +kernel⟩
abbrev s_line_fits : Stmt := top 108
theorem sc_line_fits : FnScope ["_law_making_here", "_law_line", "_law_g"] ["_law_making_here", "_law_line", "_law_g"] (defScope s_line_fits) := ⟨rfl, rfl, rfl, by decide +kernel, rfl, by decide +kernel, by decide +kernel⟩
abbrev s_l_fits : Stmt := top 109
theorem sc_l_fits : FnScope ["_law_making_here", "_law_told", "_law_at", "_law_sort_here", "_law_g", "_law_name", "_law_u", "_law_ring"] ["_law_making_here", "_law_told", "_law_at"] (defScope s_l_fits) := ⟨rfl, rfl, rfl, by decide +kernel, rfl, by decide +kernel, by decide +kernel⟩
abbrev s_l_holds : Stmt := top 110
theorem sc_l_holds : FnScope ["_law_sheet", "_law_at", "_law_ranks", "_law_k", "_law_name", "_law_making_here", "_law_told", "_law_gone", "_law_one", "_law_due", "_law_word"] ["_law_sheet"] (defScope s_l_holds) := ⟨rfl, rfl, rfl, by decide +kernel, rfl, by decide +kernel, by decide +kernel⟩
abbrev s_plain_place : Stmt := top 111
theorem sc_plain_place : FnScope ["_law_pool_here"] ["_law_pool_here"] (defScope s_plain_place) := ⟨rfl, rfl, rfl, by decide +kernel, rfl, by decide +kernel, by decide +kernel⟩
abbrev s_plain_row : Stmt := top 112
theorem sc_plain_row : FnScope ["_law_script", "_law_many", "_law_row", "_law_by", "_law_sorts", "_law_heavy", "_law_head", "_law_k", "_law_pool_here", "_law_name", "_law_making_here"] ["_law_script", "_law_many"] (defScope s_plain_row) := ⟨rfl, rfl, rfl, by decide +kernel, rfl, by decide +kernel, by decide +kernel⟩
abbrev s_law : Stmt := top 113
theorem sc_law : FnScope ["_law_script", "_law_row", "_law_handed", "_law_found", "_law_k"] ["_law_script"] (defScope s_law) := ⟨rfl, rfl, rfl, by decide +kernel, rfl, by decide +kernel, by decide +kernel⟩
/-! ### the steps of a reading, taken by a word of one's own -/
local macro_rules | `(tactic| walk_at "sm") => `(tactic| first
  | assumption
  | ((with_reducible refine Mb.Sm.mul (m := ?mm) (n := ?nn) ?ga ?gb); (case ga => walk_at "sm"); (case gb => walk_at "sm"))
  | ((with_reducible refine Mb.Sm.addm (m := ?mm) (n := ?nn) ?ga ?gb); (case ga => walk_at "sm"); (case gb => walk_at "sm"))
  | ((with_reducible refine Mb.Sm.subm (m := ?mm) (n := ?nn) ?ga ?gb); (case ga => walk_at "sm"); (case gb => walk_at "sm"))
  | ((with_reducible refine Mb.Sm.neg (n := ?nn) ?ga); (case ga => walk_at "sm"))
  | exact Mb.Sm.lit (by decide)
  | exact Mb.Sm.lit2 (by decide +kernel))
local macro_rules | `(tactic| walk_at "c") => `(tactic| first
  | assumption
  | exact ⟨by decide, by decide, by decide⟩
  | (show (0 : Int) < _; omega)
  | exact Mb.Sm.cdiv (n := 64) (by decide) (by decide)
  | exact Mb.Sm.cmul (by walk_at "sm") (by walk_at "sm"))
local macro_rules | `(tactic| walk_at "st") => `(tactic| first
  | ((with_reducible refine Mb.r_var (v := ?vv) ?hv ?_); (case hv => rfl))
  | with_reducible refine Mb.r_c ?_
  | with_reducible refine Mb.r_op ?_
  | with_reducible refine Mb.r_un ?_
  | with_reducible refine Mb.r_i0 ?_
  | with_reducible refine Mb.r_u ?_
  | with_reducible refine Mb.r_eqI ?_
  | with_reducible refine Mb.r_neI ?_
  | with_reducible refine Mb.r_eqB ?_
  | with_reducible refine Mb.r_eqS ?_
  | with_reducible refine Mb.r_cb ?_
  | with_reducible refine Mb.r_bits ?_
  | with_reducible refine Mb.r_int ?_
  | with_reducible refine Mb.r_nil ?_
  | with_reducible refine Mb.r_cons ?_
  | with_reducible refine Mb.r_tup ?_
  | with_reducible refine Mb.r_lst ?_
  | with_reducible refine Mb.r_call ?_
  | with_reducible refine Mb.r_seqA ?_
  | with_reducible refine Mb.r_seqD ?_
  | with_reducible refine Mb.r_seqP ?_
  | with_reducible refine Mb.r_next ?_
  | ((with_reducible show Ends.nx _ _ _); (with_reducible refine Mb.r_nx ?_))
  | with_reducible refine Mb.r_asg ?_
  | ((with_reducible refine Mb.r_gname ?_); dsimp only [List.set])
  | with_reducible refine Mb.r_gsub ?_
  | with_reducible refine Mb.r_ret ?_
  | with_reducible refine Mb.r_drop ?_
  | with_reducible refine Mb.r_ifs ?_
  | with_reducible refine Mb.r_test ?_
  | with_reducible refine Mb.r_tB ?_
  | with_reducible refine Mb.r_bl ?_
  | (dsimp only; (with_reducible refine Mb.r_bl ?_))
  | with_reducible refine Mb.r_and ?_
  | with_reducible refine Mb.r_or ?_
  | with_reducible refine Mb.r_not ?_
  | with_reducible refine Mb.r_andV ?_
  | with_reducible refine Mb.r_orV ?_
  | with_reducible refine Mb.r_notV ?_
  | with_reducible refine Mb.r_par ?_
  | ((with_reducible refine Mb.r_two ?_); dsimp only [List.set])
  | ((with_reducible refine Mb.r_ixL (xs := ?xx) (v := ?vv) ?h1 ?h2 ?_); (case h1 => first | assumption | exact Mb.lstOf (by assumption)); (case h2 => rfl))
  | ((with_reducible refine Mb.r_ixT (xs := ?xx) (v := ?vv) ?h1 ?h2 ?_); (case h1 => first | assumption | exact Mb.tupOf (by assumption)); (case h2 => rfl))
  | ((with_reducible refine Mb.r_i ?c ?_); (case c => walk_at "c"))
  | with_reducible refine Mb.r_T ?_
  | with_reducible refine Mb.r_F ?_
  | with_reducible refine Mb.r_nT ?_
  | with_reducible refine Mb.r_nF ?_)
local macro_rules | `(tactic| walk_at "sr") => `(tactic| first
  | assumption
  | ((with_reducible refine Mb.Sr.same (H := ?HH) ?ga ?gb); (case gb => assumption); (case ga => walk_at "sr"))
  | ((with_reducible refine Mb.Sr.but (H := ?HH) (q := ?qq) ?ga ?gn ?gb); (case gb => assumption); (case gn => first | assumption | ((refine Mb.Sr.ne2 (H := ?HN) (b := ?bn) ?gx ?gy); (case gy => assumption); (case gx => walk_at "sr"))); (case ga => walk_at "sr")))
local macro_rules | `(tactic| walk_at "wipe") => `(tactic| repeat first
  | ((with_reducible rename Mb.Fq _ _ _ _ => hz); clear hz)
  | ((with_reducible rename Mb.Pq _ _ _ _ _ => hz); clear hz)
  | ((with_reducible rename Mb.Rq _ _ _ _ _ => hz); clear hz)
  | ((with_reducible rename Mb.Sz _ _ => hz); clear hz)
  | ((with_reducible rename L2.Same _ _ => hz); clear hz)
  | ((with_reducible rename Mb.But _ _ _ => hz); clear hz)
  | ((with_reducible rename Mb.Sr _ _ _ => hz); clear hz)
  | ((with_reducible rename Mb.Kn _ _ _ _ _ _ _ _ _ => hz); clear hz)
  | ((with_reducible rename L2.SqL _ _ _ _ => hz); clear hz)
  | ((with_reducible rename L2.Room _ _ => hz); clear hz))
local macro_rules | `(tactic| walk_at "sz") => `(tactic| first
  | assumption
  | ((with_reducible refine Mb.Sz.add (m := ?mm) (n := ?nn) ?ga ?gb); (case ga => walk_at "sz"); (case gb => walk_at "sz"))
  | ((with_reducible refine Mb.Sz.sub (m := ?mm) (n := ?nn) ?ga ?gb); (case ga => walk_at "sz"); (case gb => walk_at "sz"))
  | ((with_reducible refine Mb.Sz.mul (m := ?mm) (n := ?nn) ?ga ?gb); (case ga => walk_at "sz"); (case gb => walk_at "sz"))
  | ((with_reducible refine Mb.Sz.div (m := ?mm) (n := ?nn) ?ga ?gb ?gc); (case ga => walk_at "sz"); (case gb => walk_at "sz"); (case gc => first | assumption | decide))
  | ((with_reducible refine Mb.Sz.neg (m := ?mm) ?ga); (case ga => walk_at "sz"))
  | exact Mb.Sz.int (by walk_at "sm") (by decide)
  | (refine Mb.Sz.lit ?_ ?_ <;> decide))
local macro_rules | `(tactic| walk_at "fq") => `(tactic| first
  | assumption
  | ((with_reducible refine Mb.Fq.int (t := ?ti) ?ga); (case ga => assumption))
  | ((with_reducible refine Mb.Pq.mk (f := ?ff) (g := ?gg) ?ga ?gb ?gc); (case ga => assumption); (case gb => walk_at "fq"); (case gc => walk_at "fq"))
  | ((with_reducible refine Mb.Fq.rq (n := ?nn) ?ga ?gb); (case ga => walk_at "fq"); (case gb => walk_at "sz"))
  | ((with_reducible refine Mb.Rq.of2 (t := ?tt) (b := ?bb) (n := ?nn) (m := ?mm) ?ga ?gn ?gc ?gd); (case ga => assumption); (case gn => first | assumption | decide); (case gc => walk_at "sm"); (case gd => walk_at "sm"))
  | ((with_reducible refine Mb.Fq.up (H := ?HH) ?ga ?gb); (case gb => assumption); (case ga => walk_at "fq"))
  | ((with_reducible refine Mb.Pq.up (H := ?HH) ?ga ?gb); (case gb => assumption); (case ga => walk_at "fq"))
  | ((with_reducible refine Mb.Rq.up (H := ?HH) ?ga ?gb); (case gb => assumption); (case ga => walk_at "fq"))
  | ((with_reducible refine Mb.Fq.upB (H := ?HH) (p := ?pp) (b := ?bb) ?ga ?gb ?gc); (case gb => assumption); (case gc => walk_at "sr"); (case ga => walk_at "fq"))
  | ((with_reducible refine Mb.Pq.upB (H := ?HH) (p := ?pp) (b := ?bb) ?ga ?gb ?gc); (case gb => assumption); (case gc => walk_at "sr"); (case ga => walk_at "fq"))
  | ((with_reducible refine Mb.Rq.upB (H := ?HH) (p := ?pp) (b := ?bb) ?ga ?gb ?gc); (case gb => assumption); (case gc => walk_at "sr"); (case ga => walk_at "fq")))
local macro_rules | `(tactic| walk_at "free") => `(tactic| first
  | assumption
  | ((with_reducible refine L2.Same.free (H' := ?HH) ?ga ?gb); (case gb => assumption); (case ga => walk_at "same")))
local macro_rules | `(tactic| walk_at "same") => `(tactic| first
  | assumption
  | exact fun _ _ h => h
  | ((with_reducible refine L2.Same.trans (H1 := ?BB) ?ga ?gb); (case gb => assumption); (case ga => walk_at "same"))
  | ((with_reducible refine Mb.same_but (H := ?BB) (p := ?pp) ?ga ?gn ?gb); (case gb => assumption); (case gn => walk_at "free"); (case ga => walk_at "same")))
local macro_rules | `(tactic| walk_at "scr") => `(tactic| first
  | assumption
  | ((with_reducible refine L2.Same.seq (H := ?HH) ?ga ?gb); (case gb => assumption); (case ga => walk_at "same")))
local macro_rules | `(tactic| walk_at "q") => `(tactic| first
  | with_reducible refine Mb.r_tup2 ?_
  | with_reducible refine Mb.r_lst2 ?_
  | walk_at "st"
  | ((with_reducible refine Mb.r_newT ?l ?_); (case l => rfl); intro _ _ _ _ _)
  | ((with_reducible refine Mb.r_newL ?l ?_); (case l => rfl); intro _ _ _ _ _)
  | ((with_reducible refine Mb.r_ixF0 (q := ?qq) ?h ?_); (case h => walk_at "fq"))
  | ((with_reducible refine Mb.r_ixF1 (q := ?qq) ?h ?_); (case h => walk_at "fq"))
  | ((with_reducible refine Mb.r_ixP0 (x := ?xx) (y := ?yy) ?h ?_); (case h => walk_at "fq"); intro _ _)
  | ((with_reducible refine Mb.r_ixP1 (x := ?xx) (y := ?yy) ?h ?_); (case h => walk_at "fq"); intro _ _)
  | ((with_reducible refine Mb.r_q2 (p := ?pp) (q := ?qq) (n := ?nn) (m := ?mm) ?h1 ?h2 ?s1 ?s2 ?l1 ?pr ?_); (case h1 => walk_at "fq"); (case h2 => walk_at "fq"); (case s1 => walk_at "sz"); (case s2 => walk_at "sz"); (case l1 => rfl); (case pr => first | trivial | assumption | (show ¬ _; decide)); intro _ _ _ _)
  | ((with_reducible refine Mb.r_r2 (p := ?pp) (q := ?qq) (n := ?nn) (m := ?mm) ?h1 ?h2 ?l1 ?l2 ?_); (case h1 => walk_at "fq"); (case h2 => walk_at "fq"); (case l1 => rfl); (case l2 => rfl); intro _ _ _ _)
  | ((with_reducible refine Mb.r_s2 (p := ?pp) (q := ?qq) (n := ?nn) (m := ?mm) ?h1 ?h2 ?l1 ?l2 ?_); (case h1 => walk_at "fq"); (case h2 => walk_at "fq"); (case l1 => rfl); (case l2 => rfl))
  | ((with_reducible refine Mb.r_p2 (x := ?xx) (y := ?yy) (x' := ?xx2) (y' := ?yy2) (n := ?nn) (n2 := ?nn2) (m := ?mm) (m2 := ?mm2) ?h1 ?h2 ?s1 ?s2 ?s3 ?s4 ?l ?_); (case h1 => walk_at "fq"); (case h2 => walk_at "fq"); (case s1 => walk_at "sz"); (case s2 => walk_at "sz"); (case s3 => walk_at "sz"); (case s4 => walk_at "sz"); (case l => rfl); intro _ _ _ _)
  | ((with_reducible refine Mb.r_stream (ns := ?nn) ?hS ?hl ?i0 ?i1 ?_); (case hS => walk_at "scr"); (case hl => assumption); (case i0 => decide); (case i1 => decide); intro _ _ _ _ _)
  | ((with_reducible refine Mb.r_placeQ (b := ?bb) (m := 211) ?hp ?l ?k0 ?k1 ?hm ?_); (case hm => decide); (case hp => walk_at "sr"); (case l => decide); (case k0 => decide); (case k1 => decide); intro _ _ _ _ _ _ _ _ _)
  | ((with_reducible refine Mb.r_placeQ (b := ?bb) (m := 31) ?hp ?l ?k0 ?k1 ?hm ?_); (case hm => decide); (case hp => walk_at "sr"); (case l => decide); (case k0 => decide); (case k1 => decide); intro _ _ _ _ _ _ _ _ _)
  | ((with_reducible refine Mb.r_placeQ (b := ?bb) (m := 11) ?hp ?l ?k0 ?k1 ?hm ?_); (case hm => decide); (case hp => walk_at "sr"); (case l => decide); (case k0 => decide); (case k1 => decide); intro _ _ _ _ _ _ _ _ _)
  | ((with_reducible refine Mb.r_nearQ (b := ?bb) (m := 211) (x := ?xx) (y := ?yy) ?hp ?l ?k0 ?k1 ?hm ?hw ?sx ?sy ?_); (case hm => decide); (case hp => walk_at "sr"); (case hw => walk_at "fq"); (case sx => assumption); (case sy => assumption); (case l => decide); (case k0 => decide); (case k1 => decide); intro _ _ _ _ _ _ _ _ _)
  | ((with_reducible refine Mb.r_nearQ (b := ?bb) (m := 31) (x := ?xx) (y := ?yy) ?hp ?l ?k0 ?k1 ?hm ?hw ?sx ?sy ?_); (case hm => decide); (case hp => walk_at "sr"); (case hw => walk_at "fq"); (case sx => assumption); (case sy => assumption); (case l => decide); (case k0 => decide); (case k1 => decide); intro _ _ _ _ _ _ _ _ _)
  | ((with_reducible refine Mb.r_nearQ (b := ?bb) (m := 11) (x := ?xx) (y := ?yy) ?hp ?l ?k0 ?k1 ?hm ?hw ?sx ?sy ?_); (case hm => decide); (case hp => walk_at "sr"); (case hw => walk_at "fq"); (case sx => assumption); (case sy => assumption); (case l => decide); (case k0 => decide); (case k1 => decide); intro _ _ _ _ _ _ _ _ _)
  | ((with_reducible refine Mb.r_isP (x := ?xx) (y := ?yy) ?h ?_); (case h => walk_at "fq"))
  | ((with_reducible refine Mb.r_shared (x0 := ?aa) (y0 := ?bb) (x := ?xx) (y := ?yy) (x' := ?xx2) (y' := ?yy2) (t := ?tt) (n := ?nn) (n2 := ?nn2) ?h0 ?h1 ?h2 ?h3 ?s0 ?s1 ?l ?s2 ?s3 ?s4 ?s5 ?e1 ?e2 ?_); (case h0 => walk_at "fq"); (case h1 => walk_at "fq"); (case h2 => walk_at "fq"); (case h3 => walk_at "fq"); (case s0 => walk_at "sz"); (case s1 => walk_at "sz"); (case l => rfl); (case s2 => assumption); (case s3 => assumption); (case s4 => assumption); (case s5 => assumption); (case e1 => rfl); (case e2 => rfl); intro _ _)
  | ((with_reducible refine Mb.r_takeS (b := ?bb) ?hp ?l ?k0 ?k1 ?_); (case hp => walk_at "sr"); (case l => decide); (case k0 => decide); (case k1 => decide); intro _ _ _ _ _ _)
  | ((with_reducible refine Mb.r_fracQ (b := ?bb) (m := 211) ?hp ?l ?k0 ?k1 ?hm ?_); (case hm => decide); (case hp => walk_at "sr"); (case l => decide); (case k0 => decide); (case k1 => decide); intro _ _ _ _ _ _ _)
  | ((with_reducible refine Mb.r_fracQ (b := ?bb) (m := 31) ?hp ?l ?k0 ?k1 ?hm ?_); (case hm => decide); (case hp => walk_at "sr"); (case l => decide); (case k0 => decide); (case k1 => decide); intro _ _ _ _ _ _ _)
  | ((with_reducible refine Mb.r_fracQ (b := ?bb) (m := 11) ?hp ?l ?k0 ?k1 ?hm ?_); (case hm => decide); (case hp => walk_at "sr"); (case l => decide); (case k0 => decide); (case k1 => decide); intro _ _ _ _ _ _ _)
  | ((with_reducible refine Mb.r_share (x := ?xx) (y := ?yy) (x' := ?xx2) (y' := ?yy2) (t := ?tt) (n := ?nn) (n2 := ?nn2) (m := ?mm) (m2 := ?mm2) (k := ?kk) ?h1 ?h2 ?h3 ?s1 ?s2 ?s3 ?s4 ?s5 ?l ?l2 ?_); (case h1 => walk_at "fq"); (case h2 => walk_at "fq"); (case h3 => walk_at "fq"); (case s1 => walk_at "sz"); (case s2 => walk_at "sz"); (case s3 => walk_at "sz"); (case s4 => walk_at "sz"); (case s5 => walk_at "sz"); (case l => rfl); (case l2 => rfl); intro _ _ _ _))
local macro_rules | `(tactic| walk_at "eqp") => `(tactic| first
  | ((refine Mb.r_neP (x := ?xx) (y := ?yy) (x' := ?xx2) (y' := ?yy2) ?h1 ?h2 ?e ?_); (case h1 => walk_at "fq"); (case h2 => walk_at "fq"); (case e => (walk_at "wipe"; constructor <;> grind)))
  | ((refine Mb.r_eqP (x := ?xx) (y := ?yy) (x' := ?xx2) (y' := ?yy2) ?h1 ?h2 ?e ?_); (case h1 => walk_at "fq"); (case h2 => walk_at "fq"); (case e => (walk_at "wipe"; constructor <;> grind)))
  | ((refine Mb.r_eqQ (p := ?xx) (q := ?yy) ?h1 ?h2 ?e ?_); (case h1 => walk_at "fq"); (case h2 => walk_at "fq"); (case e => (walk_at "wipe"; grind))))
local macro_rules | `(tactic| walk_at "fin") => `(tactic| first
  | ((refine Mb.Pq.cast (x := ?xx) (y := ?yy) ?h ?ex ?ey); (case h => walk_at "fq"); (case ex => first | rfl | (walk_at "wipe"; grind)); (case ey => first | rfl | (walk_at "wipe"; grind)))
  | ((refine Mb.Fq.cast (x := ?xx) ?h ?ex); (case h => walk_at "fq"); (case ex => first | rfl | (walk_at "wipe"; grind))))
local macro_rules | `(tactic| walk_at "no") => `(tactic| first
  | ((with_reducible refine Mb.r_noN ?h ?_); (case h => (walk_at "wipe"; grind)))
  | ((with_reducible refine Mb.r_no ?h ?_); (case h => (walk_at "wipe"; grind)))
  | ((with_reducible refine Mb.r_yes ?h ?_); (case h => (walk_at "wipe"; grind))))
local macro_rules | `(tactic| walk_at "ql") => `(tactic| first
  | walk_at "q"
  | ((with_reducible refine Mb.r_lowQ (q := ?qq) (n := ?nn) ?h ?l ?_); (case h => walk_at "fq"); (case l => rfl); intro _ _ _ _))
local macro_rules | `(tactic| walk_at "lq") => `(tactic| first
  | assumption
  | ((with_reducible refine Mb.Lq.mk ?ga); (case ga => assumption))
  | ((with_reducible refine Mb.Lq.up (H := ?HH) ?ga ?gb); (case gb => assumption); (case ga => walk_at "lq"))
  | ((with_reducible refine Mb.Lq.upB (H := ?HH) (p := ?pp) (n := ?nn) ?ga ?gb ?gc); (case gb => assumption); (case gc => walk_at "sr"); (case ga => walk_at "lq")))
local macro_rules | `(tactic| walk_at "g") => `(tactic| first
  | walk_at "q"
  | with_reducible refine Mb.r_gcons ?_
  | with_reducible refine Mb.r_gnil ?_
  | ((with_reducible refine Mb.r_gL (a := ?aa) (b := ?bb) (c := ?cc) ?h ?l ?_); (case l => rfl); (case h => walk_at "lq"))
  | ((with_reducible refine Mb.r_gF (x := ?xx) ?h ?l ?_); (case l => rfl); (case h => walk_at "fq"))
  | ((with_reducible refine Mb.r_gP (x := ?xx) (y := ?yy) ?h ?l ?_); (case l => rfl); (case h => walk_at "fq"); intro _ _ _ _)
  | ((with_reducible refine Mb.r_ixL0 (a := ?aa) (b := ?bb) (c := ?cc) ?h ?_); (case h => walk_at "lq"))
  | ((with_reducible refine Mb.r_ixL1 (a := ?aa) (b := ?bb) (c := ?cc) ?h ?_); (case h => walk_at "lq"))
  | ((with_reducible refine Mb.r_ixL2 (a := ?aa) (b := ?bb) (c := ?cc) ?h ?_); (case h => walk_at "lq"))
  | ((with_reducible refine Mb.r_cleared (x := ?xx) (y := ?yy) (n := ?nn) (m := ?mm) ?h ?s1 ?s2 ?l ?_); (case h => walk_at "fq"); (case s1 => walk_at "sz"); (case s2 => walk_at "sz"); (case l => rfl); intro _ _ _ _ _ _ _ _ _ _ _ _ _)
  | ((with_reducible refine Mb.r_wayI (x := ?xx) (y := ?yy) (x' := ?xx2) (y' := ?yy2) (n := ?nn) (n2 := ?nn2) (m := ?mm) (m2 := ?mm2) ?h1 ?h2 ?s1 ?s2 ?s3 ?s4 ?l1 ?l2 ?_); (case h1 => walk_at "fq"); (case h2 => walk_at "fq"); (case s1 => walk_at "sz"); (case s2 => walk_at "sz"); (case s3 => walk_at "sz"); (case s4 => walk_at "sz"); (case l1 => rfl); (case l2 => rfl); intro _ _ _ _ _ _ _ _ _ _ _ _ _)
  | with_reducible refine Mb.r_isNN ?_
  | with_reducible refine Mb.r_notNN ?_
  | with_reducible refine Mb.r_eqN ?_
  | with_reducible refine Mb.r_neN ?_)
local macro_rules | `(tactic| walk_at "lo") => `(tactic| first
  | assumption
  | ((with_reducible refine Mb.Lo.up (H := ?HH) ?ga ?gb); (case gb => assumption); (case ga => walk_at "lo"))
  | ((with_reducible refine Mb.Lo.upB (H := ?HH) (p := ?pp) (n := ?nn) ?ga ?gb ?gc); (case gb => assumption); (case gc => walk_at "sr"); (case ga => walk_at "lo")))
local macro_rules | `(tactic| walk_at "po") => `(tactic| first
  | assumption
  | ((with_reducible refine Mb.Po.up (H := ?HH) ?ga ?gb); (case gb => assumption); (case ga => walk_at "po"))
  | ((with_reducible refine Mb.Po.upB (H := ?HH) (p := ?pp) (n := ?nn) ?ga ?gb ?gc); (case gb => assumption); (case gc => walk_at "sr"); (case ga => walk_at "po")))
local macro_rules | `(tactic| walk_at "w") => `(tactic| first
  | walk_at "g"
  | ((with_reducible refine Mb.r_lowQ (q := ?qq) (n := ?nn) ?h ?l ?_); (case h => walk_at "fq"); (case l => rfl); intro _ _ _ _)
  | ((with_reducible refine Mb.r_thruO (x := ?xx) (y := ?yy) (x' := ?xx2) (y' := ?yy2) (n := ?nn) (n2 := ?nn2) (m := ?mm) (m2 := ?mm2) ?h1 ?h2 ?s1 ?s2 ?s3 ?s4 ?l ?_); (case h1 => walk_at "fq"); (case h2 => walk_at "fq"); (case s1 => walk_at "sz"); (case s2 => walk_at "sz"); (case s3 => walk_at "sz"); (case s4 => walk_at "sz"); (case l => rfl); intro _ _ _ _ _)
  | ((with_reducible refine Mb.r_meetO (a := ?aa) (b := ?bb) (c := ?cc) (a' := ?aa2) (b' := ?bb2) (c' := ?cc2) (n := ?nn) (n2 := ?nn2) (n3 := ?nn3) (m := ?mm) (m2 := ?mm2) (m3 := ?mm3) ?h1 ?h2 ?s1 ?s2 ?s3 ?s4 ?s5 ?s6 ?l ?_); (case h1 => walk_at "lq"); (case h2 => walk_at "lq"); (case s1 => walk_at "sm"); (case s2 => walk_at "sm"); (case s3 => walk_at "sm"); (case s4 => walk_at "sm"); (case s5 => walk_at "sm"); (case s6 => walk_at "sm"); (case l => rfl); intro _ _ _ _ _)
  | ((with_reducible refine Mb.r_along (x := ?xx) (y := ?yy) (a := ?aa) (b := ?bb) (c := ?cc) (n := ?nn) (n2 := ?nn2) (k := ?kk) (k2 := ?kk2) ?h1 ?h2 ?hl ?s1 ?s2 ?s3 ?s4 ?l ?_); (case h1 => walk_at "fq"); (case h2 => walk_at "lq"); (case hl => assumption); (case s1 => walk_at "sz"); (case s2 => walk_at "sz"); (case s3 => walk_at "sm"); (case s4 => walk_at "sm"); (case l => rfl); intro _ _ _ _ _ _ _ _ _ _ _ _ _)
  | ((with_reducible refine Mb.r_foot (x := ?xx) (y := ?yy) (a := ?aa) (b := ?bb) (c := ?cc) (n := ?nn) (n2 := ?nn2) (k := ?kk) (k2 := ?kk2) (k3 := ?kk3) ?h1 ?h2 ?hl ?s1 ?s2 ?s3 ?s4 ?s5 ?l ?_); (case h1 => walk_at "fq"); (case h2 => walk_at "lq"); (case hl => assumption); (case s1 => walk_at "sz"); (case s2 => walk_at "sz"); (case s3 => walk_at "sm"); (case s4 => walk_at "sm"); (case s5 => walk_at "sm"); (case l => rfl); intro _ _ _ _ _ _ _ _ _ _)
  | ((with_reducible refine Mb.r_mirror (x := ?xx) (y := ?yy) (a := ?aa) (b := ?bb) (c := ?cc) (n := ?nn) (n2 := ?nn2) (k := ?kk) (k2 := ?kk2) (k3 := ?kk3) ?h1 ?h2 ?hl ?s1 ?s2 ?s3 ?s4 ?s5 ?l ?_); (case h1 => walk_at "fq"); (case h2 => walk_at "lq"); (case hl => assumption); (case s1 => walk_at "sz"); (case s2 => walk_at "sz"); (case s3 => walk_at "sm"); (case s4 => walk_at "sm"); (case s5 => walk_at "sm"); (case l => rfl); intro _ _ _ _ _ _ _ _ _ _)
  | ((with_reducible refine Mb.r_onT (a := ?aa) (b := ?bb) (c := ?cc) (x := ?xx) (y := ?yy) (n1 := ?n1) (n2 := ?n2) (n3 := ?n3) (n4 := ?n4) (n5 := ?n5) ?h1 ?h2 ?s1 ?s2 ?s3 ?s4 ?s5 ?l ?e ?_); (case h1 => walk_at "lq"); (case h2 => walk_at "fq"); (case s1 => walk_at "sm"); (case s2 => walk_at "sm"); (case s3 => walk_at "sm"); (case s4 => walk_at "sz"); (case s5 => walk_at "sz"); (case l => rfl); (case e => first | assumption | (walk_at "wipe"; grind)))
  | ((with_reducible refine Mb.r_isLn (a := ?aa) (b := ?bb) (c := ?cc) ?h1 ?hl ?_); (case h1 => walk_at "lq"); (case hl => assumption))
  | ((with_reducible refine Mb.r_isNLq (a := ?aa) (b := ?bb) (c := ?cc) ?h ?_); (case h => walk_at "lq"))
  | ((with_reducible refine Mb.r_notNLq (a := ?aa) (b := ?bb) (c := ?cc) ?h ?_); (case h => walk_at "lq"))
  | ((with_reducible refine Mb.r_isNPq (x := ?xx) (y := ?yy) ?h ?_); (case h => walk_at "fq"))
  | ((with_reducible refine Mb.r_notNPq (x := ?xx) (y := ?yy) ?h ?_); (case h => walk_at "fq"))
  | ((with_reducible refine Mb.r_way (x := ?xx) (y := ?yy) (x' := ?xx2) (y' := ?yy2) (t := ?tt) (n1 := ?n1) (n2 := ?n2) (n3 := ?n3) (n4 := ?n4) (n5 := ?n5) ?h1 ?h2 ?h3 ?s1 ?s2 ?s3 ?s4 ?s5 ?l ?_); (case h1 => walk_at "fq"); (case h2 => walk_at "fq"); (case h3 => walk_at "fq"); (case s1 => walk_at "sz"); (case s2 => walk_at "sz"); (case s3 => walk_at "sz"); (case s4 => walk_at "sz"); (case s5 => walk_at "sz"); (case l => rfl); intro _ _ _ _)
  | ((with_reducible refine Mb.r_lineQ (n := ?nn) (m := 210) ?hp ?l ?k0 ?k1 ?hm ?_); (case hm => decide); (case hp => walk_at "sr"); (case l => decide); (case k0 => decide); (case k1 => decide); intro _ _ _ _ _ _ _ _ _ _ _ _)
  | ((with_reducible refine Mb.r_lineQ (n := ?nn) (m := 30) ?hp ?l ?k0 ?k1 ?hm ?_); (case hm => decide); (case hp => walk_at "sr"); (case l => decide); (case k0 => decide); (case k1 => decide); intro _ _ _ _ _ _ _ _ _ _ _ _)
  | ((with_reducible refine Mb.r_lineQ (n := ?nn) (m := 10) ?hp ?l ?k0 ?k1 ?hm ?_); (case hm => decide); (case hp => walk_at "sr"); (case l => decide); (case k0 => decide); (case k1 => decide); intro _ _ _ _ _ _ _ _ _ _ _ _)
  | ((with_reducible refine Mb.r_spot (a := ?aa) (b := ?bb) (c := ?cc) (t := ?tt) ?h1 ?hl ?h2 ?s1 ?s2 ?s3 ?s4 ?_); (case h1 => walk_at "lq"); (case hl => assumption); (case h2 => walk_at "fq"); (case s1 => assumption); (case s2 => assumption); (case s3 => assumption); (case s4 => assumption); intro _ _ _ _ _ _ _ _ _)
  | ((with_reducible refine Mb.r_good (x := ?xx) (y := ?yy) (a := ?aa) (b := ?bb) (c := ?cc) (n := ?nn) (n2 := ?nn2) (k := ?kk) (k2 := ?kk2) (k3 := ?kk3) ?h1 ?h2 ?hl ?s1 ?s2 ?s3 ?s4 ?s5 ?l ?l2 ?_); (case h1 => walk_at "fq"); (case h2 => walk_at "lq"); (case hl => assumption); (case s1 => walk_at "sz"); (case s2 => walk_at "sz"); (case s3 => walk_at "sm"); (case s4 => walk_at "sm"); (case s5 => walk_at "sm"); (case l => rfl); (case l2 => rfl); intro _ _)
  | ((with_reducible refine Mb.r_other (n := ?nn) (a := ?aa) (b := ?bb) (c := ?cc) ?hp ?l ?h ?hl ?s1 ?s2 ?s3 ?_); (case hp => walk_at "sr"); (case l => decide); (case h => walk_at "lq"); (case hl => assumption); (case s1 => assumption); (case s2 => assumption); (case s3 => assumption); intro _ _ _ _ _ _ _ _ _ _ _ _))
local macro_rules | `(tactic| walk_at "eqd") => `(tactic| first
  | ((refine Mb.r_eqPd (x := ?xx) (y := ?yy) (x' := ?xx2) (y' := ?yy2) ?h1 ?h2 ?_); (case h1 => walk_at "fq"); (case h2 => walk_at "fq"))
  | ((refine Mb.r_nePd (x := ?xx) (y := ?yy) (x' := ?xx2) (y' := ?yy2) ?h1 ?h2 ?_); (case h1 => walk_at "fq"); (case h2 => walk_at "fq")))
local macro_rules | `(tactic| walk_at "ond") => `(tactic| ((refine Mb.r_onD (a := ?aa) (b := ?bb) (c := ?cc) (x := ?xx) (y := ?yy) (n1 := ?n1) (n2 := ?n2) (n3 := ?n3) (n4 := ?n4) (n5 := ?n5) ?h1 ?h2 ?s1 ?s2 ?s3 ?s4 ?s5 ?l ?_); (case h1 => walk_at "lq"); (case h2 => walk_at "fq"); (case s1 => walk_at "sm"); (case s2 => walk_at "sm"); (case s3 => walk_at "sm"); (case s4 => walk_at "sz"); (case s5 => walk_at "sz"); (case l => rfl)))
local macro_rules | `(tactic| walk_at "cq") => `(tactic| first
  | assumption
  | ((with_reducible refine Mb.Cq.mk (f := ?ff) (g := ?gg) (k := ?kk) ?ga ?gb ?gc ?gd); (case ga => assumption); (case gb => walk_at "fq"); (case gc => walk_at "fq"); (case gd => walk_at "fq"))
  | ((with_reducible refine Mb.Cq.up (H := ?HH) ?ga ?gb); (case gb => assumption); (case ga => walk_at "cq"))
  | ((with_reducible refine Mb.Cq.upB (H := ?HH) (p := ?pp) (n := ?nn) ?ga ?gb ?gc); (case gb => assumption); (case gc => walk_at "sr"); (case ga => walk_at "cq")))
local macro_rules | `(tactic| walk_at "c1") => `(tactic| first
  | walk_at "w"
  | ((with_reducible refine Mb.r_ixC0 (x := ?xx) (y := ?yy) (s := ?ss) ?h ?_); (case h => walk_at "cq"); intro _ _)
  | ((with_reducible refine Mb.r_ixC1 (x := ?xx) (y := ?yy) (s := ?ss) ?h ?_); (case h => walk_at "cq"); intro _ _)
  | ((with_reducible refine Mb.r_ixC2 (x := ?xx) (y := ?yy) (s := ?ss) ?h ?_); (case h => walk_at "cq"); intro _ _)
  | ((with_reducible refine Mb.r_about1 (x := ?xx) (y := ?yy) (x' := ?xx2) (y' := ?yy2) (n := ?nn) (n2 := ?nn2) (m := ?mm) (m2 := ?mm2) ?h1 ?h2 ?s1 ?s2 ?s3 ?s4 ?l ?e ?_); (case h1 => walk_at "fq"); (case h2 => walk_at "fq"); (case e => assumption); (case s1 => walk_at "sz"); (case s2 => walk_at "sz"); (case s3 => walk_at "sz"); (case s4 => walk_at "sz"); (case l => rfl); intro _ _ _ _)
  | ((with_reducible refine Mb.r_about0 (x := ?xx) (y := ?yy) (x' := ?xx2) (y' := ?yy2) (n := ?nn) (n2 := ?nn2) (m := ?mm) (m2 := ?mm2) ?h1 ?h2 ?s1 ?s2 ?s3 ?s4 ?l ?e ?_); (case h1 => walk_at "fq"); (case h2 => walk_at "fq"); (case e => first | assumption | exact ⟨rfl, rfl⟩); (case s1 => walk_at "sz"); (case s2 => walk_at "sz"); (case s3 => walk_at "sz"); (case s4 => walk_at "sz"); (case l => rfl))
  | ((with_reducible refine Mb.r_far (x := ?xx) (y := ?yy) (x' := ?xx2) (y' := ?yy2) (n := ?nn) (n2 := ?nn2) (m := ?mm) (m2 := ?mm2) ?h1 ?h2 ?s1 ?s2 ?s3 ?s4 ?l ?_); (case h1 => walk_at "fq"); (case h2 => walk_at "fq"); (case s1 => walk_at "sz"); (case s2 => walk_at "sz"); (case s3 => walk_at "sz"); (case s4 => walk_at "sz"); (case l => rfl); intro _ _ _ _)
  | ((with_reducible refine Mb.r_in (x := ?xx) (y := ?yy) (x' := ?xx2) (y' := ?yy2) (x2 := ?xx3) (y2 := ?yy3) (n1 := ?n1) (n2 := ?n2) (n3 := ?n3) (n4 := ?n4) (n5 := ?n5) (n6 := ?n6) ?h1 ?h2 ?h3 ?s1 ?s2 ?s3 ?s4 ?s5 ?s6 ?l ?_); (case h1 => walk_at "fq"); (case h2 => walk_at "fq"); (case h3 => walk_at "fq"); (case s1 => walk_at "sz"); (case s2 => walk_at "sz"); (case s3 => walk_at "sz"); (case s4 => walk_at "sz"); (case s5 => walk_at "sz"); (case s6 => walk_at "sz"); (case l => rfl); intro _ _)
  | ((with_reducible refine Mb.r_L2 (a := ?aa) (b := ?bb) (c := ?cc) (a' := ?aa2) (b' := ?bb2) (c' := ?cc2) (n1 := ?n1) (n2 := ?n2) (n3 := ?n3) (n4 := ?n4) ?h1 ?h2 ?s1 ?s2 ?s3 ?s4 ?l ?_); (case h1 => walk_at "lq"); (case h2 => walk_at "lq"); (case s1 => walk_at "sm"); (case s2 => walk_at "sm"); (case s3 => walk_at "sm"); (case s4 => walk_at "sm"); (case l => rfl))
  | with_reducible refine Mb.r_isB ?_
  | ((with_reducible refine Mb.r_isF (x := ?xx) ?h ?_); (case h => walk_at "fq"))
  | ((with_reducible refine Mb.r_isiT (x := ?xx) (y := ?yy) (s := ?ss) ?h ?_); (case h => walk_at "cq"))
  | ((with_reducible refine Mb.r_isNCq (x := ?xx) (y := ?yy) (s := ?ss) ?h ?_); (case h => walk_at "cq"))
  | ((with_reducible refine Mb.r_notNCq (x := ?xx) (y := ?yy) (s := ?ss) ?h ?_); (case h => walk_at "cq"))
  | ((with_reducible refine Mb.r_wide (n := ?nn) (m := 94) ?hp ?l ?i0 ?im ?_); (case hp => walk_at "sr"); (case l => decide); (case i0 => decide); (case im => decide +kernel); intro _ _ _ _ _ _ _)
  | ((with_reducible refine Mb.r_wideNear (n := ?nn) (m := 94) (x := ?xx) (y := ?yy) ?hp ?l ?i0 ?im ?m0 ?hw ?sx ?sy ?_); (case hp => walk_at "sr"); (case l => decide); (case i0 => decide); (case im => decide +kernel); (case m0 => decide); (case hw => walk_at "fq"); (case sx => walk_at "sz"); (case sy => walk_at "sz"); intro _ _ _ _ _ _ _ _ _)
  | ((with_reducible refine Mb.r_wholeLine (n := ?nn) (m := 94) ?hp ?l ?i0 ?im ?m0 ?m1 ?_); (case hp => walk_at "sr"); (case l => decide); (case i0 => decide); (case im => decide +kernel); (case m0 => decide); (case m1 => decide); intro _ _ _ _ _ _ _ _ _ _ _ _)
  | ((with_reducible refine Mb.r_wide (n := ?nn) (m := 97) ?hp ?l ?i0 ?im ?_); (case hp => walk_at "sr"); (case l => decide); (case i0 => decide); (case im => decide +kernel); intro _ _ _ _ _ _ _)
  | ((with_reducible refine Mb.r_wideNear (n := ?nn) (m := 97) (x := ?xx) (y := ?yy) ?hp ?l ?i0 ?im ?m0 ?hw ?sx ?sy ?_); (case hp => walk_at "sr"); (case l => decide); (case i0 => decide); (case im => decide +kernel); (case m0 => decide); (case hw => walk_at "fq"); (case sx => walk_at "sz"); (case sy => walk_at "sz"); intro _ _ _ _ _ _ _ _ _)
  | ((with_reducible refine Mb.r_wholeLine (n := ?nn) (m := 97) ?hp ?l ?i0 ?im ?m0 ?m1 ?_); (case hp => walk_at "sr"); (case l => decide); (case i0 => decide); (case im => decide +kernel); (case m0 => decide); (case m1 => decide); intro _ _ _ _ _ _ _ _ _ _ _ _)
  | ((with_reducible refine Mb.r_wide (n := ?nn) (m := 200) ?hp ?l ?i0 ?im ?_); (case hp => walk_at "sr"); (case l => decide); (case i0 => decide); (case im => decide +kernel); intro _ _ _ _ _ _ _)
  | ((with_reducible refine Mb.r_wideNear (n := ?nn) (m := 200) (x := ?xx) (y := ?yy) ?hp ?l ?i0 ?im ?m0 ?hw ?sx ?sy ?_); (case hp => walk_at "sr"); (case l => decide); (case i0 => decide); (case im => decide +kernel); (case m0 => decide); (case hw => walk_at "fq"); (case sx => walk_at "sz"); (case sy => walk_at "sz"); intro _ _ _ _ _ _ _ _ _)
  | ((with_reducible refine Mb.r_wholeLine (n := ?nn) (m := 200) ?hp ?l ?i0 ?im ?m0 ?m1 ?_); (case hp => walk_at "sr"); (case l => decide); (case i0 => decide); (case im => decide +kernel); (case m0 => decide); (case m1 => decide); intro _ _ _ _ _ _ _ _ _ _ _ _)
  | ((with_reducible refine Mb.r_cross (x := ?xx) (y := ?yy) (x' := ?xx2) (y' := ?yy2) (x2 := ?xx3) (y2 := ?yy3) (n1 := ?n1) (n2 := ?n2) (n3 := ?n3) (n4 := ?n4) (n5 := ?n5) (n6 := ?n6) ?h1 ?h2 ?h3 ?s1 ?s2 ?s3 ?s4 ?s5 ?s6 ?l ?_); (case h1 => walk_at "fq"); (case h2 => walk_at "fq"); (case h3 => walk_at "fq"); (case s1 => walk_at "sz"); (case s2 => walk_at "sz"); (case s3 => walk_at "sz"); (case s4 => walk_at "sz"); (case s5 => walk_at "sz"); (case s6 => walk_at "sz"); (case l => rfl); intro _ _ _ _)
  | ((with_reducible refine Mb.r_ixR0 (x := ?xx) (n := ?nn) ?h ?_); (case h => assumption); intro _ _)
  | ((with_reducible refine Mb.r_gS (xs := ?xx) ?h ?l ?_); (case h => walk_at "tp"); (case l => rfl))
  | ((with_reducible refine Mb.r_three (ns := ?nn) ?h ?l ?_); (case h => walk_at "scr"); (case l => assumption); intro _ _ _ _ _ _ _ _ _ _ _ _ _ _ _ _ _ _ _ _ _ _)
  | ((with_reducible refine Mb.r_lines (ns := ?nn) ?h ?l ?_); (case h => walk_at "scr"); (case l => assumption); intro _ _ _ _ _ _ _ _ _ _ _ _ _ _ _ _ _ _ _ _))
local macro_rules | `(tactic| walk_at "tp") => `(tactic| first
  | assumption
  | ((with_reducible refine L2.Same.tp (H := ?HH) ?ga ?gb); (case ga => assumption); (case gb => walk_at "tp")))
local macro_rules | `(tactic| walk_at "same1") => `(tactic| ((refine Mb.r_dT ?ha ?_); (case ha => (exact decide_eq_true (by (walk_at "wipe"; grind))))))
local macro_rules | `(tactic| walk_at "eqc") => `(tactic| ((refine Mb.r_eqC (x := ?xx) (y := ?yy) (s := ?ss) (x' := ?xx2) (y' := ?yy2) (s' := ?ss2) ?h1 ?h2 ?e ?_); (case h1 => walk_at "cq"); (case h2 => walk_at "cq"); (case e => (refine ⟨?_, ?_, ?_⟩ <;> first | rfl | (walk_at "wipe"; grind)))))
local macro_rules | `(tactic| walk_at "c2") => `(tactic| first
  | walk_at "c1"
  | with_reducible refine Mb.r_sl ?_
  | with_reducible refine Mb.r_noP ?_
  | with_reducible refine Mb.r_part ?_
  | with_reducible refine Mb.r_if ?_
  | with_reducible refine Mb.r_bm ?_
  | ((with_reducible refine Mb.r_slC (x := ?xx) (y := ?yy) (s := ?ss) ?h ?_); (case h => walk_at "cq"); intro _ _ _ _))
local macro_rules | `(tactic| walk_at "c3") => `(tactic| first
  | walk_at "c2"
  | ((with_reducible refine Mb.r_small (n := ?nn) ?hp ?l ?_); (case hp => walk_at "sr"); (case l => decide); intro _ _ _ _ _ _ _)
  | ((with_reducible refine Mb.r_smallP (n := ?nn) ?hp ?l ?_); (case hp => walk_at "sr"); (case l => decide); intro _ _ _ _ _ _ _ _ _)
  | ((with_reducible refine Mb.r_smallN (n := ?nn) (x := ?xx) (y := ?yy) ?hp ?l ?hw ?sx ?sy ?_); (case hp => walk_at "sr"); (case l => decide); (case hw => walk_at "fq"); (case sx => assumption); (case sy => assumption); intro _ _ _ _ _ _ _ _ _)
  | with_reducible refine Mb.r_yesT ?_
  | with_reducible refine Mb.r_keep ?_
  | ((with_reducible refine Mb.r_gLst (xs := ?xx) ?h ?l ?_); (case h => assumption); (case l => rfl))
  | ((with_reducible refine Mb.r_four (x := ?xx) (y := ?yy) (x' := ?xx2) (y' := ?yy2) ?hp ?h1 ?h2 ?s1 ?s2 ?s3 ?s4 ?_); (case hp => walk_at "sr"); (case h1 => walk_at "fq"); (case h2 => walk_at "fq"); (case s1 => assumption); (case s2 => assumption); (case s3 => assumption); (case s4 => assumption); intro _ _ _ _ _ _ _ _ _ _ _ _ _ _ _ _ _ _ _ _ _ _ _ _ _ _ _ _)
  | ((with_reducible refine Mb.r_last (x1 := ?xx) (y1 := ?yy) (x2 := ?xx2) (y2 := ?yy2) (x3 := ?xx3) (y3 := ?yy3) ?hp ?h1 ?h2 ?h3 ?s1 ?s2 ?s3 ?s4 ?s5 ?s6 ?_); (case hp => walk_at "sr"); (case h1 => walk_at "fq"); (case h2 => walk_at "fq"); (case h3 => walk_at "fq"); (case s1 => assumption); (case s2 => assumption); (case s3 => assumption); (case s4 => assumption); (case s5 => assumption); (case s6 => assumption); intro _ _ _ _ _ _ _ _)
  | ((with_reducible refine Mb.r_rolled (x := ?xx) (y := ?yy) (x' := ?xx2) (y' := ?yy2) (t := ?tt) ?h1 ?h2 ?h3 ?s1 ?s2 ?s3 ?s4 ?s5 ?_); (case h1 => walk_at "fq"); (case h2 => walk_at "fq"); (case h3 => walk_at "fq"); (case s1 => assumption); (case s2 => assumption); (case s3 => assumption); (case s4 => assumption); (case s5 => assumption); intro _ _ _ _ _ _ _ _)
  | ((with_reducible refine Mb.r_crossS (x := ?xx) (y := ?yy) (x' := ?xx2) (y' := ?yy2) (x2 := ?xx3) (y2 := ?yy3) ?h1 ?h2 ?h3 ?s1 ?s2 ?s3 ?s4 ?s5 ?s6 ?_); (case h1 => walk_at "fq"); (case h2 => walk_at "fq"); (case h3 => walk_at "fq"); (case s1 => assumption); (case s2 => assumption); (case s3 => assumption); (case s4 => assumption); (case s5 => assumption); (case s6 => assumption); intro _ _ _ _)
  | ((with_reducible refine Mb.r_det (x1 := ?x1) (y1 := ?y1) (x2 := ?x2) (y2 := ?y2) (x3 := ?x3) (y3 := ?y3) (x4 := ?x4) (y4 := ?y4) ?h1 ?h2 ?h3 ?h4 ?s1 ?s2 ?s3 ?s4 ?s5 ?s6 ?s7 ?s8 ?_); (case h1 => walk_at "fq"); (case h2 => walk_at "fq"); (case h3 => walk_at "fq"); (case h4 => walk_at "fq"); (case s1 => assumption); (case s2 => assumption); (case s3 => assumption); (case s4 => assumption); (case s5 => assumption); (case s6 => assumption); (case s7 => assumption); (case s8 => assumption); intro _ _ _ _)
  | ((with_reducible refine Mb.r_round (x1 := ?x1) (y1 := ?y1) (x2 := ?x2) (y2 := ?y2) (x3 := ?x3) (y3 := ?y3) (x4 := ?x4) (y4 := ?y4) (n1 := ?n1) (n2 := ?n2) (n3 := ?n3) (n4 := ?n4) (n5 := ?n5) (n6 := ?n6) (n7 := ?n7) (n8 := ?n8) ?h1 ?h2 ?h3 ?h4 ?s1 ?s2 ?s3 ?s4 ?s5 ?s6 ?s7 ?s8 ?l ?_); (case h1 => walk_at "fq"); (case h2 => walk_at "fq"); (case h3 => walk_at "fq"); (case h4 => walk_at "fq"); (case s1 => walk_at "sz"); (case s2 => walk_at "sz"); (case s3 => walk_at "sz"); (case s4 => walk_at "sz"); (case s5 => walk_at "sz"); (case s6 => walk_at "sz"); (case s7 => walk_at "sz"); (case s8 => walk_at "sz"); (case l => rfl); intro _ _ _ _)
  | ((with_reducible refine Mb.r_asFar (x1 := ?x1) (y1 := ?y1) (x2 := ?x2) (y2 := ?y2) (x3 := ?x3) (y3 := ?y3) (x4 := ?x4) (y4 := ?y4) (n1 := ?n1) (n2 := ?n2) (n3 := ?n3) (n4 := ?n4) (n5 := ?n5) (n6 := ?n6) (n7 := ?n7) (n8 := ?n8) ?h1 ?h2 ?h3 ?h4 ?s1 ?s2 ?s3 ?s4 ?s5 ?s6 ?s7 ?s8 ?l ?_); (case h1 => walk_at "fq"); (case h2 => walk_at "fq"); (case h3 => walk_at "fq"); (case h4 => walk_at "fq"); (case s1 => walk_at "sz"); (case s2 => walk_at "sz"); (case s3 => walk_at "sz"); (case s4 => walk_at "sz"); (case s5 => walk_at "sz"); (case s6 => walk_at "sz"); (case s7 => walk_at "sz"); (case s8 => walk_at "sz"); (case l => rfl); intro _ _ _ _))
local macro_rules | `(tactic| walk_at "iv") => `(tactic| first
  | assumption
  | ((with_reducible refine Mb.Iv.mk ?ga); (case ga => assumption))
  | ((with_reducible refine Mb.Lq.iv (c := ?cc) ?ga); (case ga => walk_at "lq"))
  | ((with_reducible refine Mb.Iv.up (H := ?HH) ?ga ?gb); (case gb => assumption); (case ga => walk_at "iv")))
local macro_rules | `(tactic| walk_at "c4") => `(tactic| first
  | walk_at "c3"
  | with_reducible refine Mb.r_seqP3 ?_
  | ((with_reducible refine Mb.r_par3 ?_); dsimp only [List.set])
  | ((with_reducible refine Mb.r_lthru (x := ?xx) (y := ?yy) (x' := ?xx2) (y' := ?yy2) (n1 := ?n1) (n2 := ?n2) (n3 := ?n3) (n4 := ?n4) ?h1 ?h2 ?s1 ?s2 ?s3 ?s4 ?l ?ne ?_); (case h1 => walk_at "fq"); (case h2 => walk_at "fq"); (case s1 => walk_at "sz"); (case s2 => walk_at "sz"); (case s3 => walk_at "sz"); (case s4 => walk_at "sz"); (case l => rfl); (case ne => assumption); intro _ _ _ _ _ _ _ _ _ _ _ _ _)
  | ((with_reducible refine Mb.r_beside (x := ?xx) (y := ?yy) (x' := ?xx2) (y' := ?yy2) (t := ?tt) ?h1 ?h2 ?h3 ?s1 ?s2 ?s3 ?s4 ?s5 ?_); (case h1 => walk_at "fq"); (case h2 => walk_at "fq"); (case h3 => walk_at "fq"); (case s1 => assumption); (case s2 => assumption); (case s3 => assumption); (case s4 => assumption); (case s5 => assumption); intro _ _ _ _)
  | ((with_reducible refine Mb.r_off (x := ?xx) (y := ?yy) (t := ?tt) (m := ?mm) (n := ?nn) (n1 := ?n1) (n2 := ?n2) (n3 := ?n3) (n4 := ?n4) (n5 := ?n5) ?h1 ?h2 ?h3 ?s1 ?s2 ?s3 ?l ?s4 ?s5 ?l2 ?_); (case h1 => walk_at "fq"); (case h2 => walk_at "iv"); (case h3 => walk_at "fq"); (case s1 => walk_at "sz"); (case s2 => walk_at "sz"); (case s3 => walk_at "sz"); (case l => rfl); (case s4 => walk_at "sm"); (case s5 => walk_at "sm"); (case l2 => rfl); intro _ _ _ _)
  | ((with_reducible refine Mb.r_labout (x := ?xx) (y := ?yy) (x' := ?xx2) (y' := ?yy2) (n1 := ?n1) (n2 := ?n2) (n3 := ?n3) (n4 := ?n4) ?h1 ?h2 ?s1 ?s2 ?s3 ?s4 ?l ?_); (case h1 => walk_at "fq"); (case h2 => walk_at "fq"); (case s1 => assumption); (case s2 => assumption); (case s3 => walk_at "sz"); (case s4 => walk_at "sz"); (case l => rfl); intro _ _ _ _)
  | ((with_reducible refine Mb.r_ixI0 (m := ?mm) (n := ?nn) ?h ?_); (case h => walk_at "iv"))
  | ((with_reducible refine Mb.r_ixI1 (m := ?mm) (n := ?nn) ?h ?_); (case h => walk_at "iv")))
local macro_rules | `(tactic| walk_at "v47") => `(tactic| first
  | ((with_reducible refine Mb.r_wide (n := ?nn) (m := 47) ?hp ?l ?i0 ?im ?_); (case hp => walk_at "sr"); (case l => decide); (case i0 => decide); (case im => decide +kernel); intro _ _ _ _ _ _ _)
  | ((with_reducible refine Mb.r_wideNearI (n := ?nn) (m := 47) (x := ?xx) (y := ?yy) ?hp ?l ?i0 ?im ?hw ?sx ?sy ?_); (case hp => walk_at "sr"); (case l => decide); (case i0 => decide); (case im => decide +kernel); (case hw => walk_at "fq"); (case sx => assumption); (case sy => assumption); intro _ _ _ _ _ _ _ _ _)
  | walk_at "w")
section
variable {P : Program} {w : World} {K : PySem.W.Frag} {mg : Str → Option Value} {base : Heap}
theorem ok_common_divisor (F : Fn K mg "common_divisor" s_common_divisor) (z_abs : mg "abs" = none) : Kn P w K mg base 1 "common_divisor" ["one", "other"] spGcd := by
  refine Mb.ofW ?_
  simp (discharger := with_unfolding_all
    refine F.kn sc_common_divisor (fun vs H Q E h => ?_) (fun f cdv A outer s H vs Q E hr h => ?_) (fun _ _ _ _ _ _ us hl => match us, hl with | [_, _], _ => rfl)
    · obtain ⟨a, b, rfl, _⟩ := h
      rfl
    obtain ⟨a, b, rfl, q⟩ := h
    refine ⟨_, (pss_cons (ps_par (by rfl) sc_common_divisor.nd (i := 0) (j := 1) rfl rfl (by decide) rfl rfl (pa_cons (pe_callB call_abs (by rfl) z_abs (by decide +kernel) (pa_cons (pv 0) pa_nil)) (pa_cons (pe_callB call_abs (by rfl) z_abs (by decide +kernel) (pa_cons (pv 1) pa_nil)) pa_nil)) (by rfl))
      (pss_cons (ps_while PassesOwn.never (pt_cmpR op_ne (pv 1) pe_int (nomark _))
      (pss_one (ps_par (by rfl) sc_common_divisor.nd (i := 0) (j := 1) rfl rfl (by decide) rfl rfl (pa_cons (pv 1) (pa_cons (pe_op op_mod (pv 0) (pv 1)) pa_nil)) (by rfl))))
      (pss_one (ps_ret (pv 0))))), ?_⟩
    show (_ : TS) _ [some (.int a), some (.int b)] _
    repeat walk_at "st"
    refine ⟨a, rfl, ?_⟩
    repeat walk_at "st"
    refine ⟨b, rfl, ?_⟩
    repeat walk_at "st"
    refine r_seq ?_
    refine r_while (fun σ H' => H' = H ∧ ∃ x y : Int, σ = [some (.int x), some (.int y)] ∧ 0 ≤ x ∧ 0 ≤ y ∧ Int.gcd x y = Int.gcd a b) (fun σ _ => match σ with | [_, some (.int y)] => y.toNat | _ => 0) ?_ ?_
    · refine ⟨rfl, _, _, rfl, ?_, ?_, ?_⟩
      · split <;> omega
      · split <;> omega
      · split <;> split <;> simp only [Int.neg_gcd, Int.gcd_neg]
    · rintro σ H' ⟨rfl, x, y, rfl, hx, hy, hg⟩
      repeat walk_at "st"
      refine r_iteN (fun c => ?_) (fun c => ?_)
      · refine r_turn ?_
        repeat walk_at "st"
        have e1 := Int.emod_nonneg x (show y ≠ 0 by omega)
        have e2 := Int.emod_lt_of_pos x (show 0 < y by omega)
        refine ⟨⟨rfl, y, x % y, rfl, hy, e1, by rw [gcd_step hx (by omega), hg]⟩, ?_⟩
        show (x % y).toNat < y.toNat
        omega
      · subst c
        repeat walk_at "st"
        have g : (Int.gcd x 0 : Int) = x := by rw [Int.gcd_zero]; omega
        rw [hg] at g
        show Q (.int x) _
        rw [← g]
        exact q
  ) only [↓Mb.dischW]
theorem ok_whole_root (F : Fn K mg "whole_root" s_whole_root) : Kn P w K mg base 1 "whole_root" ["number"] spIsqrt := by
  refine Mb.ofW ?_
  simp (discharger := with_unfolding_all
    refine F.kn sc_whole_root (fun vs H Q E h => ?_) (fun f cdv A outer s H vs Q E hr h => ?_) (fun _ _ _ _ _ _ us hl => match us, hl with | [_], _ => rfl)
    · obtain ⟨n, rfl, _⟩ := h
      rfl
    obtain ⟨n, rfl, n0, sn, q⟩ := h
    refine ⟨_, (pss_cons (ps_set (i := 1) sc_whole_root.nd rfl (.inl rfl) (pe_op op_shl pe_int (pe_op op_fdivW (pe_op op_add (pe_bits (pv 0)) pe_int) pe_int)))
      (pss_cons (ps_while PassesOwn.never (pt_cmpR op_gt (pe_op op_mulW (pv 1) (pv 1)) (pv 0) (nomark _))
      (pss_one (ps_set (i := 1) sc_whole_root.nd rfl (.inl rfl) (pe_op op_fdivW (pe_op op_add (pv 1) (pe_op op_fdivW (pv 0) (pv 1))) pe_int))))
      (pss_one (ps_ret (pv 1))))), ?_⟩
    show (_ : TS) _ [some (.int n), none] _
    have hb : Builtin.Int.intBits n ≤ 16000 := PyProof.Rows.intBits_le sn
    repeat walk_at "st"
    have e0 : (0 : Int) ≤ ((Builtin.Int.intBits n : Nat) + 1) / 2 := by omega
    refine r_i ⟨e0, by omega, by decide⟩ ?_
    repeat walk_at "st"
    refine r_seq ?_
    have he : Builtin.Int.intBits n ≤ 2 * ((((Builtin.Int.intBits n : Nat) : Int) + 1) / 2).toNat := by omega
    have he2 : ((((Builtin.Int.intBits n : Nat) : Int) + 1) / 2).toNat ≤ 8000 := by omega
    generalize ((((Builtin.Int.intBits n : Nat) : Int) + 1) / 2).toNat = e at he he2
    have hG := guess_above n0 he
    have sG : Sm 8001 ((2 : Int) ^ e) := by
      have : ((2 : Int) ^ e).natAbs = 2 ^ e := by rw [Int.natAbs_pow]; rfl
      unfold Sm
      rw [this]
      exact Nat.pow_lt_pow_right (by decide) (by omega)
    have pG : 0 < (2 : Int) ^ e := Int.pow_pos (by decide)
    rw [Int.one_mul]
    refine r_while (fun σ H' => H' = H ∧ ∃ g : Int, σ = [some (.int n), some (.int g)] ∧ 0 ≤ g ∧ Sm 8001 g ∧ ∀ k, 0 ≤ k → k * k ≤ n → k ≤ g) (fun σ _ => match σ with | [_, some (.int g)] => g.toNat | _ => 0) ?_ ?_
    · exact ⟨rfl, _, rfl, by omega, sG, hG⟩
    · rintro σ H' ⟨rfl, g, rfl, g0, sg, mx⟩
      repeat walk_at "st"
      refine r_ite (fun c => ?_) (fun c => ?_)
      · have gp : 0 < g := by
          by_cases z : g = 0
          · subst z
            simp at c
            omega
          · omega
        obtain ⟨l1, l2⟩ := newton_lt n0 gp c
        refine r_turn ?_
        repeat walk_at "st"
        refine r_i (Sm.cdiv gp sg) ?_
        repeat walk_at "st"
        refine ⟨⟨rfl, _, rfl, l2, sg.le (by omega), newton gp mx⟩, ?_⟩
        show ((g + n / g) / 2).toNat < g.toNat
        omega
      · repeat walk_at "st"
        exact q g g0 (by omega) mx
  ) only [↓Mb.dischW]
theorem ok_root (F : Fn K mg "root" s_root) (G_whole_root : Kn P w K mg base 1 "whole_root" ["number"] spIsqrt) : Kn P w K mg base 2 "root" ["one"] (spRoot K) := by
  refine Mb.ofW ?_
  simp (discharger := with_unfolding_all
    refine F.kn sc_root (fun vs H Q E h => ?_) (fun f cdv A outer s H vs Q E hr h => ?_) (fun _ _ _ _ _ _ us hl => match us, hl with | [_], _ => rfl)
    · obtain ⟨p, t, u, rfl, _⟩ := h
      rfl
    obtain ⟨p, t, u, rfl, hp, u0, st, su, q1, q2⟩ := h
    refine ⟨_, (pss_cons (ps_if (pt_cmpR op_lt (pe_ix ix_tup (pv 0) pe_int (fun _ _ => rfl)) pe_int (nomark _))
      (pss_one (ps_ret pe_non))
      pss_nil)
      (pss_cons (ps_set (i := 1) sc_root.nd rfl (.inl rfl) (pe_kn G_whole_root (hr.mono (by decide)) (by rfl) (pa_cons (pe_ix ix_tup (pv 0) pe_int (fun _ _ => rfl)) pa_nil)))
      (pss_cons (ps_set (i := 2) sc_root.nd rfl (.inl rfl) (pe_kn G_whole_root (hr.mono (by decide)) (by rfl) (pa_cons (pe_ix ix_tup (pv 0) pe_int (fun _ _ => rfl)) pa_nil)))
      (pss_cons (ps_if (PW.pt (pw_or (pt_cmpR op_ne (pe_op op_mulW (pv 1) (pv 1)) (pe_ix ix_tup (pv 0) pe_int (fun _ _ => rfl)) (nomark _)) (pw_or1 (pt_cmpR op_ne (pe_op op_mulW (pv 2) (pv 2)) (pe_ix ix_tup (pv 0) pe_int (fun _ _ => rfl)) (nomark _)))))
      (pss_one (ps_ret pe_non))
      pss_nil)
      (pss_one (ps_ret (pe_tup (pa_cons (pv 1) (pa_cons (pv 2) pa_nil))))))))), ?_⟩
    show (_ : TS) _ [some (.ref p), none, none] _
    refine r_seq ?_
    repeat walk_at "st"
    refine r_ite (fun c => ?_) (fun c => ?_)
    · repeat walk_at "st"
      exact q1 (.inl c)
    repeat walk_at "st"
    refine ⟨t, rfl, by omega, st, fun a a0 ha ma => ?_⟩
    repeat walk_at "st"
    refine ⟨u, rfl, by omega, su, fun b b0 hb mb => ?_⟩
    have sa := root_sm a0 ha st
    have sb := root_sm b0 hb su
    have ia := isq_iff a0 ha ma
    have ib := isq_iff b0 hb mb
    repeat walk_at "st"
    refine r_seq ?_
    repeat walk_at "st"
    refine r_iteN (fun c1 => ?_) (fun c1 => ?_)
    · repeat walk_at "st"
      exact q1 (.inr (.inl (fun z => c1 (ia.mpr z))))
    repeat walk_at "st"
    refine r_iteN (fun c2 => ?_) (fun c2 => ?_)
    · repeat walk_at "st"
      exact q1 (.inr (.inr (fun z => c2 (ib.mpr z))))
    repeat walk_at "st"
    refine ⟨sz rfl, fun r hr => ?_⟩
    exact q2 a b r _ a0 b0 c1 c2 (same_new hr _) upd_same
  ) only [↓Mb.dischW]
theorem ok_fraction (F : Fn K mg "fraction" s_fraction) (G_common_divisor : Kn P w K mg base 1 "common_divisor" ["one", "other"] spGcd) : Kn P w K mg base 2 "fraction" ["top", "bottom"] spLow := by
  refine Mb.ofW ?_
  simp (discharger := with_unfolding_all
    refine F.kn sc_fraction (fun vs H Q E h => ?_) (fun f cdv A outer s H vs Q E hr h => ?_) (fun _ _ _ _ _ _ us hl => match us, hl with | [_, _], _ => rfl)
    · obtain ⟨t, b, rfl, _⟩ := h
      rfl
    obtain ⟨t, b, rfl, hb, sb, q⟩ := h
    refine ⟨_, (pss_cons (ps_if (pt_cmpR op_eq (pv 1) pe_int (nomark _))
      (pss_one ps_never)
      pss_nil)
      (pss_cons (ps_set (i := 2) sc_fraction.nd rfl (.inl rfl) (pe_kn G_common_divisor (hr.mono (by decide)) (by rfl) (pa_cons (pv 0) (pa_cons (pv 1) pa_nil))))
      (pss_cons (ps_if (pt_cmpR op_lt (pv 1) pe_int (nomark _))
      (pss_one (ps_set (i := 2) sc_fraction.nd rfl (.inl rfl) (pe_un un_neg (pv 2))))
      pss_nil)
      (pss_one (ps_ret (pe_tup (pa_cons (pe_op op_fdivZ (pv 0) (pv 2)) (pa_cons (pe_op op_fdivZ (pv 1) (pv 2)) pa_nil)))))))), ?_⟩
    show (_ : TS) _ [some (.int t), some (.int b), none] _
    have g0 := gcd_pos (t := t) hb
    have gs : Sm 8000 (Int.gcd t b : Int) := gcd_sm hb sb
    refine r_seq ?_
    repeat walk_at "st"
    refine r_ite (fun c => absurd c hb) (fun c => ?_)
    repeat walk_at "st"
    refine ⟨_, _, rfl, ?_⟩
    repeat walk_at "st"
    refine r_cut (fun σ H' => σ = [some (.int t), some (.int b), some (.int (if decide (b < 0) then -(Int.gcd t b : Int) else (Int.gcd t b : Int)))] ∧ H' = H) ?_ (fun N J => ?_)
    · rintro σ H' ⟨rfl, rfl⟩
      have cd : ∀ i : Int, CDivZ i (if decide (b < 0) then -(Int.gcd t b : Int) else (Int.gcd t b : Int)) := fun i => by
        split
        · exact cdivZ (by omega) gs.neg (by decide) (by decide)
        · exact cdivZ (by omega) gs (by decide) (by decide)
      repeat walk_at "st"
      refine r_i (cd _) ?_
      repeat walk_at "st"
      refine r_i (cd _) ?_
      repeat walk_at "st"
      refine ⟨sz rfl, fun p hp => ?_⟩
      refine q p _ (same_new hp _) hp ?_
      rw [upd_same, fdiv_exact (Int.gcd_dvd_left t b), fdiv_exact (Int.gcd_dvd_right t b)]
      unfold lowT lowB
      simp only [decide_eq_true_eq]
    · repeat walk_at "st"
      refine r_ite (fun c => ?_) (fun c => ?_)
      · repeat walk_at "st"
        exact J _ _ ⟨by simp [c], rfl⟩
      · repeat walk_at "st"
        exact J _ _ ⟨by simp [c], rfl⟩
  ) only [↓Mb.dischW]
theorem ok_plus (F : Fn K mg "plus" s_plus) (G_fraction : Kn P w K mg base 2 "fraction" ["top", "bottom"] spLow) : Kn P w K mg base 3 "plus" ["one", "other"] (spArith K (fun x y u v => x * v + u * y) (fun x y u v => y * v)) := by
  refine Mb.ofW ?_
  simp (discharger := with_unfolding_all
    refine F.kn sc_plus (fun vs H Q E h => ?_) (fun f cdv A outer s H vs Q E hr h => ?_) (fun _ _ _ _ _ _ us hl => match us, hl with | [_, _], _ => rfl)
    · obtain ⟨a, b, x, y, u, v, _, _, rfl, _⟩ := h
      rfl
    obtain ⟨a, b, x, y, u, v, n, m, rfl, h1, h2, s1, s2, s3, s4, l, nb, q⟩ := h
    have t1 : Sm 8000 x := s1.mono (by omega)
    have t2 : Sm 8000 y := s2.mono (by omega)
    have t3 : Sm 8000 u := s3.mono (by omega)
    have t4 : Sm 8000 v := s4.mono (by omega)
    refine ⟨_, (pss_one (ps_ret (pe_kn G_fraction (hr.mono (by decide)) (by rfl) (pa_cons (pe_op op_add (pe_op op_mulW (pe_ix ix_tup (pv 0) pe_int (fun _ _ => rfl)) (pe_ix ix_tup (pv 1) pe_int (fun _ _ => rfl))) (pe_op op_mulW (pe_ix ix_tup (pv 1) pe_int (fun _ _ => rfl)) (pe_ix ix_tup (pv 0) pe_int (fun _ _ => rfl)))) (pa_cons (pe_op op_mulW (pe_ix ix_tup (pv 0) pe_int (fun _ _ => rfl)) (pe_ix ix_tup (pv 1) pe_int (fun _ _ => rfl))) pa_nil))))), ?_⟩
    show (_ : TS) _ [some (.ref a), some (.ref b)] _
    repeat walk_at "st"
    exact ⟨_, _, rfl, nb, (Sm.mul s2 s4).mono l, q⟩
  ) only [↓Mb.dischW]
theorem ok_minus (F : Fn K mg "minus" s_minus) (G_fraction : Kn P w K mg base 2 "fraction" ["top", "bottom"] spLow) : Kn P w K mg base 3 "minus" ["one", "other"] (spArith K (fun x y u v => x * v - u * y) (fun x y u v => y * v)) := by
  refine Mb.ofW ?_
  simp (discharger := with_unfolding_all
    refine F.kn sc_minus (fun vs H Q E h => ?_) (fun f cdv A outer s H vs Q E hr h => ?_) (fun _ _ _ _ _ _ us hl => match us, hl with | [_, _], _ => rfl)
    · obtain ⟨a, b, x, y, u, v, _, _, rfl, _⟩ := h
      rfl
    obtain ⟨a, b, x, y, u, v, n, m, rfl, h1, h2, s1, s2, s3, s4, l, nb, q⟩ := h
    have t1 : Sm 8000 x := s1.mono (by omega)
    have t2 : Sm 8000 y := s2.mono (by omega)
    have t3 : Sm 8000 u := s3.mono (by omega)
    have t4 : Sm 8000 v := s4.mono (by omega)
    refine ⟨_, (pss_one (ps_ret (pe_kn G_fraction (hr.mono (by decide)) (by rfl) (pa_cons (pe_op op_sub (pe_op op_mulW (pe_ix ix_tup (pv 0) pe_int (fun _ _ => rfl)) (pe_ix ix_tup (pv 1) pe_int (fun _ _ => rfl))) (pe_op op_mulW (pe_ix ix_tup (pv 1) pe_int (fun _ _ => rfl)) (pe_ix ix_tup (pv 0) pe_int (fun _ _ => rfl)))) (pa_cons (pe_op op_mulW (pe_ix ix_tup (pv 0) pe_int (fun _ _ => rfl)) (pe_ix ix_tup (pv 1) pe_int (fun _ _ => rfl))) pa_nil))))), ?_⟩
    show (_ : TS) _ [some (.ref a), some (.ref b)] _
    repeat walk_at "st"
    exact ⟨_, _, rfl, nb, (Sm.mul s2 s4).mono l, q⟩
  ) only [↓Mb.dischW]
theorem ok_between (F : Fn K mg "between" s_between) (G_fraction : Kn P w K mg base 2 "fraction" ["top", "bottom"] (spFrQ K)) : Kn P w K mg base 3 "between" ["start", "end", "t"] (spBetweenJ K) := by
  refine Mb.ofW ?_
  simp (discharger := with_unfolding_all
    refine F.kn sc_between (fun vs H Q E h => ?_) (fun f cdv A outer s H vs Q E hr h => ?_) (fun _ _ _ _ _ _ us hl => match us, hl with | [_, _, _], _ => rfl)
    · obtain ⟨v, w, u, x, x', t, n, m, k, rfl, _⟩ := h
      rfl
    obtain ⟨v, w, u, x, x', t, n, m, k, rfl, ⟨a, rfl, h1⟩, ⟨b, rfl, h2⟩, ⟨c, rfl, h3⟩, s1, s2, s3, l1, l2, q⟩ := h
    have t1 : Sm 7400 x.num := s1.t.mono (by omega)
    have t2 : Sm 7400 (x.den : Int) := s1.b.mono (by omega)
    have t3 : Sm 7400 x'.num := s2.t.mono (by omega)
    have t4 : Sm 7400 (x'.den : Int) := s2.b.mono (by omega)
    have t5 : Sm 500 t.num := s3.t.mono (by omega)
    have t6 : Sm 500 (t.den : Int) := s3.b.mono (by omega)
    refine ⟨_, (pss_cons (ps_set (i := 3) sc_between.nd rfl (.inl rfl) (pe_op op_mulW (pe_ix ix_tup (pv 0) pe_int (fun _ _ => rfl)) (pe_ix ix_tup (pv 1) pe_int (fun _ _ => rfl))))
      (pss_cons (ps_set (i := 4) sc_between.nd rfl (.inl rfl) (pe_op op_mulW (pe_ix ix_tup (pv 1) pe_int (fun _ _ => rfl)) (pe_ix ix_tup (pv 0) pe_int (fun _ _ => rfl))))
      (pss_one (ps_ret (pe_kn G_fraction (hr.mono (by decide)) (by rfl) (pa_cons (pe_op op_add (pe_op op_mulW (pv 3) (pe_ix ix_tup (pv 2) pe_int (fun _ _ => rfl))) (pe_op op_mulW (pe_ix ix_tup (pv 2) pe_int (fun _ _ => rfl)) (pe_op op_sub (pv 4) (pv 3)))) (pa_cons (pe_op op_mulW (pe_op op_mulW (pe_ix ix_tup (pv 0) pe_int (fun _ _ => rfl)) (pe_ix ix_tup (pv 1) pe_int (fun _ _ => rfl))) (pe_ix ix_tup (pv 2) pe_int (fun _ _ => rfl))) pa_nil))))))), ?_⟩
    show (_ : TS) _ [some (.ref a), some (.ref b), some (.ref c), none, none] _
    repeat walk_at "st"
    refine ⟨_, _, x + t * (x' - x), rfl, Int.mul_ne_zero (Int.mul_ne_zero (den_ne x) (den_ne x')) (den_ne t), ((Sm.mul (Sm.mul s1.b s2.b) s3.b).mono (by omega)), ?_, q⟩
    have e1 := hden x
    have e2 := hden x'
    have e3 := hden t
    simp only [Rat.intCast_add, Rat.intCast_mul, Rat.intCast_sub]
    grind
  ) only [↓Mb.dischW]
theorem ok_share (F : Fn K mg "share" s_share) (G_between : Kn P w K mg base 3 "between" ["start", "end", "t"] (spBetweenJ K)) : Kn P w K mg base 4 "share" ["p", "q", "t"] (spShareJ K) := by
  refine Mb.ofW ?_
  simp (discharger := with_unfolding_all
    refine F.kn sc_share (fun vs H Q E h => ?_) (fun f cdv A outer s H vs Q E hr h => ?_) (fun _ _ _ _ _ _ us hl => match us, hl with | [_, _, _], _ => rfl)
    · obtain ⟨v, w, u, x, y, x', y', t, n, m, k, rfl, _⟩ := h
      rfl
    obtain ⟨v, w, u, x, y, x', y', t, n, m, k, rfl, h1, h2, h3, s1, s2, s3, s4, s5, l, l2, q⟩ := h
    refine ⟨_, (pss_one (ps_ret (pe_tup (pa_cons (pe_kn G_between (hr.mono (by decide)) (by rfl) (pa_cons (pe_ix ix_tup (pv 0) pe_int (fun _ _ => rfl)) (pa_cons (pe_ix ix_tup (pv 1) pe_int (fun _ _ => rfl)) (pa_cons (pv 2) pa_nil)))) (pa_cons (pe_kn G_between (hr.mono (by decide)) (by rfl) (pa_cons (pe_ix ix_tup (pv 0) pe_int (fun _ _ => rfl)) (pa_cons (pe_ix ix_tup (pv 1) pe_int (fun _ _ => rfl)) (pa_cons (pv 2) pa_nil)))) pa_nil))))), ?_⟩
    show (_ : TS) _ [some v, some w, some u] _
    repeat walk_at "q"
    refine r_betweenJ (by walk_at "fq") (by walk_at "fq") (by walk_at "fq") s1 s3 s5 l l2 (fun r1 H1 g1 k1 => ?_)
    repeat walk_at "q"
    refine r_betweenJ (by walk_at "fq") (by walk_at "fq") (by walk_at "fq") s2 s4 s5 l l2 (fun r2 H2 g2 k2 => ?_)
    repeat walk_at "q"
    refine q _ _ (by walk_at "same") ?_
    walk_at "fin"
  ) only [↓Mb.dischW]
theorem ok_middle (F : Fn K mg "middle" s_middle) (G_share : Kn P w K mg base 4 "share" ["p", "q", "t"] (spShareJ K)) : Kn P w K mg base 5 "middle" ["p", "q"] (spP2J K (fun x y x2 y2 => (x + x2) / 2) (fun x y x2 y2 => (y + y2) / 2)) := by
  refine F.kn sc_middle (fun vs H Q E h => ?_) (fun f cdv A outer s H vs Q E hr h => ?_) (fun _ _ _ _ _ _ us hl => match us, hl with | [_, _], _ => rfl)
  · obtain ⟨v, w, x, y, x', y', n, m, rfl, _⟩ := h
    rfl
  obtain ⟨v, w, x, y, x', y', n, m, rfl, h1, h2, s1, s2, s3, s4, l, q⟩ := h
  refine ⟨_, (pss_one (ps_ret (pe_kn G_share (hr.mono (by decide)) (by rfl) (pa_cons (pv 0) (pa_cons (pv 1) (pa_cons (pe_tup (pa_cons pe_int (pa_cons pe_int pa_nil))) pa_nil)))))), ?_⟩
  show (_ : TS) _ [some v, some w] _
  repeat walk_at "q"
  refine ⟨_, _, _, x, y, x', y', (1 / 2 : Rat), n, m, 8, rfl, by walk_at "fq", by walk_at "fq", Fq.half (by assumption), s1, s2, s3, s4, Sz.lit (by decide +kernel) (by decide +kernel), l, by decide, fun r H' g k => ?_⟩
  refine q _ _ (by walk_at "same") ?_
  walk_at "fin"
theorem ok_beyond (F : Fn K mg "beyond" s_beyond) (G_share : Kn P w K mg base 4 "share" ["p", "q", "t"] (spShareJ K)) : Kn P w K mg base 5 "beyond" ["p", "q"] (spP2J K (fun x y x2 y2 => x2 + x2 - x) (fun x y x2 y2 => y2 + y2 - y)) := by
  refine F.kn sc_beyond (fun vs H Q E h => ?_) (fun f cdv A outer s H vs Q E hr h => ?_) (fun _ _ _ _ _ _ us hl => match us, hl with | [_, _], _ => rfl)
  · obtain ⟨v, w, x, y, x', y', n, m, rfl, _⟩ := h
    rfl
  obtain ⟨v, w, x, y, x', y', n, m, rfl, h1, h2, s1, s2, s3, s4, l, q⟩ := h
  refine ⟨_, (pss_one (ps_ret (pe_kn G_share (hr.mono (by decide)) (by rfl) (pa_cons (pv 0) (pa_cons (pv 1) (pa_cons (pe_tup (pa_cons pe_int (pa_cons pe_int pa_nil))) pa_nil)))))), ?_⟩
  show (_ : TS) _ [some v, some w] _
  repeat walk_at "q"
  refine ⟨_, _, _, x, y, x', y', (2 : Rat), n, m, 8, rfl, by walk_at "fq", by walk_at "fq", Fq.two (by assumption), s1, s2, s3, s4, Sz.lit (by decide +kernel) (by decide +kernel), l, by decide, fun r H' g k => ?_⟩
  refine q _ _ (by walk_at "same") ?_
  walk_at "fin"
theorem ok_turned (F : Fn K mg "turned" s_turned) (G_plus : Kn P w K mg base 3 "plus" ["one", "other"] (spQ2 K (fun _ _ => True) (· + ·))) (G_minus : Kn P w K mg base 3 "minus" ["one", "other"] (spQ2 K (fun _ _ => True) (· - ·))) : Kn P w K mg base 4 "turned" ["p", "q"] (spP2 K (fun x y x2 y2 => x2 - (y - y2)) (fun x y x2 y2 => y2 + (x - x2))) := by
  refine Mb.ofW ?_
  simp (discharger := with_unfolding_all
    refine F.kn sc_turned (fun vs H Q E h => ?_) (fun f cdv A outer s H vs Q E hr h => ?_) (fun _ _ _ _ _ _ us hl => match us, hl with | [_, _], _ => rfl)
    · obtain ⟨v, w, x, y, x', y', n, m, rfl, _⟩ := h
      rfl
    obtain ⟨v, w, x, y, x', y', n, m, rfl, h1, h2, s1, s2, s3, s4, l, q⟩ := h
    have u1 : Sz 3801 (x - x') := (s1.sub s3).mono (by omega)
    have u2 : Sz 3801 (y - y') := (s2.sub s4).mono (by omega)
    replace s1 : Sz 3800 x := s1.mono (by omega)
    replace s2 : Sz 3800 y := s2.mono (by omega)
    replace s3 : Sz 3800 x' := s3.mono (by omega)
    replace s4 : Sz 3800 y' := s4.mono (by omega)
    refine ⟨_, (pss_cons (ps_set (i := 2) sc_turned.nd rfl (.inl rfl) (pe_kn G_minus (hr.mono (by decide)) (by rfl) (pa_cons (pe_ix ix_tup (pv 0) pe_int (fun _ _ => rfl)) (pa_cons (pe_ix ix_tup (pv 1) pe_int (fun _ _ => rfl)) pa_nil))))
      (pss_cons (ps_set (i := 3) sc_turned.nd rfl (.inl rfl) (pe_kn G_minus (hr.mono (by decide)) (by rfl) (pa_cons (pe_ix ix_tup (pv 0) pe_int (fun _ _ => rfl)) (pa_cons (pe_ix ix_tup (pv 1) pe_int (fun _ _ => rfl)) pa_nil))))
      (pss_one (ps_ret (pe_tup (pa_cons (pe_kn G_minus (hr.mono (by decide)) (by rfl) (pa_cons (pe_ix ix_tup (pv 1) pe_int (fun _ _ => rfl)) (pa_cons (pv 3) pa_nil))) (pa_cons (pe_kn G_plus (hr.mono (by decide)) (by rfl) (pa_cons (pe_ix ix_tup (pv 1) pe_int (fun _ _ => rfl)) (pa_cons (pv 2) pa_nil))) pa_nil))))))), ?_⟩
    show (_ : TS) _ [some v, some w, none, none] _
    repeat walk_at "q"
    refine q _ _ (by walk_at "same") ?_
    walk_at "fin"
  ) only [↓Mb.dischW]
theorem ok_cleared (F : Fn K mg "cleared" s_cleared) (G_common_divisor : Kn P w K mg base 1 "common_divisor" ["one", "other"] spGcd) : Kn P w K mg base 2 "cleared" ["p"] (spClearedJ K) := by
  refine Mb.ofW ?_
  simp (discharger := with_unfolding_all
    refine F.kn sc_cleared (fun vs H Q E h => ?_) (fun f cdv A outer s H vs Q E hr h => ?_) (fun _ _ _ _ _ _ us hl => match us, hl with | [_], _ => rfl)
    · obtain ⟨v, x, y, n, rfl, _⟩ := h
      rfl
    obtain ⟨v, x, y, n, rfl, h1, J, l, q⟩ := h
    have s1 := J.x
    have s2 := J.y
    have t1 : Sm 7600 x.num := s1.t.mono (by omega)
    have t2 : Sm 7600 (x.den : Int) := s1.b.mono (by omega)
    have t3 : Sm 7600 y.num := s2.t.mono (by omega)
    have t4 : Sm 7600 (y.den : Int) := s2.b.mono (by omega)
    refine ⟨_, (pss_cons (ps_asg (pv 0) (pg_tup (by rfl) (pgs_cons (pg_tup (by rfl) (pgs_cons (pg_name (i := 1) sc_cleared.nd rfl (.inl rfl)) (pgs_cons (pg_name (i := 2) sc_cleared.nd rfl (.inl rfl)) pgs_nil))) (pgs_cons (pg_tup (by rfl) (pgs_cons (pg_name (i := 3) sc_cleared.nd rfl (.inl rfl)) (pgs_cons (pg_name (i := 4) sc_cleared.nd rfl (.inl rfl)) pgs_nil))) pgs_nil))))
      (pss_cons (ps_set (i := 5) sc_cleared.nd rfl (.inl rfl) (pe_kn G_common_divisor (hr.mono (by decide)) (by rfl) (pa_cons (pv 2) (pa_cons (pv 4) pa_nil))))
      (pss_one (ps_ret (pe_tup (pa_cons (pe_op op_mulW (pv 1) (pe_op op_fdivW (pv 4) (pv 5))) (pa_cons (pe_op op_mulW (pv 3) (pe_op op_fdivW (pv 2) (pv 5))) (pa_cons (pe_op op_mulW (pe_op op_fdivW (pv 2) (pv 5)) (pv 4)) pa_nil)))))))), ?_⟩
    show (_ : TS) _ [some v, none, none, none, none, none] _
    obtain ⟨g, dx, dy, eg, g0, gs, ex, ey, fx, fy, px, py⟩ := gcd_quot (den_pos x) (den_pos y) t2
    have zx : Sm n dx := sm_quot (by omega) ex s1.b
    have zy : Sm n dy := sm_quot (by omega) ey s2.b
    have wx : Sm 7600 dx := zx.mono (by omega)
    have wy : Sm 7600 dy := zy.mono (by omega)
    repeat walk_at "g"
    refine ⟨_, _, rfl, ?_⟩
    rw [eg]
    repeat walk_at "g"
    refine r_i (Sm.cdiv g0 gs) ?_
    rw [fy]
    repeat walk_at "g"
    refine r_i (Sm.cdiv g0 gs) ?_
    rw [fx]
    repeat walk_at "g"
    refine r_i (Sm.cdiv g0 gs) ?_
    rw [fx]
    repeat walk_at "g"
    have hx := hden x
    have hy := hden y
    have cx := congrArg (Int.cast (R := Rat)) ex
    have cy := congrArg (Int.cast (R := Rat)) ey
    simp only [Rat.intCast_mul] at cx cy
    obtain ⟨X0, Y0, D0, d0, eX, eY, j1, j2, j3⟩ := J
    have dv := clear_dvd eg g0 ex (den_dvd eX) (den_dvd eY)
    have q1 : ((x.num * dy : Int) : Rat) = x * ((dx * y.den : Int) : Rat) := by
      simp only [Rat.intCast_mul]
      grind
    have q2 : ((y.num * dx : Int) : Rat) = y * ((dx * y.den : Int) : Rat) := by
      simp only [Rat.intCast_mul]
      grind
    exact q _ _ (x.num * dy) (y.num * dx) (dx * y.den) (by walk_at "same") (by walk_at "lq") (Int.mul_pos px (den_pos y)) q1 q2 (clear_sm dv d0 q1 eX j1) (clear_sm dv d0 q2 eY j2) (dvd_sm dv d0 j3)
  ) only [↓Mb.dischW]
theorem ok_way (F : Fn K mg "way" s_way) (G_cleared : Kn P w K mg base 2 "cleared" ["p"] (spClearedJ K)) : Kn P w K mg base 3 "way" ["p", "q"] (spWayJ K) := by
  refine Mb.ofW ?_
  simp (discharger := with_unfolding_all
    refine F.kn sc_way (fun vs H Q E h => ?_) (fun f cdv A outer s H vs Q E hr h => ?_) (fun _ _ _ _ _ _ us hl => match us, hl with | [_, _], _ => rfl)
    · obtain ⟨v, w, x, y, x', y', n, m, rfl, _⟩ := h
      rfl
    obtain ⟨v, w, x, y, x', y', n, m, rfl, h1, h2, J1, J2, l1, l2, q⟩ := h
    refine ⟨_, (pss_cons (ps_asg (pe_kn G_cleared (hr.mono (by decide)) (by rfl) (pa_cons (pv 0) pa_nil)) (pg_tup (by rfl) (pgs_cons (pg_name (i := 2) sc_way.nd rfl (.inl rfl)) (pgs_cons (pg_name (i := 3) sc_way.nd rfl (.inl rfl)) (pgs_cons (pg_name (i := 4) sc_way.nd rfl (.inl rfl)) pgs_nil)))))
      (pss_cons (ps_asg (pe_kn G_cleared (hr.mono (by decide)) (by rfl) (pa_cons (pv 1) pa_nil)) (pg_tup (by rfl) (pgs_cons (pg_name (i := 5) sc_way.nd rfl (.inl rfl)) (pgs_cons (pg_name (i := 6) sc_way.nd rfl (.inl rfl)) (pgs_cons (pg_name (i := 7) sc_way.nd rfl (.inl rfl)) pgs_nil)))))
      (pss_one (ps_ret (pe_tup (pa_cons (pe_op op_sub (pe_op op_mulW (pv 5) (pv 4)) (pe_op op_mulW (pv 2) (pv 7))) (pa_cons (pe_op op_sub (pe_op op_mulW (pv 6) (pv 4)) (pe_op op_mulW (pv 3) (pv 7))) (pa_cons (pe_op op_mulW (pv 4) (pv 7)) pa_nil)))))))), ?_⟩
    show (_ : TS) _ [some v, some w, none, none, none, none, none, none] _
    repeat walk_at "g"
    refine ⟨_, x, y, n, rfl, h1, J1, by omega, fun r1 H1 X Y W g1 k1 w1 ex ey a1 a2 a3 => ?_⟩
    have b1 : Sm 7600 X := a1.mono (by omega)
    have b2 : Sm 7600 Y := a2.mono (by omega)
    have b3 : Sm 7600 W := a3.mono (by omega)
    repeat walk_at "g"
    refine ⟨_, x', y', m, rfl, by walk_at "fq", J2, by omega, fun r2 H2 X' Y' W' g2 k2 w2 ex' ey' a4 a5 a6 => ?_⟩
    have b4 : Sm 7600 X' := a4.mono (by omega)
    have b5 : Sm 7600 Y' := a5.mono (by omega)
    have b6 : Sm 7600 W' := a6.mono (by omega)
    repeat walk_at "g"
    refine q _ _ _ _ _ (by walk_at "same") (Lq.mk (by assumption)) (Int.mul_pos w1 w2) ?_ ?_ ?_ ?_ (a3.mul a6)
    · simp only [Rat.intCast_sub, Rat.intCast_mul]
      grind
    · simp only [Rat.intCast_sub, Rat.intCast_mul]
      grind
    · exact Sm.sub ((a4.mul a3).mono (by omega)) (a1.mul a6)
    · exact Sm.sub ((a5.mul a3).mono (by omega)) (a2.mul a6)
  ) only [↓Mb.dischW]
theorem ok_one_form (F : Fn K mg "one_form" s_one_form) (G_common_divisor : Kn P w K mg base 1 "common_divisor" ["one", "other"] spGcd) : Kn P w K mg base 2 "one_form" ["a", "b", "c"] (spOneForm K) := by
  refine Mb.ofW ?_
  simp (discharger := with_unfolding_all
    refine F.kn sc_one_form (fun vs H Q E h => ?_) (fun f cdv A outer s H vs Q E hr h => ?_) (fun _ _ _ _ _ _ us hl => match us, hl with | [_, _, _], _ => rfl)
    · obtain ⟨a, b, c, n, rfl, _⟩ := h
      rfl
    obtain ⟨a, b, c, n, rfl, nz, sa, sb, sc, ln, q⟩ := h
    refine ⟨_, (pss_cons (ps_set (i := 3) sc_one_form.nd rfl (.inl rfl) (pe_kn G_common_divisor (hr.mono (by decide)) (by rfl) (pa_cons (pe_kn G_common_divisor (hr.mono (by decide)) (by rfl) (pa_cons (pv 0) (pa_cons (pv 1) pa_nil))) (pa_cons (pv 2) pa_nil))))
      (pss_cons (ps_if (PW.pt (pw_or (pt_cmpR op_lt (pv 0) pe_int (nomark _)) (pw_or1 (PW.pt (pw_and (pt_cmpR op_eq (pv 0) pe_int (nomark _)) (pw_and1 (pt_cmpR op_lt (pv 1) pe_int (nomark _))))))))
      (pss_one (ps_set (i := 3) sc_one_form.nd rfl (.inl rfl) (pe_un un_neg (pv 3))))
      pss_nil)
      (pss_one (ps_ret (pe_tup (pa_cons (pe_op op_fdivZ (pv 0) (pv 3)) (pa_cons (pe_op op_fdivZ (pv 1) (pv 3)) (pa_cons (pe_op op_fdivZ (pv 2) (pv 3)) pa_nil)))))))), ?_⟩
    show (_ : TS) _ [some (.int a), some (.int b), some (.int c), none] _
    have ne := form_ne (c := c) nz
    have fs : Sm 8000 (formG a b c) := (form_sm nz sa sb).mono ln
    repeat walk_at "st"
    refine ⟨_, _, rfl, ?_⟩
    repeat walk_at "st"
    refine ⟨_, _, rfl, ?_⟩
    repeat walk_at "st"
    refine r_cut (fun σ H' => σ = [some (.int a), some (.int b), some (.int c), some (.int (formG a b c))] ∧ H' = H) ?_ (fun N J => ?_)
    · rintro σ H' ⟨rfl, rfl⟩
      have cd : ∀ i : Int, CDivZ i (formG a b c) := fun i => cdivZ ne fs (by decide) (by decide)
      repeat walk_at "st"
      refine r_i (cd _) ?_
      repeat walk_at "st"
      refine r_i (cd _) ?_
      repeat walk_at "st"
      refine r_i (cd _) ?_
      repeat walk_at "st"
      refine ⟨sz rfl, fun p hp => ?_⟩
      obtain ⟨d1, d2, d3⟩ := form_dvd a b c
      have e1 := fdiv_dvd ne d1
      have e2 := fdiv_dvd ne d2
      have e3 := fdiv_dvd ne d3
      exact q _ _ _ _ _ _ (same_new hp _) ⟨p, rfl, tupOf upd_same⟩ (form_ln nz e1 e2 e3) ne e1 e2 e3 (sm_quot ne e1 sa) (sm_quot ne e2 sb) (sm_quot ne e3 sc)
    · repeat walk_at "st"
      refine r_ite (fun c1 => ?_) (fun c1 => ?_)
      · repeat walk_at "st"
        exact J _ _ ⟨by unfold formG; rw [decide_eq_true (show a < 0 ∨ (a = 0 ∧ b < 0) from .inl c1)]; rfl, rfl⟩
      · repeat walk_at "st"
        refine r_ite (fun c2 => ?_) (fun c2 => ?_)
        · repeat walk_at "st"
          refine r_ite (fun c3 => ?_) (fun c3 => ?_)
          · repeat walk_at "st"
            exact J _ _ ⟨by unfold formG; rw [decide_eq_true (show a < 0 ∨ (a = 0 ∧ b < 0) from .inr ⟨c2, c3⟩)]; rfl, rfl⟩
          · repeat walk_at "st"
            exact J _ _ ⟨by unfold formG; rw [decide_eq_false (show ¬ (a < 0 ∨ (a = 0 ∧ b < 0)) by omega)]; rfl, rfl⟩
        · repeat walk_at "st"
          exact J _ _ ⟨by unfold formG; rw [decide_eq_false (show ¬ (a < 0 ∨ (a = 0 ∧ b < 0)) by omega)]; rfl, rfl⟩
  ) only [↓Mb.dischW]
theorem ok_through (F : Fn K mg "through" s_through) (G_cleared : Kn P w K mg base 2 "cleared" ["p"] (spClearedJ K)) (G_one_form : Kn P w K mg base 2 "one_form" ["a", "b", "c"] (spOneForm K)) : Kn P w K mg base 3 "through" ["p", "q"] (spThruJ K) := by
  refine Mb.ofW ?_
  simp (discharger := with_unfolding_all
    refine F.kn sc_through (fun vs H Q E h => ?_) (fun f cdv A outer s H vs Q E hr h => ?_) (fun _ _ _ _ _ _ us hl => match us, hl with | [_, _], _ => rfl)
    · obtain ⟨v, w, x, y, x', y', n, m, rfl, _⟩ := h
      rfl
    obtain ⟨v, w, x, y, x', y', n, m, rfl, h1, h2, J1, J2, l, q0, q1⟩ := h
    refine ⟨_, (pss_cons (ps_if (pt_cmpR (op_eqD hr.units) (pv 0) (pv 1) (nomark _))
      (pss_one (ps_ret pe_non))
      pss_nil)
      (pss_cons (ps_asg (pe_kn G_cleared (hr.mono (by decide)) (by rfl) (pa_cons (pv 0) pa_nil)) (pg_tup (by rfl) (pgs_cons (pg_name (i := 2) sc_through.nd rfl (.inl rfl)) (pgs_cons (pg_name (i := 3) sc_through.nd rfl (.inl rfl)) (pgs_cons (pg_name (i := 4) sc_through.nd rfl (.inl rfl)) pgs_nil)))))
      (pss_cons (ps_asg (pe_kn G_cleared (hr.mono (by decide)) (by rfl) (pa_cons (pv 1) pa_nil)) (pg_tup (by rfl) (pgs_cons (pg_name (i := 5) sc_through.nd rfl (.inl rfl)) (pgs_cons (pg_name (i := 6) sc_through.nd rfl (.inl rfl)) (pgs_cons (pg_name (i := 7) sc_through.nd rfl (.inl rfl)) pgs_nil)))))
      (pss_one (ps_ret (pe_kn G_one_form (hr.mono (by decide)) (by rfl) (pa_cons (pe_op op_sub (pe_op op_mulW (pv 3) (pv 7)) (pe_op op_mulW (pv 6) (pv 4))) (pa_cons (pe_op op_sub (pe_op op_mulW (pv 5) (pv 4)) (pe_op op_mulW (pv 2) (pv 7))) (pa_cons (pe_op op_sub (pe_op op_mulW (pv 5) (pv 3)) (pe_op op_mulW (pv 2) (pv 6))) pa_nil))))))))), ?_⟩
    show (_ : TS) _ [some v, some w, none, none, none, none, none, none] _
    refine r_seq ?_
    repeat walk_at "g"
    refine r_eqPd h1 h2 ?_
    repeat walk_at "g"
    refine r_ite (fun c => ?_) (fun c => ?_)
    · repeat walk_at "g"
      exact q0 c
    repeat walk_at "g"
    refine ⟨_, x, y, n, rfl, h1, J1, by omega, fun r1 H1 X Y W g1 k1 w1 ex ey a1 a2 a3 => ?_⟩
    have b1 : Sm 7600 X := a1.mono (by omega)
    have b2 : Sm 7600 Y := a2.mono (by omega)
    have b3 : Sm 7600 W := a3.mono (by omega)
    repeat walk_at "g"
    refine ⟨_, x', y', m, rfl, by walk_at "fq", J2, by omega, fun r2 H2 X' Y' W' g2 k2 w2 ex' ey' a4 a5 a6 => ?_⟩
    have b4 : Sm 7600 X' := a4.mono (by omega)
    have b5 : Sm 7600 Y' := a5.mono (by omega)
    have b6 : Sm 7600 W' := a6.mono (by omega)
    repeat walk_at "g"
    have nw := ratz (show W ≠ 0 by omega)
    have nw' := ratz (show W' ≠ 0 by omega)
    have z1 : Sm (n + m + 1) (Y * W' - Y' * W) := (a2.mul a6).sub ((a5.mul a3).mono (by omega))
    have z2 : Sm (n + m + 1) (X' * W - X * W') := Sm.sub ((a4.mul a3).mono (by omega)) (a1.mul a6)
    have z3 : Sm (n + m + 1) (X' * Y - X * Y') := Sm.sub ((a4.mul a2).mono (by omega)) (a1.mul a5)
    refine ⟨_, _, _, n + m + 1, rfl, ?_, z1, z2, z3, by omega, fun r H' a b cc g g3 k3 hL gn e1 e2 e3 c1 c2 c3 => ?_⟩
    · rintro ⟨e1, e2⟩
      have f1 := congrArg (Int.cast (R := Rat)) e1
      have f2 := congrArg (Int.cast (R := Rat)) e2
      simp only [Rat.intCast_sub, Rat.intCast_mul, Rat.intCast_zero] at f1 f2
      have d1 : (x' - x) * ((W : Rat) * W') = 0 := by grind
      have d2 : (y - y') * ((W : Rat) * W') = 0 := by grind
      have nn : (W : Rat) * W' ≠ 0 := fun z => by rcases Rat.mul_eq_zero.mp z with z | z <;> contradiction
      refine c ⟨?_, ?_⟩
      · rcases Rat.mul_eq_zero.mp d1 with z | z
        · grind
        · contradiction
      · rcases Rat.mul_eq_zero.mp d2 with z | z
        · grind
        · contradiction
    have f1 := congrArg (Int.cast (R := Rat)) e1
    have f2 := congrArg (Int.cast (R := Rat)) e2
    have f3 := congrArg (Int.cast (R := Rat)) e3
    simp only [Rat.intCast_sub, Rat.intCast_mul] at f1 f2 f3
    have ng := ratz gn
    have mm : ∀ u v : Rat, (g : Rat) * (u - v) = 0 → u = v := fun u v z => by
      rcases Rat.mul_eq_zero.mp z with z | z
      · contradiction
      · grind
    refine q1 c _ _ a b cc (by walk_at "same") k3 hL (mm _ _ ?_) (mm _ _ ?_)
    · grind
    · grind
  ) only [↓Mb.dischW]
theorem ok_line_at (F : Fn K mg "line_at" s_line_at) (G_cleared : Kn P w K mg base 2 "cleared" ["p"] (spClearedJ K)) (G_one_form : Kn P w K mg base 2 "one_form" ["a", "b", "c"] (spOneForm K)) : Kn P w K mg base 3 "line_at" ["p", "a", "b"] (spLineAtJ K) := by
  refine Mb.ofW ?_
  simp (discharger := with_unfolding_all
    refine F.kn sc_line_at (fun vs H Q E h => ?_) (fun f cdv A outer s H vs Q E hr h => ?_) (fun _ _ _ _ _ _ us hl => match us, hl with | [_, _, _], _ => rfl)
    · obtain ⟨v, x, y, a, b, n, k, rfl, _⟩ := h
      rfl
    obtain ⟨v, x, y, a, b, n, k, rfl, h1, nz, J, s3, s4, l, q⟩ := h
    have t3 : Sm 6000 a := s3.mono (by omega)
    have t4 : Sm 6000 b := s4.mono (by omega)
    refine ⟨_, (pss_cons (ps_asg (pe_kn G_cleared (hr.mono (by decide)) (by rfl) (pa_cons (pv 0) pa_nil)) (pg_tup (by rfl) (pgs_cons (pg_name (i := 3) sc_line_at.nd rfl (.inl rfl)) (pgs_cons (pg_name (i := 4) sc_line_at.nd rfl (.inl rfl)) (pgs_cons (pg_name (i := 5) sc_line_at.nd rfl (.inl rfl)) pgs_nil)))))
      (pss_one (ps_ret (pe_kn G_one_form (hr.mono (by decide)) (by rfl) (pa_cons (pe_op op_mulW (pv 1) (pv 5)) (pa_cons (pe_op op_mulW (pv 2) (pv 5)) (pa_cons (pe_op op_add (pe_op op_mulW (pv 1) (pv 3)) (pe_op op_mulW (pv 2) (pv 4))) pa_nil))))))), ?_⟩
    show (_ : TS) _ [some v, some (.int a), some (.int b), none, none, none] _
    repeat walk_at "g"
    refine ⟨_, x, y, n, rfl, h1, J, by omega, fun r1 H1 X Y W g1 k1 w1 ex ey a1 a2 a3 => ?_⟩
    have b1 : Sm 7600 X := a1.mono (by omega)
    have b2 : Sm 7600 Y := a2.mono (by omega)
    have b3 : Sm 7600 W := a3.mono (by omega)
    repeat walk_at "g"
    have nw := ratz (show W ≠ 0 by omega)
    have z1 : Sm (k + n + 1) (a * W) := (s3.mul a3).mono (by omega)
    have z2 : Sm (k + n + 1) (b * W) := (s4.mul a3).mono (by omega)
    have z3 : Sm (k + n + 1) (a * X + b * Y) := (s3.mul a1).add (s4.mul a2)
    have nW : W ≠ 0 := by omega
    refine ⟨_, _, _, k + n + 1, rfl, ?_, z1, z2, z3, by omega, fun r H' A B C g g3 k3 hL gn e1 e2 e3 c1 c2 c3 => ?_⟩
    · rintro ⟨e1, e2⟩
      rcases Int.mul_eq_zero.mp e1 with z | z
      · rcases Int.mul_eq_zero.mp e2 with y | y
        · exact nz ⟨z, y⟩
        · exact nW y
      · exact nW z
    have f1 := congrArg (Int.cast (R := Rat)) e1
    have f2 := congrArg (Int.cast (R := Rat)) e2
    have f3 := congrArg (Int.cast (R := Rat)) e3
    simp only [Rat.intCast_add, Rat.intCast_mul] at f1 f2 f3
    have ng := ratz gn
    have mm : ∀ u v : Rat, (g : Rat) * (u - v) = 0 → u = v := fun u v z => by
      rcases Rat.mul_eq_zero.mp z with z | z
      · contradiction
      · grind
    have m2 : ∀ u v : Rat, (g : Rat) * W * (u - v) = 0 → u = v := fun u v z => by
      rcases Rat.mul_eq_zero.mp z with z | z
      · rcases Rat.mul_eq_zero.mp z with z | z <;> contradiction
      · grind
    refine q _ _ A B C (by walk_at "same") k3 hL (mm _ _ ?_) (m2 _ _ ?_) c1 c2 c3
    · grind
    · grind
  ) only [↓Mb.dischW]
theorem ok_along (F : Fn K mg "along" s_along) (G_line_at : Kn P w K mg base 3 "line_at" ["p", "a", "b"] (spLineAtJ K)) : Kn P w K mg base 4 "along" ["p", "line"] (spAlongJ K RAl) := by
  refine F.kn sc_along (fun vs H Q E h => ?_) (fun f cdv A outer s H vs Q E hr h => ?_) (fun _ _ _ _ _ _ us hl => match us, hl with | [_, _], _ => rfl)
  · obtain ⟨v, w, x, y, a, b, c, n, k, rfl, _⟩ := h
    rfl
  obtain ⟨v, w, x, y, a, b, c, n, k, rfl, h1, h2, nz, J, s3, s4, l, q⟩ := h
  refine ⟨_, (pss_one (ps_ret (pe_kn G_line_at (hr.mono (by decide)) (by rfl) (pa_cons (pv 0) (pa_cons (pe_ix ix_tup (pv 1) pe_int (fun _ _ => rfl)) (pa_cons (pe_ix ix_tup (pv 1) pe_int (fun _ _ => rfl)) pa_nil)))))), ?_⟩
  show (_ : TS) _ [some v, some w] _
  repeat walk_at "g"
  refine ⟨_, x, y, _, _, n, k, rfl, h1, nz, J, s3, s4, l, fun r H' A B C g k3 hL o e c1 c2 c3 => ?_⟩
  refine q _ _ A B C g k3 hL o ?_ c1 c2 c3
  unfold RAl
  grind
theorem ok_upright (F : Fn K mg "upright" s_upright) (G_line_at : Kn P w K mg base 3 "line_at" ["p", "a", "b"] (spLineAtJ K)) : Kn P w K mg base 4 "upright" ["p", "line"] (spAlongJ K RUp) := by
  refine Mb.ofW ?_
  simp (discharger := with_unfolding_all
    refine F.kn sc_upright (fun vs H Q E h => ?_) (fun f cdv A outer s H vs Q E hr h => ?_) (fun _ _ _ _ _ _ us hl => match us, hl with | [_, _], _ => rfl)
    · obtain ⟨v, w, x, y, a, b, c, n, k, rfl, _⟩ := h
      rfl
    obtain ⟨v, w, x, y, a, b, c, n, k, rfl, h1, h2, nz, J, s3, s4, l, q⟩ := h
    refine ⟨_, (pss_one (ps_ret (pe_kn G_line_at (hr.mono (by decide)) (by rfl) (pa_cons (pv 0) (pa_cons (pe_ix ix_tup (pv 1) pe_int (fun _ _ => rfl)) (pa_cons (pe_un un_neg (pe_ix ix_tup (pv 1) pe_int (fun _ _ => rfl))) pa_nil)))))), ?_⟩
    show (_ : TS) _ [some v, some w] _
    repeat walk_at "g"
    refine ⟨_, x, y, _, _, n, k, rfl, h1, (by omega), J, s4, s3.neg, l, fun r H' A B C g k3 hL o e c1 c2 c3 => ?_⟩
    refine q _ _ A B C g k3 hL o ?_ c1 c2 c3
    unfold RUp
    simp only [Rat.intCast_neg] at e
    grind
  ) only [↓Mb.dischW]
theorem ok_meet (F : Fn K mg "meet" s_meet) (G_fraction : Kn P w K mg base 2 "fraction" ["top", "bottom"] (spFrQ K)) : Kn P w K mg base 3 "meet" ["line", "other"] (spMeet K) := by
  refine Mb.ofW ?_
  simp (discharger := with_unfolding_all
    refine F.kn sc_meet (fun vs H Q E h => ?_) (fun f cdv A outer s H vs Q E hr h => ?_) (fun _ _ _ _ _ _ us hl => match us, hl with | [_, _], _ => rfl)
    · obtain ⟨v, w, a, b, c, a', b', c', n, m, rfl, _⟩ := h
      rfl
    obtain ⟨v, w, a, b, c, a', b', c', n, m, rfl, h1, h2, s1, s2, s3, s4, s5, s6, l, q0, q1⟩ := h
    have t1 : Sm 7600 a := s1.mono (by omega)
    have t2 : Sm 7600 b := s2.mono (by omega)
    have t3 : Sm 7600 c := s3.mono (by omega)
    have t4 : Sm 7600 a' := s4.mono (by omega)
    have t5 : Sm 7600 b' := s5.mono (by omega)
    have t6 : Sm 7600 c' := s6.mono (by omega)
    refine ⟨_, (pss_cons (ps_asg (pv 0) (pg_tup (by rfl) (pgs_cons (pg_name (i := 2) sc_meet.nd rfl (.inl rfl)) (pgs_cons (pg_name (i := 3) sc_meet.nd rfl (.inl rfl)) (pgs_cons (pg_name (i := 4) sc_meet.nd rfl (.inl rfl)) pgs_nil)))))
      (pss_cons (ps_asg (pv 1) (pg_tup (by rfl) (pgs_cons (pg_name (i := 5) sc_meet.nd rfl (.inl rfl)) (pgs_cons (pg_name (i := 6) sc_meet.nd rfl (.inl rfl)) (pgs_cons (pg_name (i := 7) sc_meet.nd rfl (.inl rfl)) pgs_nil)))))
      (pss_cons (ps_set (i := 8) sc_meet.nd rfl (.inl rfl) (pe_op op_sub (pe_op op_mulW (pv 2) (pv 6)) (pe_op op_mulW (pv 3) (pv 5))))
      (pss_cons (ps_if (pt_cmpR op_eq (pv 8) pe_int (nomark _))
      (pss_one (ps_ret pe_non))
      pss_nil)
      (pss_one (ps_ret (pe_tup (pa_cons (pe_kn G_fraction (hr.mono (by decide)) (by rfl) (pa_cons (pe_op op_sub (pe_op op_mulW (pv 4) (pv 6)) (pe_op op_mulW (pv 3) (pv 7))) (pa_cons (pv 8) pa_nil))) (pa_cons (pe_kn G_fraction (hr.mono (by decide)) (by rfl) (pa_cons (pe_op op_sub (pe_op op_mulW (pv 2) (pv 7)) (pe_op op_mulW (pv 4) (pv 5))) (pa_cons (pv 8) pa_nil))) pa_nil))))))))), ?_⟩
    show (_ : TS) _ [some v, some w, none, none, none, none, none, none, none] _
    repeat walk_at "g"
    refine r_seq ?_
    repeat walk_at "g"
    refine r_ite (fun d => ?_) (fun d => ?_)
    · repeat walk_at "g"
      exact q0 (by omega)
    have nd : a * b' ≠ b * a' := by omega
    have rd := cross_rat nd
    have sd : Sm (n + m + 1) (a * b' - b * a') := (s1.mul s5).sub (s2.mul s4)
    repeat walk_at "g"
    refine ⟨_, _, ((c : Rat) * b' - b * c') / (a * b' - b * a'), rfl, d, sd.mono (by omega), ?_, fun r1 H1 g1 k1 => ?_⟩
    · simp only [Rat.intCast_sub, Rat.intCast_mul]
      grind
    repeat walk_at "g"
    refine ⟨_, _, ((a : Rat) * c' - c * a') / (a * b' - b * a'), rfl, d, sd.mono (by omega), ?_, fun r2 H2 g2 k2 => ?_⟩
    · simp only [Rat.intCast_sub, Rat.intCast_mul]
      grind
    repeat walk_at "g"
    have ex : ((c : Rat) * b' - b * c') / (a * b' - b * a') = Rat.divInt (c * b' - b * c') (a * b' - b * a') := divInt_of d (by simp only [Rat.intCast_sub, Rat.intCast_mul]; grind)
    have ey : ((a : Rat) * c' - c * a') / (a * b' - b * a') = Rat.divInt (a * c' - c * a') (a * b' - b * a') := divInt_of d (by simp only [Rat.intCast_sub, Rat.intCast_mul]; grind)
    clear t1 t2 t3 t4 t5 t6
    refine q1 nd _ _ (((c : Rat) * b' - b * c') / (a * b' - b * a')) (((a : Rat) * c' - c * a') / (a * b' - b * a')) (by walk_at "same") (by walk_at "fq") (by grind) (by grind) ?_ ?_
    · rw [ex]
      exact Sz.divInt d ((s3.mul s5).sub (s2.mul s6)) sd
    · rw [ey]
      exact Sz.divInt d ((s1.mul s6).sub (s3.mul s4)) sd
  ) only [↓Mb.dischW]
theorem ok_foot (F : Fn K mg "foot" s_foot) (G_upright : Kn P w K mg base 4 "upright" ["p", "line"] (spAlongJ K RUp)) (G_meet : Kn P w K mg base 3 "meet" ["line", "other"] (spMeet K)) : Kn P w K mg base 5 "foot" ["p", "line"] (spFootJ K) := by
  refine Mb.ofW ?_
  simp (discharger := with_unfolding_all
    refine F.kn sc_foot (fun vs H Q E h => ?_) (fun f cdv A outer s H vs Q E hr h => ?_) (fun _ _ _ _ _ _ us hl => match us, hl with | [_, _], _ => rfl)
    · obtain ⟨v, w, x, y, a, b, c, n, k, rfl, _⟩ := h
      rfl
    obtain ⟨v, w, x, y, a, b, c, n, k, rfl, h1, h2, hl, J, s3, s4, s5, l, q⟩ := h
    refine ⟨_, (pss_one (ps_ret (pe_kn G_meet (hr.mono (by decide)) (by rfl) (pa_cons (pv 1) (pa_cons (pe_kn G_upright (hr.mono (by decide)) (by rfl) (pa_cons (pv 0) (pa_cons (pv 1) pa_nil))) pa_nil))))), ?_⟩
    show (_ : TS) _ [some v, some w] _
    repeat walk_at "g"
    refine ⟨_, _, x, y, a, b, c, n, k, rfl, h1, h2, hl.nz, J, s3, s4, by omega, fun r H' A B C g k3 hL o e c1 c2 c3 => ?_⟩
    repeat walk_at "g"
    have nd := up_ne hl hL e
    refine ⟨_, _, a, b, c, A, B, C, k, _, rfl, by walk_at "lq", k3, s3, s4, s5, c1, c2, c3, by omega, fun z => absurd z nd, fun _ r2 H2 fx fy g2 k4 o1 o2 z1 z2 => ?_⟩
    exact q _ _ fx fy (by walk_at "same") k4 o1 (up_way hL e o o2)
  ) only [↓Mb.dischW]
theorem ok_mirror (F : Fn K mg "mirror" s_mirror) (G_beyond : Kn P w K mg base 5 "beyond" ["p", "q"] (spP2J K (fun x y x2 y2 => x2 + x2 - x) (fun x y x2 y2 => y2 + y2 - y))) (G_foot : Kn P w K mg base 5 "foot" ["p", "line"] (spFootJ K)) : Kn P w K mg base 6 "mirror" ["p", "line"] (spMirrorJ K) := by
  refine Mb.ofW ?_
  simp (discharger := with_unfolding_all
    refine F.kn sc_mirror (fun vs H Q E h => ?_) (fun f cdv A outer s H vs Q E hr h => ?_) (fun _ _ _ _ _ _ us hl => match us, hl with | [_, _], _ => rfl)
    · obtain ⟨v, w, x, y, a, b, c, n, k, rfl, _⟩ := h
      rfl
    obtain ⟨v, w, x, y, a, b, c, n, k, rfl, h1, h2, hl, J, s3, s4, s5, l, q⟩ := h
    refine ⟨_, (pss_one (ps_ret (pe_kn G_beyond (hr.mono (by decide)) (by rfl) (pa_cons (pv 0) (pa_cons (pe_kn G_foot (hr.mono (by decide)) (by rfl) (pa_cons (pv 0) (pa_cons (pv 1) pa_nil))) pa_nil))))), ?_⟩
    show (_ : TS) _ [some v, some w] _
    repeat walk_at "g"
    refine ⟨_, _, x, y, a, b, c, n, k, rfl, h1, h2, hl, J, s3, s4, s5, by omega, fun r H' fx fy g k3 o1 o2 => ?_⟩
    have JF := jh_foot hl o1 o2 J s3 s4 s5
    repeat walk_at "g"
    refine ⟨_, _, x, y, fx, fy, n, _, rfl, by walk_at "fq", k3, J.x, J.y, JF.x, JF.y, by omega, fun r2 H2 g2 k4 => ?_⟩
    exact q _ _ fx fy (by walk_at "same") k4 o1 o2
  ) only [↓Mb.dischW]
theorem ok_about (F : Fn K mg "about" s_about) (G_way : Kn P w K mg base 3 "way" ["p", "q"] (spWayJ K)) (G_fraction : Kn P w K mg base 2 "fraction" ["top", "bottom"] (spFrQ K)) : Kn P w K mg base 4 "about" ["p", "q"] (spAboutJ K) := by
  refine Mb.ofW ?_
  simp (discharger := with_unfolding_all
    refine F.kn sc_about (fun vs H Q E h => ?_) (fun f cdv A outer s H vs Q E hr h => ?_) (fun _ _ _ _ _ _ us hl => match us, hl with | [_, _], _ => rfl)
    · obtain ⟨v, w, x, y, x', y', n, m, rfl, _⟩ := h
      rfl
    obtain ⟨v, w, x, y, x', y', n, m, rfl, h1, h2, J1, J2, l, q0, q1⟩ := h
    refine ⟨_, (pss_cons (ps_if (pt_cmpR (op_eqD hr.units) (pv 0) (pv 1) (nomark _))
      (pss_one (ps_ret pe_non))
      pss_nil)
      (pss_cons (ps_asg (pe_kn G_way (hr.mono (by decide)) (by rfl) (pa_cons (pv 0) (pa_cons (pv 1) pa_nil))) (pg_tup (by rfl) (pgs_cons (pg_name (i := 2) sc_about.nd rfl (.inl rfl)) (pgs_cons (pg_name (i := 3) sc_about.nd rfl (.inl rfl)) (pgs_cons (pg_name (i := 4) sc_about.nd rfl (.inl rfl)) pgs_nil)))))
      (pss_one (ps_ret (pe_tup (pa_cons (pe_ix ix_tup (pv 0) pe_int (fun _ _ => rfl)) (pa_cons (pe_ix ix_tup (pv 0) pe_int (fun _ _ => rfl)) (pa_cons (pe_kn G_fraction (hr.mono (by decide)) (by rfl) (pa_cons (pe_op op_add (pe_op op_mulW (pv 2) (pv 2)) (pe_op op_mulW (pv 3) (pv 3))) (pa_cons (pe_op op_mulW (pv 4) (pv 4)) pa_nil))) pa_nil)))))))), ?_⟩
    show (_ : TS) _ [some v, some w, none, none, none] _
    refine r_seq ?_
    repeat walk_at "w"
    refine r_eqPd h1 h2 ?_
    repeat walk_at "w"
    refine r_ite (fun c => ?_) (fun c => ?_)
    · repeat walk_at "w"
      exact q0 c
    repeat walk_at "w"
    refine ⟨_, _, x, y, x', y', n, m, rfl, h1, h2, J1, J2, by omega, by omega, fun r1 H1 X Y W g1 k1 w1 ex ey a1 a2 a3 => ?_⟩
    have nW : W ≠ 0 := by omega
    have sW : Sm 8000 (W * W) := (a3.mul a3).mono (by omega)
    have b1 : Sm 8000 X := a1.mono (by omega)
    have b2 : Sm 8000 Y := a2.mono (by omega)
    have b3 : Sm 8000 W := a3.mono (by omega)
    repeat walk_at "w"
    refine ⟨_, _, (x' - x) * (x' - x) + (y' - y) * (y' - y), rfl, Int.mul_ne_zero nW nW, sW, ?_, fun r2 H2 g2 k2 => ?_⟩
    · simp only [Rat.intCast_add, Rat.intCast_mul]
      grind
    repeat walk_at "w"
    refine q1 c _ _ (by walk_at "same") ?_
    refine Cq.mk (by assumption) ?_ ?_ ?_
    · walk_at "fq"
    · walk_at "fq"
    · walk_at "fq"
  ) only [↓Mb.dischW]
theorem ok_reached (F : Fn K mg "reached" s_reached) (G_fraction : Kn P w K mg base 2 "fraction" ["top", "bottom"] (spFrQ K)) : Kn P w K mg base 3 "reached" ["line", "centre", "short", "reach"] (spReachedJ K) := by
  refine Mb.ofW ?_
  simp (discharger := with_unfolding_all
    refine F.kn sc_reached (fun vs H Q E h => ?_) (fun f cdv A outer s H vs Q E hr h => ?_) (fun _ _ _ _ _ _ us hl => match us, hl with | [_, _, _, _], _ => rfl)
    · obtain ⟨v, w, u, a, b, c, X, Y, W, e, t, rfl, _⟩ := h
      rfl
    obtain ⟨v, w, u, a, b, c, X, Y, W, e, t, rfl, h1, h2, h3, np, wp, s1, s2, s3, s4, s5, s6, s7, s8, s9, q⟩ := h
    refine ⟨_, (pss_cons (ps_asg (pv 0) (pg_tup (by rfl) (pgs_cons (pg_name (i := 4) sc_reached.nd rfl (.inl rfl)) (pgs_cons (pg_name (i := 5) sc_reached.nd rfl (.inl rfl)) (pgs_cons (pg_name (i := 6) sc_reached.nd rfl (.inl rfl)) pgs_nil)))))
      (pss_cons (ps_asg (pv 1) (pg_tup (by rfl) (pgs_cons (pg_name (i := 7) sc_reached.nd rfl (.inl rfl)) (pgs_cons (pg_name (i := 8) sc_reached.nd rfl (.inl rfl)) (pgs_cons (pg_name (i := 9) sc_reached.nd rfl (.inl rfl)) pgs_nil)))))
      (pss_cons (ps_set (i := 10) sc_reached.nd rfl (.inl rfl) (pe_op op_add (pe_op op_mulW (pv 4) (pv 4)) (pe_op op_mulW (pv 5) (pv 5))))
      (pss_cons (ps_asg (pv 3) (pg_tup (by rfl) (pgs_cons (pg_name (i := 11) sc_reached.nd rfl (.inl rfl)) (pgs_cons (pg_name (i := 12) sc_reached.nd rfl (.inl rfl)) pgs_nil))))
      (pss_cons (ps_set (i := 13) sc_reached.nd rfl (.inl rfl) (pe_op op_add (pe_op op_mulW (pe_op op_add (pe_op op_mulW (pv 10) (pv 7)) (pe_op op_mulW (pv 4) (pv 2))) (pv 12)) (pe_op op_mulW (pv 5) (pv 11))))
      (pss_cons (ps_set (i := 14) sc_reached.nd rfl (.inl rfl) (pe_op op_sub (pe_op op_mulW (pe_op op_add (pe_op op_mulW (pv 10) (pv 8)) (pe_op op_mulW (pv 5) (pv 2))) (pv 12)) (pe_op op_mulW (pv 4) (pv 11))))
      (pss_one (ps_ret (pe_tup (pa_cons (pe_kn G_fraction (hr.mono (by decide)) (by rfl) (pa_cons (pv 13) (pa_cons (pe_op op_mulW (pe_op op_mulW (pv 9) (pv 10)) (pv 12)) pa_nil))) (pa_cons (pe_kn G_fraction (hr.mono (by decide)) (by rfl) (pa_cons (pv 14) (pa_cons (pe_op op_mulW (pe_op op_mulW (pv 9) (pv 10)) (pv 12)) pa_nil))) pa_nil))))))))))), ?_⟩
    show (_ : TS) _ [some v, some w, some (.int e), some u, none, none, none, none, none, none, none, none, none, none, none] _
    repeat walk_at "w"
    have nn : a * a + b * b ≠ 0 := by omega
    have nb : W * (a * a + b * b) * (t.den : Int) ≠ 0 := Int.mul_ne_zero (Int.mul_ne_zero (by omega) nn) (den_ne t)
    have ht := hden t
    have dt := den_ne' t
    have rn := ratz nn
    have rw_ := ratz (show W ≠ 0 by omega)
    refine ⟨_, _, (((a : Rat) * a + b * b) * X + a * e + b * t) / (W * ((a : Rat) * a + b * b)), rfl, nb, s9, ?_, fun r1 H1 g1 k1 => ?_⟩
    · simp only [Rat.intCast_add, Rat.intCast_mul] at rn ⊢
      grind
    repeat walk_at "w"
    refine ⟨_, _, (((a : Rat) * a + b * b) * Y + b * e - a * t) / (W * ((a : Rat) * a + b * b)), rfl, nb, s9, ?_, fun r2 H2 g2 k2 => ?_⟩
    · simp only [Rat.intCast_add, Rat.intCast_sub, Rat.intCast_mul] at rn ⊢
      grind
    repeat walk_at "w"
    exact q _ _ _ _ (by walk_at "same") (by walk_at "fq") rfl rfl
  ) only [↓Mb.dischW]
theorem ok_line_cuts (F : Fn K mg "line_cuts" s_line_cuts) (G_cleared : Kn P w K mg base 2 "cleared" ["p"] (spClearedJ K)) (G_fraction : Kn P w K mg base 2 "fraction" ["top", "bottom"] (spFrQ K)) (G_root : Kn P w K mg base 2 "root" ["one"] (spRootQ K)) (G_reached : Kn P w K mg base 3 "reached" ["line", "centre", "short", "reach"] (spReachedJ K)) : Kn P w K mg base 4 "line_cuts" ["line", "ring"] (spCutsJ K) := by
  refine Mb.ofW ?_
  simp (discharger := with_unfolding_all
    refine F.kn sc_line_cuts (fun vs H Q E h => ?_) (fun f cdv A outer s H vs Q E hr h => ?_) (fun _ _ _ _ _ _ us hl => match us, hl with | [_, _], _ => rfl)
    · obtain ⟨v, w, a, b, c, x, y, s, d, k, m, rfl, _⟩ := h
      rfl
    obtain ⟨v, w, a, b, c, x, y, s', d, k, m, rfl, h1, hl, h2, j1, j2, j3, C, l, ⟨ed⟩, q1, q2, q3⟩ := h
    obtain ⟨t1, t2⟩ := C.sz
    have s1 : Sm 1600 a := j1.mono (by omega)
    have s2 : Sm 1600 b := j2.mono (by omega)
    have s3 : Sm 1600 c := j3.mono (by omega)
    have t3 : Sm 6300 s'.num := t1.mono (by omega)
    have t4 : Sm 6300 (s'.den : Int) := t2.mono (by omega)
    refine ⟨_, (pss_cons (ps_asg (pv 0) (pg_tup (by rfl) (pgs_cons (pg_name (i := 2) sc_line_cuts.nd rfl (.inl rfl)) (pgs_cons (pg_name (i := 3) sc_line_cuts.nd rfl (.inl rfl)) (pgs_cons (pg_name (i := 4) sc_line_cuts.nd rfl (.inl rfl)) pgs_nil)))))
      (pss_cons (ps_asg (pe_kn G_cleared (hr.mono (by decide)) (by rfl) (pa_cons (pe_slice sl_tup (pv 1) po_none (po_some pe_int)) pa_nil)) (pg_tup (by rfl) (pgs_cons (pg_name (i := 5) sc_line_cuts.nd rfl (.inl rfl)) (pgs_cons (pg_name (i := 6) sc_line_cuts.nd rfl (.inl rfl)) (pgs_cons (pg_name (i := 7) sc_line_cuts.nd rfl (.inl rfl)) pgs_nil)))))
      (pss_cons (ps_asg (pe_ix ix_tup (pv 1) pe_int (fun _ _ => rfl)) (pg_tup (by rfl) (pgs_cons (pg_name (i := 8) sc_line_cuts.nd rfl (.inl rfl)) (pgs_cons (pg_name (i := 9) sc_line_cuts.nd rfl (.inl rfl)) pgs_nil))))
      (pss_cons (ps_set (i := 10) sc_line_cuts.nd rfl (.inl rfl) (pe_op op_sub (pe_op op_sub (pe_op op_mulW (pv 4) (pv 7)) (pe_op op_mulW (pv 2) (pv 5))) (pe_op op_mulW (pv 3) (pv 6))))
      (pss_cons (ps_set (i := 11) sc_line_cuts.nd rfl (.inl rfl) (pe_kn G_fraction (hr.mono (by decide)) (by rfl) (pa_cons (pe_op op_sub (pe_op op_mulW (pe_op op_mulW (pe_op op_mulW (pv 8) (pe_op op_add (pe_op op_mulW (pv 2) (pv 2)) (pe_op op_mulW (pv 3) (pv 3)))) (pv 7)) (pv 7)) (pe_op op_mulW (pe_op op_mulW (pv 10) (pv 10)) (pv 9))) (pa_cons (pv 9) pa_nil))))
      (pss_cons (ps_if (pt_cmpR op_lt (pe_ix ix_tup (pv 11) pe_int (fun _ _ => rfl)) pe_int (nomark _))
      (pss_one (ps_ret (pe_tup (pa_cons pe_str (pa_cons (pe_lst pa_nil) pa_nil)))))
      pss_nil)
      (pss_cons (ps_set (i := 12) sc_line_cuts.nd rfl (.inl rfl) (pe_kn G_root (hr.mono (by decide)) (by rfl) (pa_cons (pv 11) pa_nil)))
      (pss_cons (ps_if (pt_cmpR op_isNo (pv 12) pe_non (nomark _))
      (pss_one (ps_ret (pe_tup (pa_cons pe_str (pa_cons (pe_lst pa_nil) pa_nil)))))
      pss_nil)
      (pss_cons (ps_set (i := 13) sc_line_cuts.nd rfl (.inl rfl) (pe_kn G_reached (hr.mono (by decide)) (by rfl) (pa_cons (pv 0) (pa_cons (pe_tup (pa_cons (pv 5) (pa_cons (pv 6) (pa_cons (pv 7) pa_nil)))) (pa_cons (pv 10) (pa_cons (pv 12) pa_nil))))))
      (pss_cons (ps_set (i := 14) sc_line_cuts.nd rfl (.inl rfl) (pe_kn G_reached (hr.mono (by decide)) (by rfl) (pa_cons (pv 0) (pa_cons (pe_tup (pa_cons (pv 5) (pa_cons (pv 6) (pa_cons (pv 7) pa_nil)))) (pa_cons (pv 10) (pa_cons (pe_tup (pa_cons (pe_un un_neg (pe_ix ix_tup (pv 12) pe_int (fun _ _ => rfl))) (pa_cons (pe_ix ix_tup (pv 12) pe_int (fun _ _ => rfl)) pa_nil))) pa_nil))))))
      (pss_one (ps_ret (pe_tup (pa_cons pe_str (pa_cons (pe_ifExp (pt_cmpR op_gt (pv 3) pe_int (nomark _)) (pe_lst (pa_cons (pv 14) (pa_cons (pv 13) pa_nil))) (pe_lst (pa_cons (pv 13) (pa_cons (pv 14) pa_nil)))) pa_nil))))))))))))))), ?_⟩
    show (_ : TS) _ [some v, some w, none, none, none, none, none, none, none, none, none, none, none, none, none] _
    repeat walk_at "c2"
    rename_i ps Hs gs Ps
    refine ⟨_, x, y, m, rfl, by walk_at "fq", C.jh, by omega, fun r1 H1 X Y W g1 k1 wp ex ey i1 i2 i3 => ?_⟩
    have a1 : Sm 3100 X := i1.mono (by omega)
    have a2 : Sm 3100 Y := i2.mono (by omega)
    have a3 : Sm 3100 W := i3.mono (by omega)
    repeat walk_at "c2"
    rename_i fs ks
    have nn := hl.sq
    have nW : W ≠ 0 := by omega
    have rW := ratz nW
    have hs := hden s'
    have ds := den_ne' s'
    have sj : Sm (k + m + 2) (c * W - a * X - b * Y) := (Sm.subm (Sm.subm (Sm.mul j3 i3) (Sm.mul j1 i1)) (Sm.mul j2 i2)).mono (by omega)
    have se : Sm 4800 (c * W - a * X - b * Y) := sj.mono (by omega)
    have es : ((c * W - a * X - b * Y : Int) : Rat) = (c - a * x - b * y) * W := by
      simp only [Rat.intCast_sub, Rat.intCast_mul]
      grind
    have eN' : ∀ sh : Int, (sh : Rat) = (c - a * x - b * y) * W → ((s'.num * (a * a + b * b) * W * W - sh * sh * (s'.den : Int) : Int) : Rat) = (d * W * W) * (s'.den : Int) := by
      intro sh hsh
      simp only [Rat.intCast_add, Rat.intCast_sub, Rat.intCast_mul]
      rw [hsh, ← hs, ed]
      grind
    have eN := eN' _ es
    clear eN'
    have sN : Sm ((m + m + k + 3) + (m + m + k + 3)) (s'.num * (a * a + b * b) * W * W - (c * W - a * X - b * Y) * (c * W - a * X - b * Y) * (s'.den : Int)) := (Sm.subm (Sm.mul (Sm.mul (Sm.mul t1 (Sm.addm (Sm.mul j1 j1) (Sm.mul j2 j2))) i3) i3) (Sm.mul (Sm.mul sj sj) t2)).mono (by omega)
    have eq := divInt_of (den_ne s') eN
    have sq1 : Sz ((m + m + k + 3) + (m + m + k + 3)) (d * W * W) := by rw [eq]; exact Sz.divInt (den_ne s') sN (t2.mono (by omega))
    have sq2 : Sm (m + m) ((d * W * W).den : Int) := Sz.dvd (den_ne s') eq t2
    have pW := pos_int wp
    refine ⟨_, _, d * W * W, rfl, den_ne s', t2.mono (by omega), eN, fun r2 H2 g2 k2 => ?_⟩
    generalize hsh : c * W - a * X - b * Y = sh at *
    repeat walk_at "c2"
    refine r_seq ?_
    repeat walk_at "c2"
    refine r_ite (fun n => ?_) (fun n => ?_)
    · repeat walk_at "c2"
      rename_i l3 H3 g3 n3 e3 o4 H4 g4 n4 e4
      have dn : d < 0 := by
        apply Rat.not_le.mp
        intro z
        have := num_lt.mp n
        have := mul_nn (mul_nn z (Rat.le_of_lt pW)) (Rat.le_of_lt pW)
        grind
      exact q1 dn _ l3 _ (by walk_at "same") (L2.Same.free (by walk_at "same") n3) (Ct0.mk e4 (g4 _ _ e3))
    have dp : 0 ≤ d := by
      have h0 : 0 ≤ d * W * W := by
        apply Rat.not_lt.mp
        intro z
        exact n (num_lt.mpr z)
      apply Rat.not_lt.mp
      intro z
      have : 0 ≤ -d := by grind
      have := mul_nn (mul_nn this (Rat.le_of_lt pW)) (Rat.le_of_lt pW)
      have e0 : d * W * W = 0 := by grind
      rcases Rat.mul_eq_zero.mp e0 with z1 | z1
      · rcases Rat.mul_eq_zero.mp z1 with z2 | z2
        · grind
        · exact rW z2
      · exact rW z1
    repeat walk_at "c2"
    refine ⟨_, d * W * W, rfl, k2, sq1.mono (by omega), fun no => ?_, fun r r0 er o5 H5 g5 k5 => ?_⟩
    · repeat walk_at "c2"
      refine r_seq ?_
      repeat walk_at "c2"
      rename_i l3 H3 g3 n3 e3 o4 H4 g4 n4 e4
      refine q2 dp ?_ _ l3 _ (by walk_at "same") (L2.Same.free (by walk_at "same") n3) (Ct0.mk e4 (g4 _ _ e3))
      rintro ⟨t, et⟩
      exact no ⟨t * W, by rw [← et]; grind⟩
    obtain ⟨v1, v2⟩ := root_half er sq1.t sq2
    have u1 : Sm 7800 r.num := v1.mono (by omega)
    have u3 : Sm 7800 (r.den : Int) := v2.mono (by omega)
    have u2 : Sm 8000 (W * (a * a + b * b) * (r.den : Int)) := (Sm.mul (Sm.mul i3 (Sm.addm (Sm.mul j1 j1) (Sm.mul j2 j2))) v2).mono (by omega)
    obtain ⟨po, rfl, _⟩ := id k5
    repeat walk_at "c2"
    refine r_seq ?_
    repeat walk_at "c2"
    refine r_isNR ?_
    repeat walk_at "c2"
    rename_i o6 H6 g6 n6 e6
    refine ⟨_, _, _, a, b, c, X, Y, W, sh, r, rfl, by walk_at "lq", by walk_at "lq", by walk_at "fq", nn, wp, s1, s2, a1, a2, a3, se, u1, u3, u2, fun r7 H7 x7 y7 g7 P7 x7e y7e => ?_⟩
    repeat walk_at "c2"
    rename_i o8 H8 g8 n8 e8 o9 H9 g9 n9 e9
    have kn : Fq K H9 (.ref o9) (-r) := Fq.neg e9
    refine ⟨_, _, _, a, b, c, X, Y, W, sh, -r, rfl, by walk_at "lq", by walk_at "lq", kn, nn, wp, s1, s2, a1, a2, a3, se, by rw [Rat.neg_num]; exact u1.neg, by rw [Rat.neg_den]; exact u3, by rw [Rat.neg_den]; exact u2, fun r10 H10 x10 y10 g10 P10 x10e y10e => ?_⟩
    have rn := ratz (show a * a + b * b ≠ 0 by omega)
    simp only [Rat.intCast_add, Rat.intCast_mul] at rn
    obtain ⟨t, et⟩ : ∃ t : Rat, r = t * W := ⟨r / W, by grind⟩
    have t0 : 0 ≤ t := by
      apply Rat.not_lt.mp
      intro z
      have : 0 ≤ -t := by grind
      have := mul_nn this (Rat.le_of_lt pW)
      have e0 : t * W = 0 := by grind
      rcases Rat.mul_eq_zero.mp e0 with z2 | z2
      · grind
      · exact rW z2
    have tt : t * t = d := by
      have : (W : Rat) * W * (t * t - d) = 0 := by rw [et] at er; grind
      rcases Rat.mul_eq_zero.mp this with z | z
      · rcases Rat.mul_eq_zero.mp z with z | z <;> exact absurd z rW
      · grind
    have i1 : x7 = cX a b c x y t := by unfold cX; rw [x7e, es, ex, et]; exact reach_x rn rW
    have i2 : y7 = cY a b c x y t := by unfold cY; rw [y7e, es, ey, et]; exact reach_y rn rW
    have i3 : x10 = cX a b c x y (-t) := by unfold cX; rw [x10e, es, ex, et, ← Rat.neg_mul]; exact reach_x rn rW
    have i4 : y10 = cY a b c x y (-t) := by unfold cY; rw [y10e, es, ey, et, ← Rat.neg_mul]; exact reach_y rn rW
    subst i1 i2 i3 i4
    repeat walk_at "c2"
    refine r_ite (fun n => ?_) (fun n => ?_)
    · repeat walk_at "c2"
      rename_i l3 H3 g3 n3 e3 o4 H4 g4 n4 e4
      refine q3 t t0 tt _ l3 _ (-t) (by walk_at "same") (L2.Same.free (by walk_at "same") n3) (by rw [if_pos n]) ?_
      rw [Rat.neg_neg]
      exact Ct2.mk e4 (g4 _ _ e3) (by walk_at "fq") (by walk_at "fq")
    · repeat walk_at "c2"
      rename_i l3 H3 g3 n3 e3 o4 H4 g4 n4 e4
      refine q3 t t0 tt _ l3 _ t (by walk_at "same") (L2.Same.free (by walk_at "same") n3) (by rw [if_neg n]) ?_
      exact Ct2.mk e4 (g4 _ _ e3) (by walk_at "fq") (by walk_at "fq")
  ) only [↓Mb.dischW]
theorem ok_equation (F : Fn K mg "equation" s_equation) (G_cleared : Kn P w K mg base 2 "cleared" ["p"] (spClearedJ K)) : Kn P w K mg base 3 "equation" ["ring"] (spEquationJ K) := by
  refine Mb.ofW ?_
  simp (discharger := with_unfolding_all
    refine F.kn sc_equation (fun vs H Q E h => ?_) (fun f cdv A outer s H vs Q E hr h => ?_) (fun _ _ _ _ _ _ us hl => match us, hl with | [_], _ => rfl)
    · obtain ⟨v, x, y, s, rfl, _⟩ := h
      rfl
    obtain ⟨v, x, y, s', rfl, h1, C, q⟩ := h
    obtain ⟨t1, t2⟩ := C.sz
    have tw : Sm 2 (2 : Int) := by decide
    refine ⟨_, (pss_cons (ps_asg (pe_kn G_cleared (hr.mono (by decide)) (by rfl) (pa_cons (pe_slice sl_tup (pv 0) po_none (po_some pe_int)) pa_nil)) (pg_tup (by rfl) (pgs_cons (pg_name (i := 1) sc_equation.nd rfl (.inl rfl)) (pgs_cons (pg_name (i := 2) sc_equation.nd rfl (.inl rfl)) (pgs_cons (pg_name (i := 3) sc_equation.nd rfl (.inl rfl)) pgs_nil)))))
      (pss_cons (ps_asg (pe_ix ix_tup (pv 0) pe_int (fun _ _ => rfl)) (pg_tup (by rfl) (pgs_cons (pg_name (i := 4) sc_equation.nd rfl (.inl rfl)) (pgs_cons (pg_name (i := 5) sc_equation.nd rfl (.inl rfl)) pgs_nil))))
      (pss_one (ps_ret (pe_tup (pa_cons (pe_op op_mulW (pe_op op_mulW (pv 3) (pv 3)) (pv 5)) (pa_cons (pe_op op_mulW (pe_op op_mulW (pe_op op_mulW pe_int (pv 1)) (pv 3)) (pv 5)) (pa_cons (pe_op op_mulW (pe_op op_mulW (pe_op op_mulW pe_int (pv 2)) (pv 3)) (pv 5)) (pa_cons (pe_op op_sub (pe_op op_mulW (pe_op op_mulW (pv 4) (pv 3)) (pv 3)) (pe_op op_mulW (pe_op op_add (pe_op op_mulW (pv 1) (pv 1)) (pe_op op_mulW (pv 2) (pv 2))) (pv 5))) pa_nil))))))))), ?_⟩
    show (_ : TS) _ [some v, none, none, none, none, none] _
    repeat walk_at "c2"
    rename_i ps Hs gs Ps
    refine ⟨_, x, y, 620, rfl, by walk_at "fq", C.jh, by omega, fun r1 H1 X Y W g1 k1 wp ex ey a1 a2 a3 => ?_⟩
    repeat walk_at "c2"
    rename_i fs ks o2 H2 g2 n2 e2
    have hs := hden s'
    have ds := den_ne' s'
    refine q _ _ _ _ _ _ (by walk_at "same") ⟨o2, rfl, tupOf e2⟩ (Int.mul_pos (Int.mul_pos wp wp) (den_pos s')) ?_ ?_ ?_ ((Sm.mul (Sm.mul a3 a3) t2).mono (by decide)) ((Sm.mul (Sm.mul (Sm.mul tw a1) a3) t2).mono (by decide)) ((Sm.mul (Sm.mul (Sm.mul tw a2) a3) t2).mono (by decide)) ((Sm.subm (Sm.mul (Sm.mul t1 a3) a3) (Sm.mul (Sm.addm (Sm.mul a1 a1) (Sm.mul a2 a2)) t2)).mono (by decide))
    · simp only [Rat.intCast_mul]
      rw [ex]
      show (2 : Rat) * _ * _ * _ = _
      grind
    · simp only [Rat.intCast_mul]
      rw [ey]
      show (2 : Rat) * _ * _ * _ = _
      grind
    · simp only [Rat.intCast_mul, Rat.intCast_sub, Rat.intCast_add]
      rw [ex, ey, ← hs]
      grind
  ) only [↓Mb.dischW]
theorem ok_common_line (F : Fn K mg "common_line" s_common_line) (G_equation : Kn P w K mg base 3 "equation" ["ring"] (spEquationJ K)) (G_one_form : Kn P w K mg base 2 "one_form" ["a", "b", "c"] (spOneForm K)) : Kn P w K mg base 4 "common_line" ["ring", "other"] (spCommonJ K) := by
  refine Mb.ofW ?_
  simp (discharger := with_unfolding_all
    refine F.kn sc_common_line (fun vs H Q E h => ?_) (fun f cdv A outer s H vs Q E hr h => ?_) (fun _ _ _ _ _ _ us hl => match us, hl with | [_, _], _ => rfl)
    · obtain ⟨v, w, x, y, s, x', y', s', rfl, _⟩ := h
      rfl
    obtain ⟨v, w, x, y, s1', x', y', s2', rfl, h1, h2, ne, C1, C2, q⟩ := h
    refine ⟨_, (pss_cons (ps_asg (pe_kn G_equation (hr.mono (by decide)) (by rfl) (pa_cons (pv 0) pa_nil)) (pg_tup (by rfl) (pgs_cons (pg_name (i := 2) sc_common_line.nd rfl (.inl rfl)) (pgs_cons (pg_name (i := 3) sc_common_line.nd rfl (.inl rfl)) (pgs_cons (pg_name (i := 4) sc_common_line.nd rfl (.inl rfl)) (pgs_cons (pg_name (i := 5) sc_common_line.nd rfl (.inl rfl)) pgs_nil))))))
      (pss_cons (ps_asg (pe_kn G_equation (hr.mono (by decide)) (by rfl) (pa_cons (pv 1) pa_nil)) (pg_tup (by rfl) (pgs_cons (pg_name (i := 6) sc_common_line.nd rfl (.inl rfl)) (pgs_cons (pg_name (i := 7) sc_common_line.nd rfl (.inl rfl)) (pgs_cons (pg_name (i := 8) sc_common_line.nd rfl (.inl rfl)) (pgs_cons (pg_name (i := 9) sc_common_line.nd rfl (.inl rfl)) pgs_nil))))))
      (pss_one (ps_ret (pe_kn G_one_form (hr.mono (by decide)) (by rfl) (pa_cons (pe_op op_sub (pe_op op_mulW (pv 7) (pv 2)) (pe_op op_mulW (pv 3) (pv 6))) (pa_cons (pe_op op_sub (pe_op op_mulW (pv 8) (pv 2)) (pe_op op_mulW (pv 4) (pv 6))) (pa_cons (pe_op op_sub (pe_op op_mulW (pv 5) (pv 6)) (pe_op op_mulW (pv 9) (pv 2))) pa_nil)))))))), ?_⟩
    show (_ : TS) _ [some v, some w, none, none, none, none, none, none, none, none] _
    repeat walk_at "c2"
    refine ⟨_, x, y, s1', rfl, h1, C1, fun r1 H1 m g h k g1 k1 m0 eg eh ek z1 z2 z3 z4 => ?_⟩
    repeat walk_at "c2"
    refine r_gE k1 rfl ?_
    repeat walk_at "c2"
    refine ⟨_, x', y', s2', rfl, h2.up g1, C2, fun r2 H2 m' g' h' k' g2 k2 m0' eg' eh' ek' y1 y2 y3 y4 => ?_⟩
    repeat walk_at "c2"
    refine r_gE k2 rfl ?_
    repeat walk_at "c2"
    have rm := ratz (show m ≠ 0 by omega)
    have rm' := ratz (show m' ≠ 0 by omega)
    have c1 : ((g' * m - g * m' : Int) : Rat) = 2 * (x' - x) * (m * m') := by simp only [Rat.intCast_sub, Rat.intCast_mul]; rw [eg, eg']; grind
    have c2 : ((h' * m - h * m' : Int) : Rat) = 2 * (y' - y) * (m * m') := by simp only [Rat.intCast_sub, Rat.intCast_mul]; rw [eh, eh']; grind
    have c3 : ((k * m' - k' * m : Int) : Rat) = ((s1' - x * x - y * y) - (s2' - x' * x' - y' * y')) * (m * m') := by simp only [Rat.intCast_sub, Rat.intCast_mul]; rw [ek, ek']; grind
    have nn : (m : Rat) * m' ≠ 0 := fun z => by rcases Rat.mul_eq_zero.mp z with z | z <;> contradiction
    refine ⟨_, _, _, 5000, rfl, ?_, (Sm.subm (Sm.mul y2 z1) (Sm.mul z2 y1)).mono (by decide), (Sm.subm (Sm.mul y3 z1) (Sm.mul z3 y1)).mono (by decide), (Sm.subm (Sm.mul z4 y1) (Sm.mul y4 z1)).mono (by decide), by decide, fun r H' A B C G g3 k3 hL gn e1 e2 e3 w1 w2 w3 => ?_⟩
    · rintro ⟨e1, e2⟩
      rw [e1] at c1
      rw [e2] at c2
      refine ne ⟨?_, ?_⟩
      · have : (2 : Rat) * (x' - x) * (m * m') = 0 := by rw [← c1]; rfl
        rcases Rat.mul_eq_zero.mp this with z | z
        · grind
        · contradiction
      · have : (2 : Rat) * (y' - y) * (m * m') = 0 := by rw [← c2]; rfl
        rcases Rat.mul_eq_zero.mp this with z | z
        · grind
        · contradiction
    · have rG := ratz gn
      rw [e1, Rat.intCast_mul] at c1
      rw [e2, Rat.intCast_mul] at c2
      rw [e3, Rat.intCast_mul] at c3
      refine q _ _ A B C ((G : Rat) / (m * m')) (by walk_at "same") k3 hL ?_ ?_ ?_ ?_
      · grind
      · grind
      · grind
      · grind
  ) only [↓Mb.dischW]
theorem ok_ring_cuts (F : Fn K mg "ring_cuts" s_ring_cuts) (G_common_line : Kn P w K mg base 4 "common_line" ["ring", "other"] (spCommonJ K)) (G_line_cuts : Kn P w K mg base 4 "line_cuts" ["line", "ring"] (spCutsJ K)) : Kn P w K mg base 5 "ring_cuts" ["ring", "other"] (spRingJ K) := by
  refine Mb.ofW ?_
  simp (discharger := with_unfolding_all
    refine F.kn sc_ring_cuts (fun vs H Q E h => ?_) (fun f cdv A outer s H vs Q E hr h => ?_) (fun _ _ _ _ _ _ us hl => match us, hl with | [_, _], _ => rfl)
    · obtain ⟨v, w, x, y, s, x', y', s', n, m, rfl, _⟩ := h
      rfl
    obtain ⟨v, w, x, y, s1', x', y', s2', n, m, rfl, h1, h2, C1, C2, l, q0, q1⟩ := h
    refine ⟨_, (pss_cons (ps_if (pt_cmpR (op_eqD hr.units) (pe_slice sl_tup (pv 0) po_none (po_some pe_int)) (pe_slice sl_tup (pv 1) po_none (po_some pe_int)) (nomark _))
      (pss_one (ps_ret (pe_tup (pa_cons pe_str (pa_cons (pe_lst pa_nil) pa_nil)))))
      pss_nil)
      (pss_one (ps_ret (pe_kn G_line_cuts (hr.mono (by decide)) (by rfl) (pa_cons (pe_kn G_common_line (hr.mono (by decide)) (by rfl) (pa_cons (pv 0) (pa_cons (pv 1) pa_nil))) (pa_cons (pv 0) pa_nil)))))), ?_⟩
    show (_ : TS) _ [some v, some w] _
    refine r_seq ?_
    repeat walk_at "c2"
    walk_at "eqd"
    repeat walk_at "c2"
    refine r_ite (fun c => ?_) (fun c => ?_)
    · repeat walk_at "c2"
      rename_i l3 H3 g3 n3 e3 o4 H4 g4 n4 e4
      exact q0 c _ l3 _ (by walk_at "same") (L2.Same.free (by walk_at "same") n3) (Ct0.mk e4 (g4 _ _ e3))
    repeat walk_at "c2"
    rename_i p1 H1 g1 P1 p2 H2 g2 P2
    refine ⟨_, _, x, y, s1', x', y', s2', rfl, by walk_at "cq", by walk_at "cq", c, C1.mono (by omega), C2.mono (by omega), fun r H3 a b cc g g3 k3 hL gn e1 e2 e3 => ?_⟩
    repeat walk_at "c2"
    have g4 : Same H H3 := by walk_at "same"
    obtain ⟨m1, m2, m3⟩ := q1 c a b cc g _ hL gn e1 e2 e3 ⟨rfl⟩
    obtain ⟨w1, w2, w3⟩ := jh_rings hL c C1 C2 e1 e2 e3
    refine ⟨_, _, a, b, cc, x, y, s1', _, _, n, rfl, k3, hL, h1.up g4, w1, w2, w3, C1, by omega, ⟨rfl⟩, ?_, ?_, ?_⟩
    · intro dn r l H' g5 n5 k5
      exact m1 dn r l H' (g4.trans g5) (L2.Same.free g4 n5) k5
    · intro dp no r l H' g5 n5 k5
      exact m2 dp no r l H' (g4.trans g5) (L2.Same.free g4 n5) k5
    · intro t t0 tt r l H' u g5 n5 hu k5
      exact m3 t t0 tt r l H' u (g4.trans g5) (L2.Same.free g4 n5) hu k5
  ) only [↓Mb.dischW]
theorem ok_in_line (F : Fn K mg "in_line" s_in_line) (G_way : Kn P w K mg base 3 "way" ["p", "q"] (spWayI K)) : Kn P w K mg base 4 "in_line" ["p", "q", "r"] (spIn K) := by
  refine Mb.ofW ?_
  simp (discharger := with_unfolding_all
    refine F.kn sc_in_line (fun vs H Q E h => ?_) (fun f cdv A outer s H vs Q E hr h => ?_) (fun _ _ _ _ _ _ us hl => match us, hl with | [_, _, _], _ => rfl)
    · obtain ⟨v, w, u, x, y, x', y', x2, y2, n, rfl, _⟩ := h
      rfl
    obtain ⟨v, w, u, x, y, x', y', x2, y2, n, rfl, h1, h2, h3, s1, s2, s3, s4, s5, s6, l, q⟩ := h
    refine ⟨_, (pss_cons (ps_asg (pe_kn G_way (hr.mono (by decide)) (by rfl) (pa_cons (pv 0) (pa_cons (pv 1) pa_nil))) (pg_tup (by rfl) (pgs_cons (pg_name (i := 3) sc_in_line.nd rfl (.inl rfl)) (pgs_cons (pg_name (i := 4) sc_in_line.nd rfl (.inl rfl)) (pgs_cons (pg_name (i := 5) sc_in_line.nd rfl (.inl rfl)) pgs_nil)))))
      (pss_cons (ps_asg (pe_kn G_way (hr.mono (by decide)) (by rfl) (pa_cons (pv 0) (pa_cons (pv 2) pa_nil))) (pg_tup (by rfl) (pgs_cons (pg_name (i := 6) sc_in_line.nd rfl (.inl rfl)) (pgs_cons (pg_name (i := 7) sc_in_line.nd rfl (.inl rfl)) (pgs_cons (pg_name (i := 8) sc_in_line.nd rfl (.inl rfl)) pgs_nil)))))
      (pss_one (ps_ret (pe_cmpR op_eq (pe_op op_mulW (pv 3) (pv 7)) (pe_op op_mulW (pv 4) (pv 6)) (nomark _)))))), ?_⟩
    show (_ : TS) _ [some v, some w, some u, none, none, none, none, none, none] _
    repeat walk_at "w"
    refine ⟨_, _, x, y, x', y', n, n, rfl, h1, h2, s1, s2, s3, s4, by omega, by omega, fun r1 H1 X Y W g1 k1 w1 ex ey a1 a2 a3 => ?_⟩
    have b1 : Sm 20000 X := a1.mono (by omega)
    have b2 : Sm 20000 Y := a2.mono (by omega)
    repeat walk_at "w"
    refine ⟨_, _, x, y, x2, y2, n, n, rfl, by walk_at "fq", by walk_at "fq", s1, s2, s5, s6, by omega, by omega, fun r2 H2 X2 Y2 W2 g2 k2 w2 ex2 ey2 a4 a5 a6 => ?_⟩
    have b4 : Sm 20000 X2 := a4.mono (by omega)
    have b5 : Sm 20000 Y2 := a5.mono (by omega)
    repeat walk_at "w"
    rw [show decide (X * Y2 = Y * X2) = decide ((x' - x) * (y2 - y) = (y' - y) * (x2 - x)) from decide_eq_decide.mpr ?_]
    · exact q _ (by walk_at "same")
    have nw := ratz (show W ≠ 0 by omega)
    have nw2 := ratz (show W2 ≠ 0 by omega)
    constructor
    · intro z
      have z := congrArg (Int.cast (R := Rat)) z
      simp only [Rat.intCast_mul] at z
      have d : ((W : Rat) * W2) * ((x' - x) * (y2 - y) - (y' - y) * (x2 - x)) = 0 := by grind
      rcases Rat.mul_eq_zero.mp d with y | y
      · rcases Rat.mul_eq_zero.mp y with y | y <;> contradiction
      · grind
    · intro z
      refine cast_inj ?_
      simp only [Rat.intCast_mul]
      grind
  ) only [↓Mb.dischW]
theorem ok_side_by_side (F : Fn K mg "side_by_side" s_side_by_side)  : Kn P w K mg base 1 "side_by_side" ["line", "other"] (spL2 K RSide) := by
  refine F.kn sc_side_by_side (fun vs H Q E h => ?_) (fun f cdv A outer s H vs Q E hr h => ?_) (fun _ _ _ _ _ _ us hl => match us, hl with | [_, _], _ => rfl)
  · obtain ⟨v, w, a, b, c, a', b', c', rfl, _⟩ := h
    rfl
  obtain ⟨v, w, a, b, c, a', b', c', rfl, h1, h2, s1, s2, s3, s4, q⟩ := h
  refine ⟨_, (pss_one (ps_ret (pe_cmpR op_eq (pe_op op_mulW (pe_ix ix_tup (pv 0) pe_int (fun _ _ => rfl)) (pe_ix ix_tup (pv 1) pe_int (fun _ _ => rfl))) (pe_op op_mulW (pe_ix ix_tup (pv 0) pe_int (fun _ _ => rfl)) (pe_ix ix_tup (pv 1) pe_int (fun _ _ => rfl))) (nomark _)))), ?_⟩
  show (_ : TS) _ [some v, some w] _
  repeat walk_at "w"
  exact q
theorem ok_square_on (F : Fn K mg "square_on" s_square_on)  : Kn P w K mg base 1 "square_on" ["line", "other"] (spL2 K RSq) := by
  refine F.kn sc_square_on (fun vs H Q E h => ?_) (fun f cdv A outer s H vs Q E hr h => ?_) (fun _ _ _ _ _ _ us hl => match us, hl with | [_, _], _ => rfl)
  · obtain ⟨v, w, a, b, c, a', b', c', rfl, _⟩ := h
    rfl
  obtain ⟨v, w, a, b, c, a', b', c', rfl, h1, h2, s1, s2, s3, s4, q⟩ := h
  refine ⟨_, (pss_one (ps_ret (pe_cmpR op_eq (pe_op op_add (pe_op op_mulW (pe_ix ix_tup (pv 0) pe_int (fun _ _ => rfl)) (pe_ix ix_tup (pv 1) pe_int (fun _ _ => rfl))) (pe_op op_mulW (pe_ix ix_tup (pv 0) pe_int (fun _ _ => rfl)) (pe_ix ix_tup (pv 1) pe_int (fun _ _ => rfl)))) pe_int (nomark _)))), ?_⟩
  show (_ : TS) _ [some v, some w] _
  repeat walk_at "w"
  exact q
theorem ok_lifted (F : Fn K mg "lifted" s_lifted) (G_way : Kn P w K mg base 3 "way" ["p", "q"] (spWayI K)) : Kn P w K mg base 4 "lifted" ["p", "q"] (spLifted K) := by
  refine Mb.ofW ?_
  simp (discharger := with_unfolding_all
    refine F.kn sc_lifted (fun vs H Q E h => ?_) (fun f cdv A outer s H vs Q E hr h => ?_) (fun _ _ _ _ _ _ us hl => match us, hl with | [_, _], _ => rfl)
    · obtain ⟨v, w, x, y, x', y', n, rfl, _⟩ := h
      rfl
    obtain ⟨v, w, x, y, x', y', n, rfl, h1, h2, s1, s2, s3, s4, l, q⟩ := h
    refine ⟨_, (pss_cons (ps_asg (pe_kn G_way (hr.mono (by decide)) (by rfl) (pa_cons (pv 0) (pa_cons (pv 1) pa_nil))) (pg_tup (by rfl) (pgs_cons (pg_name (i := 2) sc_lifted.nd rfl (.inl rfl)) (pgs_cons (pg_name (i := 3) sc_lifted.nd rfl (.inl rfl)) (pgs_cons (pg_name (i := 4) sc_lifted.nd rfl (.inl rfl)) pgs_nil)))))
      (pss_one (ps_ret (pe_tup (pa_cons (pe_op op_mulW (pv 2) (pv 4)) (pa_cons (pe_op op_mulW (pv 3) (pv 4)) (pa_cons (pe_op op_add (pe_op op_mulW (pv 2) (pv 2)) (pe_op op_mulW (pv 3) (pv 3))) pa_nil))))))), ?_⟩
    show (_ : TS) _ [some v, some w, none, none, none] _
    repeat walk_at "c1"
    refine ⟨_, _, x, y, x', y', n, n, rfl, h1, h2, s1, s2, s3, s4, by omega, by omega, fun r1 H1 X Y W g1 k1 w1 ex ey a1 a2 a3 => ?_⟩
    have b1 : Sm 20000 X := a1.mono (by omega)
    have b2 : Sm 20000 Y := a2.mono (by omega)
    have b3 : Sm 20000 W := a3.mono (by omega)
    repeat walk_at "c1"
    refine q _ _ _ _ _ W (by walk_at "same") (Lq.mk (by assumption)) w1 ?_ ?_ ?_ ?_ ?_ ?_
    · simp only [Rat.intCast_mul]; grind
    · simp only [Rat.intCast_mul]; grind
    · simp only [Rat.intCast_mul, Rat.intCast_add]; grind
    · exact (a1.mul a3).mono (by omega)
    · exact (a2.mul a3).mono (by omega)
    · exact Sm.mono (Sm.add (a1.mul a1) (a2.mul a2)) (by omega)
  ) only [↓Mb.dischW]
theorem ok_all_round (F : Fn K mg "all_round" s_all_round) (G_lifted : Kn P w K mg base 4 "lifted" ["p", "q"] (spLifted K)) : Kn P w K mg base 5 "all_round" ["p", "q", "r", "s"] (spRound K) := by
  refine Mb.ofW ?_
  simp (discharger := with_unfolding_all
    refine F.kn sc_all_round (fun vs H Q E h => ?_) (fun f cdv A outer s H vs Q E hr h => ?_) (fun _ _ _ _ _ _ us hl => match us, hl with | [_, _, _, _], _ => rfl)
    · obtain ⟨v1, v2, v3, v4, x1, y1, x2, y2, x3, y3, x4, y4, n, rfl, _⟩ := h
      rfl
    obtain ⟨v1, v2, v3, v4, x1, y1, x2, y2, x3, y3, x4, y4, n, rfl, h1, h2, h3, h4, s1, s2, s3, s4, s5, s6, s7, s8, l, q⟩ := h
    refine ⟨_, (pss_cons (ps_asg (pe_kn G_lifted (hr.mono (by decide)) (by rfl) (pa_cons (pv 0) (pa_cons (pv 1) pa_nil))) (pg_tup (by rfl) (pgs_cons (pg_name (i := 4) sc_all_round.nd rfl (.inl rfl)) (pgs_cons (pg_name (i := 5) sc_all_round.nd rfl (.inl rfl)) (pgs_cons (pg_name (i := 6) sc_all_round.nd rfl (.inl rfl)) pgs_nil)))))
      (pss_cons (ps_asg (pe_kn G_lifted (hr.mono (by decide)) (by rfl) (pa_cons (pv 0) (pa_cons (pv 2) pa_nil))) (pg_tup (by rfl) (pgs_cons (pg_name (i := 7) sc_all_round.nd rfl (.inl rfl)) (pgs_cons (pg_name (i := 8) sc_all_round.nd rfl (.inl rfl)) (pgs_cons (pg_name (i := 9) sc_all_round.nd rfl (.inl rfl)) pgs_nil)))))
      (pss_cons (ps_asg (pe_kn G_lifted (hr.mono (by decide)) (by rfl) (pa_cons (pv 0) (pa_cons (pv 3) pa_nil))) (pg_tup (by rfl) (pgs_cons (pg_name (i := 10) sc_all_round.nd rfl (.inl rfl)) (pgs_cons (pg_name (i := 11) sc_all_round.nd rfl (.inl rfl)) (pgs_cons (pg_name (i := 12) sc_all_round.nd rfl (.inl rfl)) pgs_nil)))))
      (pss_cons (ps_set (i := 13) sc_all_round.nd rfl (.inl rfl) (pe_op op_mulW (pv 4) (pe_op op_sub (pe_op op_mulW (pv 8) (pv 12)) (pe_op op_mulW (pv 9) (pv 11)))))
      (pss_cons (ps_set (i := 14) sc_all_round.nd rfl (.inl rfl) (pe_op op_mulW (pv 5) (pe_op op_sub (pe_op op_mulW (pv 9) (pv 10)) (pe_op op_mulW (pv 7) (pv 12)))))
      (pss_cons (ps_set (i := 15) sc_all_round.nd rfl (.inl rfl) (pe_op op_mulW (pv 6) (pe_op op_sub (pe_op op_mulW (pv 7) (pv 11)) (pe_op op_mulW (pv 8) (pv 10)))))
      (pss_one (ps_ret (pe_cmpR op_eq (pe_op op_add (pe_op op_add (pv 13) (pv 14)) (pv 15)) pe_int (nomark _)))))))))), ?_⟩
    show (_ : TS) _ [some v1, some v2, some v3, some v4, none, none, none, none, none, none, none, none, none, none, none, none] _
    repeat walk_at "c1"
    refine ⟨_, _, x1, y1, x2, y2, n, rfl, h1, h2, s1, s2, s3, s4, by omega, fun r1 H1 X Y Z W g1 k1 w1 e1 e2 e3 a1 a2 a3 => ?_⟩
    have b1 : Sm 31000 X := a1.mono (by omega)
    have b2 : Sm 31000 Y := a2.mono (by omega)
    have b3 : Sm 31000 Z := a3.mono (by omega)
    repeat walk_at "c1"
    refine ⟨_, _, x1, y1, x3, y3, n, rfl, by walk_at "fq", by walk_at "fq", s1, s2, s5, s6, by omega, fun r2 H2 X2 Y2 Z2 W2 g2 k2 w2 e4 e5 e6 a4 a5 a6 => ?_⟩
    have b4 : Sm 31000 X2 := a4.mono (by omega)
    have b5 : Sm 31000 Y2 := a5.mono (by omega)
    have b6 : Sm 31000 Z2 := a6.mono (by omega)
    repeat walk_at "c1"
    refine ⟨_, _, x1, y1, x4, y4, n, rfl, by walk_at "fq", by walk_at "fq", s1, s2, s7, s8, by omega, fun r3 H3 X3 Y3 Z3 W3 g3 k3 w3 e7 e8 e9 a7 a8 a9 => ?_⟩
    have b7 : Sm 31000 X3 := a7.mono (by omega)
    have b8 : Sm 31000 Y3 := a8.mono (by omega)
    have b9 : Sm 31000 Z3 := a9.mono (by omega)
    repeat walk_at "c1"
    refine q _ _ (by walk_at "same") ?_
    rw [decide_eq_true_iff]
    have nw := ratz (show W ≠ 0 by omega)
    have nw2 := ratz (show W2 ≠ 0 by omega)
    have nw3 := ratz (show W3 ≠ 0 by omega)
    have key : ((X * (Y2 * Z3 - Z2 * Y3) + Y * (Z2 * X3 - X2 * Z3) + Z * (X2 * Y3 - Y2 * X3) : Int) : Rat) = (-1) * (((W : Rat) * W) * ((W2 : Rat) * W2) * ((W3 : Rat) * W3)) * detQ x1 y1 x2 y2 x3 y3 x4 y4 := by
      simp only [Rat.intCast_add, Rat.intCast_sub, Rat.intCast_mul]
      rw [e1, e2, e3, e4, e5, e6, e7, e8, e9]
      exact det_key _ _ _ _ _ _ _ _ _ _ _
    constructor
    · intro z
      rw [z] at key
      have nz : (-1 : Rat) * (((W : Rat) * W) * ((W2 : Rat) * W2) * ((W3 : Rat) * W3)) ≠ 0 := by
        intro y
        simp only [Rat.mul_eq_zero, nw, nw2, nw3, or_self, or_false] at y
        exact absurd y (by decide)
      rcases Rat.mul_eq_zero.mp key.symm with y | y
      · exact absurd y nz
      · exact y
    · intro z
      rw [z, Rat.mul_zero] at key
      exact cast_inj key
  ) only [↓Mb.dischW]
theorem ok_as_far (F : Fn K mg "as_far" s_as_far) (G_way : Kn P w K mg base 3 "way" ["p", "q"] (spWayI K)) : Kn P w K mg base 4 "as_far" ["p", "q", "r", "s"] (spAsFar K) := by
  refine Mb.ofW ?_
  simp (discharger := with_unfolding_all
    refine F.kn sc_as_far (fun vs H Q E h => ?_) (fun f cdv A outer s H vs Q E hr h => ?_) (fun _ _ _ _ _ _ us hl => match us, hl with | [_, _, _, _], _ => rfl)
    · obtain ⟨v1, v2, v3, v4, x1, y1, x2, y2, x3, y3, x4, y4, n, rfl, _⟩ := h
      rfl
    obtain ⟨v1, v2, v3, v4, x1, y1, x2, y2, x3, y3, x4, y4, n, rfl, h1, h2, h3, h4, s1, s2, s3, s4, s5, s6, s7, s8, l, q⟩ := h
    refine ⟨_, (pss_cons (ps_asg (pe_kn G_way (hr.mono (by decide)) (by rfl) (pa_cons (pv 0) (pa_cons (pv 1) pa_nil))) (pg_tup (by rfl) (pgs_cons (pg_name (i := 4) sc_as_far.nd rfl (.inl rfl)) (pgs_cons (pg_name (i := 5) sc_as_far.nd rfl (.inl rfl)) (pgs_cons (pg_name (i := 6) sc_as_far.nd rfl (.inl rfl)) pgs_nil)))))
      (pss_cons (ps_asg (pe_kn G_way (hr.mono (by decide)) (by rfl) (pa_cons (pv 2) (pa_cons (pv 3) pa_nil))) (pg_tup (by rfl) (pgs_cons (pg_name (i := 7) sc_as_far.nd rfl (.inl rfl)) (pgs_cons (pg_name (i := 8) sc_as_far.nd rfl (.inl rfl)) (pgs_cons (pg_name (i := 9) sc_as_far.nd rfl (.inl rfl)) pgs_nil)))))
      (pss_one (ps_ret (pe_cmpR op_eq (pe_op op_mulW (pe_op op_mulW (pe_op op_add (pe_op op_mulW (pv 4) (pv 4)) (pe_op op_mulW (pv 5) (pv 5))) (pv 9)) (pv 9)) (pe_op op_mulW (pe_op op_mulW (pe_op op_add (pe_op op_mulW (pv 7) (pv 7)) (pe_op op_mulW (pv 8) (pv 8))) (pv 6)) (pv 6)) (nomark _)))))), ?_⟩
    show (_ : TS) _ [some v1, some v2, some v3, some v4, none, none, none, none, none, none] _
    repeat walk_at "c1"
    refine ⟨_, _, x1, y1, x2, y2, n, n, rfl, h1, h2, s1, s2, s3, s4, by omega, by omega, fun r1 H1 X Y W g1 k1 w1 e1 e2 a1 a2 a3 => ?_⟩
    have b1 : Sm 20000 X := a1.mono (by omega)
    have b2 : Sm 20000 Y := a2.mono (by omega)
    have b3 : Sm 20000 W := a3.mono (by omega)
    repeat walk_at "c1"
    refine ⟨_, _, x3, y3, x4, y4, n, n, rfl, by walk_at "fq", by walk_at "fq", s5, s6, s7, s8, by omega, by omega, fun r2 H2 X2 Y2 W2 g2 k2 w2 e3 e4 a4 a5 a6 => ?_⟩
    have b4 : Sm 20000 X2 := a4.mono (by omega)
    have b5 : Sm 20000 Y2 := a5.mono (by omega)
    have b6 : Sm 20000 W2 := a6.mono (by omega)
    repeat walk_at "c1"
    refine q _ _ (by walk_at "same") ?_
    rw [decide_eq_true_iff]
    have nw := ratz (show W ≠ 0 by omega)
    have nw2 := ratz (show W2 ≠ 0 by omega)
    have ka : (((X * X + Y * Y) * W2 * W2 : Int) : Rat) = (((W : Rat) * W) * ((W2 : Rat) * W2)) * ((x1 - x2) * (x1 - x2) + (y1 - y2) * (y1 - y2)) := by
      simp only [Rat.intCast_add, Rat.intCast_mul]
      rw [e1, e2]
      grind
    have kb : (((X2 * X2 + Y2 * Y2) * W * W : Int) : Rat) = (((W : Rat) * W) * ((W2 : Rat) * W2)) * ((x3 - x4) * (x3 - x4) + (y3 - y4) * (y3 - y4)) := by
      simp only [Rat.intCast_add, Rat.intCast_mul]
      rw [e3, e4]
      grind
    have nz : ((W : Rat) * W) * ((W2 : Rat) * W2) ≠ 0 := by
      intro y
      simp only [Rat.mul_eq_zero, nw, nw2, or_self] at y
    constructor
    · intro z
      rw [z, kb] at ka
      have d : (((W : Rat) * W) * ((W2 : Rat) * W2)) * (((x1 - x2) * (x1 - x2) + (y1 - y2) * (y1 - y2)) - ((x3 - x4) * (x3 - x4) + (y3 - y4) * (y3 - y4))) = 0 := by grind
      rcases Rat.mul_eq_zero.mp d with y | y
      · exact absurd y nz
      · grind
    · intro z
      refine cast_inj ?_
      rw [ka, kb, z]
  ) only [↓Mb.dischW]
theorem ok_sort_of {A_WORDS : Addr} (g_WORDS : mg "WORDS" = some (.ref A_WORDS)) (W_WORDS : Wt K w A_WORDS) (F : Fn K mg "sort_of" s_sort_of) : Kn P w K mg base 1 "sort_of" ["making"] (spSort K) := by
  refine Mb.ofW ?_
  simp (discharger := with_unfolding_all
    refine F.kn sc_sort_of (fun vs H Q E h => ?_) (fun f cdv A outer s H vs Q E hr h => ?_) (fun _ _ _ _ _ _ us hl => match us, hl with | [_], _ => rfl)
    · obtain ⟨a, x, s, g, r, rfl, _⟩ := h
      rfl
    obtain ⟨a, x, so, g, r, rfl, hm, ht, q⟩ := h
    obtain ⟨t, u, kd, k1, k2⟩ := W_WORDS x so g ht
    refine ⟨_, (pss_one (ps_ret (pe_ix ix_tup (pe_ix ix_kdict (pe_glob (v := .ref A_WORDS) (by rfl) g_WORDS rfl) (pe_ix ix_tup (pv 0) pe_int (fun _ _ => rfl)) (fun _ _ => rfl)) pe_int (fun _ _ => rfl)))), ?_⟩
    show (_ : TS) _ [some (.ref a)] _
    repeat walk_at "st"
    refine r_ixT0 hm ?_
    refine ⟨A_WORDS, x, .ref t, rfl, rfl, kd, ?_⟩
    repeat walk_at "st"
    refine r_ixT0 (k1 _) ?_
    exact q
  ) only [↓Mb.dischW]
theorem ok_wanted {A_WORDS : Addr} (g_WORDS : mg "WORDS" = some (.ref A_WORDS)) (W_WORDS : Wt K w A_WORDS) (F : Fn K mg "wanted" s_wanted) : Kn P w K mg base 1 "wanted" ["making"] (spWanted K) := by
  refine Mb.ofW ?_
  simp (discharger := with_unfolding_all
    refine F.kn sc_wanted (fun vs H Q E h => ?_) (fun f cdv A outer s H vs Q E hr h => ?_) (fun _ _ _ _ _ _ us hl => match us, hl with | [_], _ => rfl)
    · obtain ⟨a, x, s, g, r, rfl, _⟩ := h
      rfl
    obtain ⟨a, x, so, g, r, rfl, hm, ht, q⟩ := h
    obtain ⟨t, u, kd, k1, k2⟩ := W_WORDS x so g ht
    refine ⟨_, (pss_one (ps_ret (pe_ix ix_tup (pe_ix ix_kdict (pe_glob (v := .ref A_WORDS) (by rfl) g_WORDS rfl) (pe_ix ix_tup (pv 0) pe_int (fun _ _ => rfl)) (fun _ _ => rfl)) pe_int (fun _ _ => rfl)))), ?_⟩
    show (_ : TS) _ [some (.ref a)] _
    repeat walk_at "st"
    refine r_ixT0 hm ?_
    refine ⟨A_WORDS, x, .ref t, rfl, rfl, kd, ?_⟩
    have k1' := k1 H
    repeat walk_at "st"
    exact q u (k2 H)
  ) only [↓Mb.dischW]
theorem ok_grounds (F : Fn K mg "grounds" s_grounds) (G_wanted : Kn P w K mg base 1 "wanted" ["making"] (spWanted K)) (z_len : mg "len" = none) (z_list : mg "list" = none) : Kn P w K mg base 2 "grounds" ["making"] (spGrounds K) := by
  refine Mb.ofW ?_
  simp (discharger := with_unfolding_all
    refine F.kn sc_grounds (fun vs H Q E h => ?_) (fun f cdv A outer s H vs Q E hr h => ?_) (fun _ _ _ _ _ _ us hl => match us, hl with | [_], _ => rfl)
    · obtain ⟨a, x, s, g, ns, r, rfl, _⟩ := h
      rfl
    obtain ⟨a, x, so, g, ns, r, rfl, hm, ht, hn, q⟩ := h
    refine ⟨_, (pss_one (ps_ret (pe_callTy call_list_of (by rfl) z_list (by decide +kernel) (pa_cons (pe_slice sl_tup (pv 0) (po_some pe_int) (po_some (pe_op op_add pe_int (pe_callB call_len_seq (by rfl) z_len (by decide +kernel) (pa_cons (pe_kn G_wanted (hr.mono (by decide)) (by rfl) (pa_cons (pv 0) pa_nil)) pa_nil))))) pa_nil)))), ?_⟩
    show (_ : TS) _ [some (.ref a)] _
    repeat walk_at "st"
    refine r_slR ?_
    repeat walk_at "st"
    refine r_partR ?_
    repeat walk_at "st"
    refine r_partR ?_
    repeat walk_at "st"
    refine ⟨a, x, so, g, _, rfl, hm, ht, fun u hu => ?_⟩
    repeat walk_at "st"
    refine ⟨u, _, rfl, .inr hu, ?_⟩
    repeat walk_at "st"
    refine ⟨a, _, rfl, hm, cut_part, fun p hp => ?_⟩
    rw [cut_names (by rw [List.length_map, List.length_map, hn])]
    repeat walk_at "st"
    have s1 := same_new hp (.tup (ns.map V.str))
    refine ⟨p, _, rfl, .inr (tupOf upd_same), fun l hl => ?_⟩
    have s2 := same_new hl (.lst (ns.map V.str))
    exact q l _ (s1.trans s2) (s1.free hl) upd_same
  ) only [↓Mb.dischW]
theorem ok_fits (F : Fn K mg "fits" s_fits) : Kn P w K mg base 1 "fits" ["sort", "due"] spFits := by
  refine Mb.ofW ?_
  simp (discharger := with_unfolding_all
    refine F.kn sc_fits (fun vs H Q E h => ?_) (fun f cdv A outer s H vs Q E hr h => ?_) (fun _ _ _ _ _ _ us hl => match us, hl with | [_, _], _ => rfl)
    · obtain ⟨s, due, rfl, _⟩ := h
      rfl
    obtain ⟨s, due, rfl, q⟩ := h
    unfold fitB at q
    refine ⟨_, (pss_cons (ps_if (pt_cmpR op_eq (pv 1) pe_str (nomark _))
      (pss_one (ps_ret (pe_cmpR op_in_seq (pv 0) (pe_tup (pa_cons pe_str (pa_cons pe_str pa_nil))) (by rfl))))
      pss_nil)
      (pss_one (ps_ret (pe_cmpR op_eq (pv 0) (pv 1) (nomark _))))), ?_⟩
    show (_ : TS) _ [some (.str s), some (.str due)] _
    refine r_seq ?_
    repeat walk_at "st"
    refine r_ite (c := due = "curve") (fun c => ?_) (fun c => ?_)
    · rw [if_pos c] at q
      repeat walk_at "st"
      refine ⟨sz rfl, fun l3 n3 => ?_⟩
      refine r_inS (zs := ["line", "circle"]) (tupOf upd_same) ?_
      repeat walk_at "st"
      exact q _ (same_new n3 _)
    · rw [if_neg c] at q
      repeat walk_at "st"
      exact q _ (Same.refl H)
  ) only [↓Mb.dischW]
theorem ok_below (F : Fn K mg "below" s_below) (z_abs : mg "abs" = none) : Kn P w K mg base 1 "below" ["one", "bound"] (spBelow K) := by
  refine Mb.ofW ?_
  simp (discharger := with_unfolding_all
    refine F.kn sc_below (fun vs H Q E h => ?_) (fun f cdv A outer s H vs Q E hr h => ?_) (fun _ _ _ _ _ _ us hl => match us, hl with | [_, _], _ => rfl)
    · obtain ⟨v, q, b, rfl, _⟩ := h
      rfl
    obtain ⟨v, q, b, rfl, ⟨a, rfl, ta⟩, k⟩ := h
    refine ⟨_, (pss_one (ps_ret (pe_and (pe_cmpR op_lt (pe_callB call_abs (by rfl) z_abs (by decide +kernel) (pa_cons (pe_ix ix_tup (pv 0) pe_int (fun _ _ => rfl)) pa_nil)) (pv 1) (nomark _)) (pe_one (pe_cmpR op_lt (pe_ix ix_tup (pv 0) pe_int (fun _ _ => rfl)) (pv 1) (nomark _)))))), ?_⟩
    show (_ : TS) _ [some (.ref a), some (.int b)] _
    repeat walk_at "st"
    refine ⟨_, rfl, ?_⟩
    repeat walk_at "st"
    have e : (if q.num < 0 then -q.num else q.num) = (q.num.natAbs : Int) := by split <;> omega
    rw [e]
    by_cases c : ((q.num.natAbs : Int) < b)
    · rw [decide_eq_true c]
      rw [decide_eq_true c, Bool.true_and] at k
      refine r_keep ?_
      repeat walk_at "st"
      exact k
    · rw [decide_eq_false c]
      rw [decide_eq_false c, Bool.false_and] at k
      exact k
  ) only [↓Mb.dischW]
theorem ok_near (F : Fn K mg "near" s_near) (G_below : Kn P w K mg base 1 "below" ["one", "bound"] (spBelow K)) {t1 t2 : Tok} (c_FREE_BOUND : mg "FREE_BOUND" = some (.int 1000000000 t1)) (c_SHARE_BOUND : mg "SHARE_BOUND" = some (.int 1000 t2)) : Kn P w K mg base 2 "near" ["making"] (spNearM K) := by
  refine Mb.ofW ?_
  simp (discharger := with_unfolding_all
    refine F.kn sc_near (fun vs H Q E h => ?_) (fun f cdv A outer s H vs Q E hr h => ?_) (fun _ _ _ _ _ _ us hl => match us, hl with | [_], _ => rfl)
    · obtain ⟨m, x, ns, d, L, rfl, _⟩ := h
      rfl
    obtain ⟨m, x, ns, d, L, rfl, ⟨r, tm, tl⟩, ⟨so, g, tx, pr⟩, nr, q⟩ := h
    refine ⟨_, (pss_cons (ps_if (pt_cmpR op_eq (pe_ix ix_tup (pv 0) pe_int (fun _ _ => rfl)) pe_str (nomark _))
      (pss_one (ps_ret (pe_and (pe_kn G_below (hr.mono (by decide)) (by rfl) (pa_cons (pe_ix ix_tup (pv 0) pe_int (fun _ _ => rfl)) (pa_cons (pe_glob (v := .int 1000000000) (by rfl) c_FREE_BOUND ⟨_, rfl⟩) pa_nil))) (pe_one (pe_kn G_below (hr.mono (by decide)) (by rfl) (pa_cons (pe_ix ix_tup (pv 0) pe_int (fun _ _ => rfl)) (pa_cons (pe_glob (v := .int 1000000000) (by rfl) c_FREE_BOUND ⟨_, rfl⟩) pa_nil)))))))
      pss_nil)
      (pss_cons (ps_if (pt_cmpR op_eq (pe_ix ix_tup (pv 0) pe_int (fun _ _ => rfl)) pe_str (nomark _))
      (pss_one (ps_ret (pe_kn G_below (hr.mono (by decide)) (by rfl) (pa_cons (pe_ix ix_tup (pv 0) pe_int (fun _ _ => rfl)) (pa_cons (pe_glob (v := .int 1000) (by rfl) c_SHARE_BOUND ⟨_, rfl⟩) pa_nil)))))
      pss_nil)
      (pss_one (ps_ret pe_bl)))), ?_⟩
    show (_ : TS) _ [some (.ref m)] _
    refine r_seq ?_
    repeat walk_at "st"
    refine r_ixT0 tm ?_
    repeat walk_at "st"
    refine r_ite (c := x = "free") (fun c => ?_) (fun c => ?_)
    · subst c
      cases d with
      | fr p2 q2 =>
        obtain ⟨_, u, v, rfl, hu, hv⟩ := tl
        have n0 : ns = [] := by
          have e : g = [] := nil_of tx rfl
          subst e
          cases pr
          rfl
        subst n0
        replace tm : SqT K H m [.str "free", u, v] := tm
        obtain ⟨⟨a1, a2⟩, a3, a4⟩ := nr
        repeat walk_at "st"
        refine ⟨u, p2, _, rfl, hu, ?_⟩
        rw [decide_eq_true a1, decide_eq_true a2]
        repeat walk_at "st"
        rw [if_pos (by decide)]
        repeat walk_at "st"
        refine ⟨v, q2, _, rfl, hv, ?_⟩
        rw [decide_eq_true a3, decide_eq_true a4]
        repeat walk_at "st"
        exact q
      | sh t => exact absurd tl.1 (by decide)
      | ct n => exact absurd tl.1 (by decide)
      | no => exact absurd rfl tl.1
    repeat walk_at "st"
    refine r_seq ?_
    repeat walk_at "st"
    refine r_ixT0 tm ?_
    repeat walk_at "st"
    refine r_ite (c := x = "share") (fun c2 => ?_) (fun c2 => ?_)
    · subst c2
      cases d with
      | sh t =>
        obtain ⟨_, u, rfl, hu⟩ := tl
        obtain ⟨z1, z2, rfl⟩ := pair_of (by rw [Paired.length pr]; exact two_of tx (.inl rfl))
        replace tm : SqT K H m [.str "share", .str z1, .str z2, u] := tm
        repeat walk_at "st"
        refine ⟨u, t, _, rfl, hu, ?_⟩
        rw [decide_eq_true nr.1, decide_eq_true nr.2]
        repeat walk_at "st"
        exact q
      | fr p2 q2 => exact absurd tl.1 (by decide)
      | ct n => exact absurd tl.1 (by decide)
      | no => exact absurd rfl tl.2.1
    · repeat walk_at "st"
      exact q
  ) only [↓Mb.dischW]
theorem ok_good (F : Fn K mg "good" s_good) (z_len : mg "len" = none) {t1 t2 t3 : Tok} (c_LONGEST : mg "LONGEST" = some (.int 12 t1)) (c_LETTERS : mg "LETTERS" = some (.str LET t2)) (c_FIGURES : mg "FIGURES" = some (.str FIG t3)) : Kn P w K mg base 1 "good" ["name"] spGoodN := by
  refine Mb.ofW ?_
  simp (discharger := with_unfolding_all
    refine F.kn sc_good (fun vs H Q E h => ?_) (fun f cdv A outer s H vs Q E hr h => ?_) (fun _ _ _ _ _ _ us hl => match us, hl with | [_], _ => rfl)
    · obtain ⟨z, rfl, _⟩ := h
      rfl
    obtain ⟨z, rfl, hz, q⟩ := h
    refine ⟨_, (pss_cons (ps_if (PW.pt (pw_or (pt_cmpR op_lt (pe_callB call_len_str (by rfl) z_len (by decide +kernel) (pa_cons (pv 0) pa_nil)) pe_int (nomark _)) (pw_or1 (pt_cmpR op_gt (pe_callB call_len_str (by rfl) z_len (by decide +kernel) (pa_cons (pv 0) pa_nil)) (pe_glob (v := .int 12) (by rfl) c_LONGEST ⟨_, rfl⟩) (nomark _)))))
      (pss_one (ps_ret pe_bl))
      pss_nil)
      (pss_cons (ps_if (pt_cmpR op_notIn_sign (pe_ix ix_str (pv 0) pe_int (fun _ _ => rfl)) (pe_glob (v := .str k_LETTERS) (by rfl) c_LETTERS ⟨_, rfl⟩) (by rfl))
      (pss_one (ps_ret pe_bl))
      pss_nil)
      (pss_cons (ps_for PassesOwn.never rfl (pi_str (pv 0)) (pg_name (i := 1) sc_good.nd rfl (.inl rfl))
      (pss_one (ps_if (PW.pt (pw_and (pt_cmpR op_notIn_sign (pv 1) (pe_glob (v := .str k_LETTERS) (by rfl) c_LETTERS ⟨_, rfl⟩) (by rfl)) (pw_and1 (pt_cmpR op_notIn_sign (pv 1) (pe_glob (v := .str k_FIGURES) (by rfl) c_FIGURES ⟨_, rfl⟩) (by rfl)))))
      (pss_one (ps_ret pe_bl))
      pss_nil)))
      (pss_one (ps_ret pe_bl))))), ?_⟩
    show (_ : TS) _ [some (.str z), none] _
    have hz2 : z.length ≤ sizeLine := Nat.le_trans hz (by decide)
    have hzl : z.cps.toList.length = z.length := Array.length_toList
    refine r_seq ?_
    repeat walk_at "st"
    refine ⟨z, rfl, hz2, ?_⟩
    repeat walk_at "st"
    refine r_ite (fun c1 => ?_) (fun c1 => ?_)
    · repeat walk_at "st"
      have e : goodB z = false := by
        unfold goodB headB
        rw [decide_eq_false (show ¬ (1 : Int) ≤ z.length by omega)]
        rfl
      rw [e] at q
      exact q
    repeat walk_at "st"
    refine ⟨z, rfl, hz2, ?_⟩
    repeat walk_at "st"
    refine r_ite (fun c2 => ?_) (fun c2 => ?_)
    · repeat walk_at "st"
      have e : goodB z = false := by
        unfold goodB headB
        rw [decide_eq_false (show ¬ (z.length : Int) ≤ 12 by omega), Bool.false_and, Bool.and_false]
        rfl
      rw [e] at q
      exact q
    repeat walk_at "st"
    obtain ⟨c, r, ecr⟩ : ∃ c r, z.cps.toList = c :: r := by
      cases e : z.cps.toList with
      | nil =>
        rw [e] at hzl
        simp at hzl
        omega
      | cons c r => exact ⟨c, r, rfl⟩
    refine r_seq ?_
    repeat walk_at "st"
    refine ⟨z, 0, c, rfl, rfl, hz2, by rw [ecr]; exact atI_nat (j := 0) rfl, ?_⟩
    repeat walk_at "st"
    refine ⟨c, LET, rfl, rfl, ?_⟩
    repeat walk_at "st"
    refine r_iteN (fun c3 => ?_) (fun c3 => ?_)
    · repeat walk_at "st"
      have e : goodB z = false := by
        unfold goodB headB
        rw [ecr]
        rw [show firstB (c :: r) = decide (c ∈ LET.cps.toList) from rfl, decide_eq_false c3, Bool.and_false, Bool.and_false]
        rfl
      rw [e] at q
      exact q
    have eh : headB z = true := by
      unfold headB
      rw [ecr]
      rw [show firstB (c :: r) = decide (c ∈ LET.cps.toList) from rfl, decide_eq_true c3, decide_eq_true (show (1 : Int) ≤ z.length by omega), decide_eq_true (show (z.length : Int) ≤ 12 by omega)]
      rfl
    repeat walk_at "st"
    refine r_seq ?_
    refine ⟨.str z, rfl, z, rfl, for_str (fun i σ H1 => H1 = H ∧ (∃ y, σ = [some (.str z), y]) ∧ (z.cps.toList.take i).all okc = true) ⟨rfl, ⟨_, rfl⟩, rfl⟩ ?_ ?_⟩
    · rintro i d σ H1 hd ⟨rfl, ⟨y, rfl⟩, ha⟩
      repeat walk_at "st"
      refine ⟨d, LET, rfl, rfl, ?_⟩
      repeat walk_at "st"
      have bad : ¬ d ∈ LET.cps.toList → ¬ d ∈ FIG.cps.toList → goodB z = false := fun a b => by
        have e : z.cps.toList.all okc = false := by
          rw [List.all_eq_false]
          refine ⟨d, List.mem_of_getElem? hd, ?_⟩
          unfold okc
          rw [decide_eq_false a, decide_eq_false b]
          decide
        unfold goodB
        rw [e, Bool.and_false]
      refine r_iteN (fun c4 => ?_) (fun c4 => ?_)
      · repeat walk_at "st"
        refine ⟨d, FIG, rfl, rfl, ?_⟩
        repeat walk_at "st"
        refine r_iteN (fun c5 => ?_) (fun c5 => ?_)
        · repeat walk_at "st"
          rw [bad c4 c5] at q
          exact q
        · repeat walk_at "st"
          refine ⟨rfl, ⟨_, rfl⟩, ?_⟩
          rw [all_take okc hd, ha]
          unfold okc
          rw [decide_eq_true c5, Bool.or_true]
          rfl
      · repeat walk_at "st"
        refine ⟨rfl, ⟨_, rfl⟩, ?_⟩
        rw [all_take okc hd, ha]
        unfold okc
        rw [decide_eq_true c4]
        rfl
    · rintro σ H1 ⟨rfl, ⟨y, rfl⟩, ha⟩
      rw [List.take_length] at ha
      repeat walk_at "st"
      have e : goodB z = true := by
        unfold goodB
        rw [eh, ha]
        rfl
      rw [e] at q
      exact q
  ) only [↓Mb.dischW]
theorem ok_weight (F : Fn K mg "weight" s_weight) (G_grounds : Kn P w K mg base 2 "grounds" ["making"] (spGrounds K)) (z_sum : mg "sum" = none) : Kn P w K mg base 3 "weight" ["making", "sorts", "weighed"] (spWeight K) := by
  refine Mb.ofW ?_
  simp (discharger := with_unfolding_all
    refine F.kn sc_weight (fun vs H Q E h => ?_) (fun f cdv A outer s H vs Q E hr h => ?_) (fun _ _ _ _ _ _ us hl => match us, hl with | [_, _, _], _ => rfl)
    · obtain ⟨m, S, W, x, ns, L, rfl, _⟩ := h
      rfl
    obtain ⟨m, S, W, x, ns, L, rfl, ⟨r, tm, tl⟩, ⟨⟨so, g, tx, hn⟩, hz⟩, dc, q⟩ := h
    refine ⟨_, (pss_cons (ps_set (i := 3) sc_weight.nd rfl (.inl rfl) (pe_ix ix_tup (pv 0) pe_int (fun _ _ => rfl)))
      (pss_cons (ps_if (pt_cmpR op_eq (pv 3) pe_str (nomark _))
      (pss_one (ps_ret pe_int))
      pss_nil)
      (pss_cons (ps_set (i := 4) sc_weight.nd rfl (.inl rfl) (pe_kn G_grounds (hr.mono (by decide)) (by rfl) (pa_cons (pv 0) pa_nil)))
      (pss_cons (ps_setLc (i := 5) (own := [("name", 6)]) (g := gName 6) (by rfl) sc_weight.nd rfl rfl (sw_true rfl rfl rfl (by decide +kernel)) (pi_list (pv 4)) (blkOk_by (own := [("name", 6)]) (N := ["making", "sorts", "weighed", "word", "names", "loads", "name"]) (sc := (defScope s_weight)) (by decide +kernel)) (fun _ _ _ _ _ => pg_name (i := 6) sc_weight.nd rfl (.inl rfl)) (fun _ _ _ _ _ => pts_nil) (fun _ _ _ _ _ => (pe_dget (u1 hr.units) (pv 2) (pv 6) (fun _ _ => rfl))))
      (pss_cons (ps_if (pt_cmpR op_in_seq (pv 3) (pe_tup (pa_cons pe_str (pa_cons pe_str pa_nil))) (by rfl))
      (pss_one (ps_ret (pe_op op_add (pe_ix ix_list (pv 5) pe_int (fun _ _ => rfl)) (pe_op op_mulW pe_int (pe_ix ix_list (pv 5) pe_int (fun _ _ => rfl))))))
      pss_nil)
      (pss_cons (ps_if (PW.pt (pw_and (pt_cmpR op_eq (pv 3) pe_str (nomark _)) (pw_and1 (pt_cmpR op_eq (pe_dget (u1 hr.units) (pv 1) (pe_ix ix_list (pv 4) pe_int (fun _ _ => rfl)) (fun _ _ => rfl)) pe_str (nomark _)))))
      (pss_one (ps_ret (pe_op op_mulW pe_int (pe_callB (cr_sum (by rfl)) (by rfl) z_sum (by decide +kernel) (pa_cons (pv 5) pa_nil)))))
      pss_nil)
      (pss_cons (ps_if (pt_cmpR op_eq (pv 3) pe_str (nomark _))
      (pss_one (ps_ret (pe_op op_add (pe_op op_mulW pe_int (pe_ix ix_list (pv 5) pe_int (fun _ _ => rfl))) (pe_ix ix_list (pv 5) pe_int (fun _ _ => rfl)))))
      pss_nil)
      (pss_cons (ps_if (pt_cmpR op_in_seq (pv 3) (pe_tup (pa_cons pe_str (pa_cons pe_str pa_nil))) (by rfl))
      (pss_one (ps_ret (pe_op op_mulW pe_int (pe_callB (cr_sum (by rfl)) (by rfl) z_sum (by decide +kernel) (pa_cons (pv 5) pa_nil)))))
      pss_nil)
      (pss_one (ps_ret (pe_callB (cr_sum (by rfl)) (by rfl) z_sum (by decide +kernel) (pa_cons (pv 5) pa_nil)))))))))))), ?_⟩
    show (_ : TS) _ [some (.ref m), some (.ref S), some (.ref W), none, none, none, none] _
    repeat walk_at "st"
    refine r_ixT0 tm ?_
    repeat walk_at "st"
    refine r_seq ?_
    repeat walk_at "st"
    refine r_ite (fun c => ?_) (fun c => ?_)
    · repeat walk_at "st"
      rw [show wOf x ns L = 1 by unfold wOf; rw [if_pos c]] at q
      exact q _ (Same.refl H)
    repeat walk_at "st"
    refine ⟨m, x, so, g, ns, r, rfl, tm, tx, hn, fun l H1 s1 n1 e1 => ?_⟩
    have len : ns.length < 64 := by rw [hn]; exact few tx
    repeat walk_at "st"
    refine r_lcM ?_
    repeat walk_at "st"
    refine lc_map (fun v => match v with | .str z => .int (wtE L z) | _ => .non) (lstOf e1) (by rw [List.length_map]; omega) (fun _ => rfl) (fun i v H' hv g' R k => ?_) fun D H2 s2 n2 e2 => ?_
    · rw [List.getElem?_map] at hv
      obtain ⟨z, hz1, rfl⟩ := Option.map_eq_some_iff.mp hv
      refine r_dg ?_
      repeat walk_at "st"
      refine ⟨W, _, rfl, get_load (g' _ _ (s1 _ _ dc.w)) (hz z (List.mem_of_getElem? hz1)).1, ?_⟩
      exact k _ (Same.refl _)
    rw [List.map_map] at e2
    replace e2 : H2 D = some (.lst ((ns.map (wtE L)).map V.int)) := by rw [List.map_map]; exact e2
    have g2 := s1.trans s2
    replace dc := dc.same g2
    replace tm := g2.tp tm
    have d2 := s2 _ _ e1
    clear s2 s1 n2
    repeat walk_at "st"
    have hl := dc.light
    have wb := fun z => hl.wt z
    have two : x = "foot" ∨ x = "mirror" ∨ x = "cut" → ∃ a b, ns = [a, b] := fun h => pair_of (by rw [hn]; exact two_of tx (by rcases h with h | h | h <;> simp [h]))
    -- foot, mirror
    refine r_seq ?_
    repeat walk_at "st"
    refine ⟨sz rfl, fun l3 n3 => ?_⟩
    refine r_inS (zs := ["foot", "mirror"]) (tupOf upd_same) ?_
    have s3 := same_new n3 (.tup [V.str "foot", .str "mirror"])
    generalize upd H2 l3 (.tup [V.str "foot", .str "mirror"]) = H3 at *
    have g3 := g2.trans s3
    have e3 := s3 _ _ e2
    have d3 := s3 _ _ d2
    replace dc := dc.same s3
    repeat walk_at "st"
    refine r_ite (fun c1 => ?_) (fun c1 => ?_)
    · have c1' : x = "foot" ∨ x = "mirror" := by simpa using c1
      obtain ⟨a, b, rfl⟩ := two (c1'.elim .inl fun h => .inr (.inl h))
      have ha := wb a
      have hb := wb b
      repeat walk_at "st"
      refine ⟨_, _, rfl, rfl, cm_small (by omega) (by omega), ?_⟩
      repeat walk_at "st"
      rw [show wOf x [a, b] L = wtE L a + 2 * wtE L b by unfold wOf; rw [if_neg c, if_pos c1']; rfl] at q
      exact q _ g3
    have c1' : ¬ (x = "foot" ∨ x = "mirror") := by simpa using c1
    repeat walk_at "st"
    with_reducible refine r_cut (fun σ H' => σ = [some (.ref m), some (.ref S), some (.ref W), some (.str x), some (.ref l), some (.ref D), none] ∧ H' = H3 ∧ (x = "cut" → ¬ srtE L (ns.getD 0 "") = "circle")) ?U1 ?V1
    case V1 =>
      intro N J
      repeat walk_at "st"
      refine r_ite (fun c2 => ?_) (fun c2 => ?_)
      · obtain ⟨a, b, rfl⟩ := two (.inr (.inr c2))
        have ha := wb a
        have hb := wb b
        repeat walk_at "st"
        refine r_dg ?_
        repeat walk_at "st"
        refine ⟨S, _, rfl, get_sort dc.s (hz a (by simp)).1, ?_⟩
        repeat walk_at "st"
        refine r_ite (fun c3 => ?_) (fun c3 => ?_)
        · repeat walk_at "st"
          refine ⟨D, _, rfl, lstOf e3, ?_⟩
          repeat walk_at "st"
          have e : ([a, b].map (wtE L)).sum = wtE L a + wtE L b := by simp
          rw [e]
          refine ⟨_, _, rfl, rfl, cm_small (by omega) (by omega), ?_⟩
          repeat walk_at "st"
          rw [show wOf x [a, b] L = 5 * (wtE L a + wtE L b) by unfold wOf; rw [if_neg c, if_neg c1', if_pos c2]; exact if_pos c3] at q
          exact q _ g3
        · repeat walk_at "st"
          exact J _ _ ⟨rfl, rfl, fun _ => c3⟩
      · repeat walk_at "st"
        exact J _ _ ⟨rfl, rfl, fun h => absurd h c2⟩
    rintro σ Hx ⟨rfl, rfl, c2⟩
    refine r_seq ?_
    repeat walk_at "st"
    refine r_ite (fun c3 => ?_) (fun c3 => ?_)
    · obtain ⟨a, b, rfl⟩ := two (.inr (.inr c3))
      have ha := wb a
      have hb := wb b
      repeat walk_at "st"
      refine ⟨_, _, rfl, rfl, cm_small (by omega) (by omega), ?_⟩
      repeat walk_at "st"
      rw [show wOf x [a, b] L = 2 * wtE L a + wtE L b by unfold wOf; rw [if_neg c, if_neg c1', if_pos c3, if_neg (c2 c3)]; rfl] at q
      exact q _ g3
    repeat walk_at "st"
    obtain ⟨u0, u1'⟩ := sum_small hl ns
    refine r_seq ?_
    repeat walk_at "st"
    refine ⟨sz rfl, fun l4 n4 => ?_⟩
    refine r_inS (zs := ["round", "alike"]) (tupOf upd_same) ?_
    have s4 := same_new n4 (.tup [V.str "round", .str "alike"])
    generalize upd Hx l4 (.tup [V.str "round", .str "alike"]) = H4 at *
    have g4 := g3.trans s4
    have e4 := s4 _ _ e3
    repeat walk_at "st"
    refine r_ite (fun c4 => ?_) (fun c4 => ?_)
    · have c4' : x = "round" ∨ x = "alike" := by simpa using c4
      repeat walk_at "st"
      refine ⟨D, _, rfl, lstOf e4, ?_⟩
      repeat walk_at "st"
      refine ⟨_, _, rfl, rfl, cm_small (by omega) (by omega), ?_⟩
      repeat walk_at "st"
      rw [show wOf x ns L = 2 * (ns.map (wtE L)).sum by unfold wOf; rw [if_neg c, if_neg c1', if_neg c3, if_pos c4']] at q
      exact q _ g4
    have c4' : ¬ (x = "round" ∨ x = "alike") := by simpa using c4
    repeat walk_at "st"
    refine ⟨D, _, rfl, lstOf e4, ?_⟩
    rw [show wOf x ns L = (ns.map (wtE L)).sum by unfold wOf; rw [if_neg c, if_neg c1', if_neg c3, if_neg c4']] at q
    exact q _ g4
  ) only [↓Mb.dischW]
theorem ok_enter (F : Fn K mg "enter" s_enter) (G_weight : Kn P w K mg base 3 "weight" ["making", "sorts", "weighed"] (spWeight K)) (G_sort_of : Kn P w K mg base 1 "sort_of" ["making"] (spSort K)) : Kn P w K mg base 4 "enter" ["name", "making", "sorts", "weighed"] (spEnter K) := by
  refine Mb.ofW ?_
  simp (discharger := with_unfolding_all
    refine F.kn sc_enter (fun vs H Q E h => ?_) (fun f cdv A outer s H vs Q E hr h => ?_) (fun _ _ _ _ _ _ us hl => match us, hl with | [_, _, _, _], _ => rfl)
    · obtain ⟨m, S, W, z, x, ns, L, rfl, _⟩ := h
      rfl
    obtain ⟨m, S, W, z, x, ns, L, rfl, hm, ok, dc, nz, q⟩ := h
    have hm' := hm
    have ok' := ok
    obtain ⟨r, tm, tl⟩ := hm'
    obtain ⟨⟨so, g, tx, hn⟩, hz⟩ := ok'
    refine ⟨_, (pss_cons (ps_dput (u1 hr.units) (pv 3) (pv 0) (pe_kn G_weight (hr.mono (by decide)) (by rfl) (pa_cons (pv 1) (pa_cons (pv 2) (pa_cons (pv 3) pa_nil)))) (by rfl))
      (pss_one (ps_dput (u1 hr.units) (pv 2) (pv 0) (pe_kn G_sort_of (hr.mono (by decide)) (by rfl) (pa_cons (pv 1) pa_nil)) (by rfl)))), ?_⟩
    show (_ : TS) _ [some (.str z), some (.ref m), some (.ref S), some (.ref W)] _
    refine r_dputS ?_
    repeat walk_at "st"
    refine ⟨m, S, W, x, ns, L, rfl, hm, ok, dc, fun H1 s1 => ?_⟩
    have dc1 := dc.same s1
    repeat walk_at "st"
    refine ⟨W, _, rfl, DPut.k (k := .inr z) dc1.w (by unfold loadsD; rw [List.length_map]; exact Nat.lt_of_le_of_lt dc1.few (by decide)), ?_⟩
    rw [show putK (loadsD L) (.inr z) (V.int (wOf x ns L)) = loadsD (envStep L (z, x, ns)) from put_new nz rfl rfl]
    have k1 : Kp K H1 (upd H1 W (.dK (loadsD (envStep L (z, x, ns))))) := kp_dict dc1.w
    have neSW : S ≠ W := dc.ne
    have s2 : (upd H1 W (.dK (loadsD (envStep L (z, x, ns))))) S = some (.dK (sortsD L)) := by rw [upd_ne neSW]; exact dc1.s
    refine r_dput ?_
    repeat walk_at "st"
    refine ⟨m, x, so, g, _, rfl, k1 _ _ (s1.tp tm), tx, ?_⟩
    repeat walk_at "st"
    refine ⟨S, _, rfl, DPut.k (k := .inr z) s2 (by unfold sortsD; rw [List.length_map]; exact Nat.lt_of_le_of_lt dc1.few (by decide)), ?_⟩
    rw [show putK (sortsD L) (.inr z) (V.str so) = sortsD (envStep L (z, x, ns)) from put_new nz rfl (by rw [sOf_eq tx])]
    exact q _ (((Kp.same s1).trans k1).trans (kp_dict s2)) (fun b o h1 h2 hb => by rw [upd_ne h1, upd_ne h2]; exact s1 _ _ hb) upd_same (by rw [upd_ne (fun z => neSW z.symm)]; exact upd_same)
  ) only [↓Mb.dischW]
theorem ok_check_grounds (F : Fn K mg "check_grounds" s_check_grounds) (G_grounds : Kn P w K mg base 2 "grounds" ["making"] (spGrounds K)) (G_wanted : Kn P w K mg base 1 "wanted" ["making"] (spWanted K)) (G_fits : Kn P w K mg base 1 "fits" ["sort", "due"] spFits) (z_zip : mg "zip" = none) : Kn P w K mg base 3 "check_grounds" ["making", "sorts"] (spCheckGrounds K) := by
  refine Mb.ofW ?_
  simp (discharger := with_unfolding_all
    refine F.kn sc_check_grounds (fun vs H Q E h => ?_) (fun f cdv A outer s H vs Q E hr h => ?_) (fun _ _ _ _ _ _ us hl => match us, hl with | [_, _], _ => rfl)
    · obtain ⟨m, S, W, x, ns, d, L, rfl, _⟩ := h
      rfl
    obtain ⟨m, S, W, x, ns, d, L, rfl, ⟨r, tm, tl⟩, ⟨so, g, tx, pr⟩, dc, q⟩ := h
    refine ⟨_, (pss_cons (ps_set (i := 2) sc_check_grounds.nd rfl (.inl rfl) (pe_kn G_grounds (hr.mono (by decide)) (by rfl) (pa_cons (pv 0) pa_nil)))
      (pss_cons (ps_for PassesOwn.never rfl (pi_list (pv 2)) (pg_name (i := 3) sc_check_grounds.nd rfl (.inl rfl))
      (pss_one (ps_if (pt_cmp (pc_dnotin (u1 hr.units) (pv 3) (pv 1)))
      (pss_one ps_never)
      pss_nil)))
      (pss_one (ps_for PassesOwn.never rfl (pi_zipM (by rfl) z_zip (pa_cons (pv 2) (pa_cons (pe_kn G_wanted (hr.mono (by decide)) (by rfl) (pa_cons (pv 0) pa_nil)) pa_nil))) (pg_tup (by rfl) (pgs_cons (pg_name (i := 3) sc_check_grounds.nd rfl (.inl rfl)) (pgs_cons (pg_name (i := 4) sc_check_grounds.nd rfl (.inl rfl)) pgs_nil)))
      (pss_one (ps_if (pt_not (pt_val (pe_kn G_fits (hr.mono (by decide)) (by rfl) (pa_cons (pe_dget (u1 hr.units) (pv 1) (pv 3) (fun _ _ => rfl)) (pa_cons (pv 4) pa_nil)))))
      (pss_one ps_never)
      pss_nil)))))), ?_⟩
    show (_ : TS) _ [some (.ref m), some (.ref S), none, none, none] _
    repeat walk_at "st"
    refine ⟨m, x, so, g, ns, r, rfl, tm, tx, Paired.length pr, fun l H1 s1 n1 e1 => ?_⟩
    have dc1 := dc.same s1
    have tm1 := s1.tp tm
    repeat walk_at "st"
    with_reducible refine r_cut (fun σ H' => ∃ y3 y4 : Option V, σ = [some (.ref m), some (.ref S), some (.ref l), y3, y4] ∧ H' = H1) ?U1 ?V1
    case V1 =>
      intro N J
      refine ⟨.ref l, rfl, l, rfl, ⟨_, lstOf e1⟩, ?_⟩
      refine for_list (xs := ns.map V.str) (fun i σ H' => ∃ y3 y4 : Option V, σ = [some (.ref m), some (.ref S), some (.ref l), y3, y4] ∧ H' = H1) ⟨_, _, rfl, rfl⟩ ?_ ?_ ?_
      · rintro i σ H' _ ⟨_, _, _, rfl⟩
        exact lstOf e1
      · rintro i v σ H3 hv ⟨y3, y4, rfl, rfl⟩
        rw [List.getElem?_map] at hv
        obtain ⟨z, hz, rfl⟩ := Option.map_eq_some_iff.mp hv
        obtain ⟨due, hd, ⟨hin, hok⟩, ft⟩ := LiI.paired_get pr hz
        repeat walk_at "st"
        refine r_dnin ?_
        repeat walk_at "st"
        refine ⟨S, _, rfl, get_sort dc1.s hin, ?_⟩
        repeat walk_at "st"
        exact ⟨_, _, rfl, rfl⟩
      · rintro σ H3 ⟨y3, y4, rfl, rfl⟩
        exact J _ _ ⟨_, _, rfl, rfl⟩
    rintro σ H3 ⟨y3, y4, rfl, rfl⟩
    repeat walk_at "st"
    · refine r_forZM ?_
      repeat walk_at "st"
      refine ⟨m, x, so, g, _, rfl, tm1, tx, fun u hu => ?_⟩
      repeat walk_at "st"
      refine ⟨l, u, _, _, rfl, lstOf e1, hu, ?_⟩
      have pl := Paired.length pr
      refine for_zipM (xs := ns.map V.str) (zs := g.map V.str) (by rw [List.length_map, List.length_map, pl]) (fun i σ H' => ∃ y3 y4 : Option V, σ = [some (.ref m), some (.ref S), some (.ref l), y3, y4] ∧ Same H3 H') ⟨_, _, rfl, Same.refl _⟩ ?_ ?_ ?_
      · rintro i σ H' ⟨_, _, _, g'⟩
        exact ⟨g'.seq (lstOf e1), g'.tp hu⟩
      · rintro i v v' T σ H4 hv hv' ⟨y3, y4, rfl, g4⟩ nT
        rw [List.getElem?_map] at hv hv'
        obtain ⟨z, hz, rfl⟩ := Option.map_eq_some_iff.mp hv
        obtain ⟨due, hd, rfl⟩ := Option.map_eq_some_iff.mp hv'
        obtain ⟨due', hd', ⟨hin, hok⟩, ft⟩ := LiI.paired_get pr hz
        rw [hd] at hd'
        cases hd'
        have g5 := g4.trans (same_new nT (.tup [.str z, .str due]))
        refine r_gT (tupOf upd_same) rfl ?_
        refine r_g2 ?_
        repeat walk_at "st"
        refine r_dg ?_
        repeat walk_at "st"
        refine ⟨S, _, rfl, get_sort (g5 _ _ dc1.s) hin, ?_⟩
        repeat walk_at "st"
        refine ⟨_, _, rfl, fun H5 g6 => ?_⟩
        rw [ft]
        repeat walk_at "st"
        exact ⟨_, _, rfl, g5.trans g6⟩
      · rintro σ H4 ⟨y3, y4, rfl, g4⟩
        exact q _ (s1.trans g4)
  ) only [↓Mb.dischW]
theorem ok_check_next (F : Fn K mg "check_next" s_check_next) (G_good : Kn P w K mg base 1 "good" ["name"] spGoodN) (G_check_grounds : Kn P w K mg base 3 "check_grounds" ["making", "sorts"] (spCheckGrounds K)) (G_near : Kn P w K mg base 2 "near" ["making"] (spNearM K)) (G_weight : Kn P w K mg base 3 "weight" ["making", "sorts", "weighed"] (spWeight K)) {t1 : Tok} (c_HEAVIEST : mg "HEAVIEST" = some (.int 40 t1)) : Kn P w K mg base 4 "check_next" ["name", "making", "sorts", "weighed"] (spCheckNext K) := by
  refine Mb.ofW ?_
  simp (discharger := with_unfolding_all
    refine F.kn sc_check_next (fun vs H Q E h => ?_) (fun f cdv A outer s H vs Q E hr h => ?_) (fun _ _ _ _ _ _ us hl => match us, hl with | [_, _, _, _], _ => rfl)
    · obtain ⟨m, S, W, t, L, rfl, _⟩ := h
      rfl
    obtain ⟨m, S, W, t, L, rfl, mk, gt, dc, q⟩ := h
    refine ⟨_, (pss_cons (ps_if (pt_not (pt_val (pe_kn G_good (hr.mono (by decide)) (by rfl) (pa_cons (pv 0) pa_nil))))
      (pss_one ps_never)
      pss_nil)
      (pss_cons (ps_if (pt_cmp (pc_din (u1 hr.units) (pv 0) (pv 2)))
      (pss_one ps_never)
      pss_nil)
      (pss_cons (ps_expr (pe_kn G_check_grounds (hr.mono (by decide)) (by rfl) (pa_cons (pv 1) (pa_cons (pv 2) pa_nil))))
      (pss_cons (ps_if (pt_not (pt_val (pe_kn G_near (hr.mono (by decide)) (by rfl) (pa_cons (pv 1) pa_nil))))
      (pss_one ps_never)
      pss_nil)
      (pss_one (ps_if (pt_cmpR op_gt (pe_kn G_weight (hr.mono (by decide)) (by rfl) (pa_cons (pv 1) (pa_cons (pv 2) (pa_cons (pv 3) pa_nil)))) (pe_glob (v := .int 40) (by rfl) c_HEAVIEST ⟨_, rfl⟩) (nomark _))
      (pss_one ps_never)
      pss_nil)))))), ?_⟩
    show (_ : TS) _ [some (.str t.1), some (.ref m), some (.ref S), some (.ref W)] _
    refine r_seq ?_
    repeat walk_at "st"
    refine ⟨t.1, rfl, Nat.le_trans gt.nm.1.1 (by decide), ?_⟩
    rw [gt.good]
    repeat walk_at "st"
    refine r_seq ?_
    repeat walk_at "st"
    refine r_din ?_
    repeat walk_at "st"
    refine ⟨S, _, rfl, get_sort0 dc.s gt.new, ?_⟩
    refine ⟨_, rfl, ?_⟩
    rw [if_neg (by decide)]
    repeat walk_at "st"
    refine ⟨m, S, W, _, _, _, L, rfl, mk, gt.fit, dc, fun H1 s1 => ?_⟩
    repeat walk_at "st"
    refine r_seq ?_
    repeat walk_at "st"
    refine ⟨m, _, _, _, L, rfl, mk.kp (Kp.same s1), gt.fit, gt.near, ?_⟩
    repeat walk_at "st"
    refine ⟨m, S, W, _, _, L, rfl, mk.mk.kp (Kp.same s1), gt.fit.okm, dc.same s1, fun H2 s2 => ?_⟩
    repeat walk_at "st"
    rw [if_neg (by have := gt.wt.2; simp only [decide_eq_true_eq]; omega)]
    exact q _ (s1.trans s2)
  ) only [↓Mb.dischW]
theorem ok_check_row (F : Fn K mg "check_row" s_check_row) (G_check_next : Kn P w K mg base 4 "check_next" ["name", "making", "sorts", "weighed"] (spCheckNext K)) (G_enter : Kn P w K mg base 4 "enter" ["name", "making", "sorts", "weighed"] (spEnter K)) : Kn P w K mg base 5 "check_row" ["row"] (spCheckRow K) := by
  refine Mb.ofW ?_
  simp (discharger := with_unfolding_all
    refine F.kn sc_check_row (fun vs H Q E h => ?_) (fun f cdv A outer s H vs Q E hr h => ?_) (fun _ _ _ _ _ _ us hl => match us, hl with | [_], _ => rfl)
    · obtain ⟨l, us, ts, rfl, _⟩ := h
      rfl
    obtain ⟨l, us, ts, rfl, hl, rw_, gr, hn, q⟩ := h
    refine ⟨_, (pss_cons (ps_set (i := 1) sc_check_row.nd rfl (.inl rfl) pe_dnewK)
      (pss_cons (ps_set (i := 2) sc_check_row.nd rfl (.inl rfl) pe_dnewK)
      (pss_one (ps_for PassesOwn.never rfl (pi_list (pv 0)) (pg_tup (by rfl) (pgs_cons (pg_name (i := 3) sc_check_row.nd rfl (.inl rfl)) (pgs_cons (pg_name (i := 4) sc_check_row.nd rfl (.inl rfl)) pgs_nil)))
      (pss_cons (ps_expr (pe_kn G_check_next (hr.mono (by decide)) (by rfl) (pa_cons (pv 3) (pa_cons (pv 4) (pa_cons (pv 1) (pa_cons (pv 2) pa_nil))))))
      (pss_one (ps_expr (pe_kn G_enter (hr.mono (by decide)) (by rfl) (pa_cons (pv 3) (pa_cons (pv 4) (pa_cons (pv 1) (pa_cons (pv 2) pa_nil)))))))))))), ?_⟩
    show (_ : TS) _ [some (.ref l), none, none, none, none] _
    repeat walk_at "st"
    refine fun S nS => ?_
    repeat walk_at "st"
    refine fun W nW => ?_
    have s1 := same_new nS (.dK [])
    have neSW : S ≠ W := fun z => by rw [z, upd_same] at nW; cases nW
    have s2 := same_new nW (.dK [])
    have eW : upd (upd H S (.dK [])) W (.dK []) W = some (.dK []) := upd_same
    have eS := s2 _ _ (upd_same : upd H S (.dK []) S = some (.dK []))
    have nW0 := s1.free nW
    have g0 := s1.trans s2
    generalize upd (upd H S (.dK [])) W (.dK []) = H0 at *
    clear nW s1 s2
    have ln := rw_.len
    repeat walk_at "st"
    refine ⟨.ref l, rfl, l, rfl, ⟨us, g0.seq hl⟩, ?_⟩
    refine for_list (xs := us) (fun i σ H' => ∃ y1 y2, σ = [some (.ref l), some (.ref S), some (.ref W), y1, y2] ∧ Same H H' ∧ Dc H' S W (envOf [] ((ts.take i).map thOf))) ?_ ?_ ?_ ?_
    · exact ⟨_, _, rfl, g0, ⟨eS, eW, light0, by simp [envOf], neSW⟩⟩
    · rintro i σ H1 _ ⟨_, _, _, g1, _⟩
      exact g1.seq hl
    · rintro i v σ H1 hv ⟨y1, y2, rfl, g1, dc⟩
      obtain ⟨t, ht, a, m, rfl, ta, mk⟩ := rw_.at hv
      obtain ⟨gt, es⟩ := gr.at ht
      have hi := (List.getElem?_eq_some_iff.mp ht).1
      refine r_gT (g1.tp ta) rfl ?_
      refine r_g2 ?_
      repeat walk_at "st"
      refine ⟨m, S, W, t, _, rfl, mk.kp (Kp.same g1), gt, dc, fun H2 g2 => ?_⟩
      have g12 := g1.trans g2
      repeat walk_at "st"
      refine ⟨m, S, W, t.1, t.2.1, t.2.2.1, _, rfl, mk.mk.kp (Kp.same g12), gt.fit.okm, dc.same g2, gt.new, fun H3 k3 keep eS2 eW2 => ?_⟩
      repeat walk_at "st"
      have es' : envOf [] ((ts.take (i + 1)).map thOf) = envStep (envOf [] ((ts.take i).map thOf)) (t.1, t.2.1, t.2.2.1) := es
      rw [← es'] at eS2 eW2
      refine ⟨_, _, rfl, fun b o hb => keep b o (fun z => by rw [z, nS] at hb; cases hb) (fun z => by rw [z, nW0] at hb; cases hb) (g12 _ _ hb), ⟨eS2, eW2, ?_, ?_, neSW⟩⟩
      · rw [es']
        intro e he
        rcases List.mem_append.mp he with he | he
        · exact dc.light e he
        · rw [List.mem_singleton.mp he]
          exact gt.wt
      · rw [envOf_len, List.length_map, List.length_take]
        simp only [List.length_nil]
        omega
    · rintro σ H1 ⟨y1, y2, rfl, g1, dc⟩
      exact q _ g1
  ) only [↓Mb.dischW]
theorem ok_cut (F : Fn K mg "cut" s_cut) (G_line_cuts : Kn P w K mg base 4 "line_cuts" ["line", "ring"] (spCutsJ K)) (G_ring_cuts : Kn P w K mg base 5 "ring_cuts" ["ring", "other"] (spRingJ K)) : Kn P w K mg base 6 "cut" ["name", "number", "curve", "ring"] (spCut K) := by
  refine Mb.ofW ?_
  simp (discharger := with_unfolding_all
    refine F.kn sc_cut (fun vs H Q E h => ?_) (fun f cdv A outer s H vs Q E hr h => ?_) (fun _ _ _ _ _ _ us hl => match us, hl with | [_, _, _, _], _ => rfl)
    · obtain ⟨z, n, v, w', c, r, kk, mm, rfl, _⟩ := h
      rfl
    obtain ⟨z, n, v, w', c, r, kk, mm, rfl, n12, tc, tr, bc, br, lm1, lm2, kc, kr, q⟩ := h
    obtain ⟨x, y, sr, rfl⟩ := tag_ci kr
    replace br : Ch mm x y sr := br
    obtain ⟨ar, f1, f2, f3, rfl, tar, h1, h2, h3⟩ := tr
    refine ⟨_, (pss_cons (ps_if (pt_cmpR op_eq (pe_ix ix_tup (pv 2) pe_int (fun _ _ => rfl)) pe_str (nomark _))
      (pss_one (ps_asg (pe_kn G_line_cuts (hr.mono (by decide)) (by rfl) (pa_cons (pe_slice sl_tup (pv 2) (po_some pe_int) po_none) (pa_cons (pe_slice sl_tup (pv 3) (po_some pe_int) po_none) pa_nil))) (pg_tup (by rfl) (pgs_cons (pg_name (i := 4) sc_cut.nd rfl (.inl rfl)) (pgs_cons (pg_name (i := 5) sc_cut.nd rfl (.inl rfl)) pgs_nil)))))
      (pss_one (ps_asg (pe_kn G_ring_cuts (hr.mono (by decide)) (by rfl) (pa_cons (pe_slice sl_tup (pv 2) (po_some pe_int) po_none) (pa_cons (pe_slice sl_tup (pv 3) (po_some pe_int) po_none) pa_nil))) (pg_tup (by rfl) (pgs_cons (pg_name (i := 4) sc_cut.nd rfl (.inl rfl)) (pgs_cons (pg_name (i := 5) sc_cut.nd rfl (.inl rfl)) pgs_nil))))))
      (pss_cons (ps_if (pt_cmpR op_eq (pv 4) pe_str (nomark _))
      (pss_one (ps_ret (pe_tup (pa_cons pe_str (StX.pa_star (pe_ix ix_list (pv 5) (pe_op op_sub (pv 1) pe_int) (fun _ _ => rfl)) pa_nil)))))
      pss_nil)
      (pss_one (ps_ret (pe_tup (pa_cons pe_str (pa_cons (pv 0) (pa_cons (pv 4) pa_nil)))))))), ?_⟩
    rcases kc with kc | kc
    · obtain ⟨a, b, e, rfl⟩ := tag_ln kc
      obtain ⟨al, rfl, tal⟩ := tc
      have lim := lm1 rfl
      show (_ : TS) _ [some (.str z), some (.int n), some (.ref al), some (.ref ar), none, none] _
      refine r_seq ?_
      repeat walk_at "st"
      rw [if_pos (by decide)]
      repeat walk_at "st"
      refine r_slR ?_
      repeat walk_at "st"
      refine r_partR ?_
      repeat walk_at "st"
      refine ⟨al, _, rfl, tal, cut_part, fun p hp => ?_⟩
      rw [cut_tail]
      have s1 := same_new hp (.tup [.int a, .int b, .int e])
      have e1 := tupOf (K := K) (upd_same : upd H p (.tup [.int a, .int b, .int e]) p = _)
      generalize upd H p (.tup [.int a, .int b, .int e]) = Ha at *
      repeat walk_at "st"
      refine r_slR ?_
      repeat walk_at "st"
      refine r_partR ?_
      repeat walk_at "st"
      refine ⟨ar, _, rfl, s1.tp tar, cut_part, fun p2 hp2 => ?_⟩
      rw [cut_tail]
      have s2 := same_new hp2 (.tup [f1, f2, f3])
      have e2 := tupOf (K := K) (upd_same : upd Ha p2 (.tup [f1, f2, f3]) p2 = _)
      generalize upd Ha p2 (.tup [f1, f2, f3]) = Hb at *
      have s12 := s1.trans s2
      repeat walk_at "st"
      have cdE : Cd a b e x y sr (sr * ((a : Rat) * a + b * b) - (e - a * x - b * y) * (e - a * x - b * y)) := ⟨rfl⟩
      refine ⟨.ref p, .ref p2, a, b, e, x, y, sr, _, kk, mm, rfl, ⟨p, rfl, s2.tp e1⟩, bc.1, ⟨p2, f1, f2, f3, rfl, e2, h1.up s12, h2.up s12, h3.up s12⟩, bc.2.1, bc.2.2.1, bc.2.2.2, br, by omega, cdE, fun d0 => ?_, fun d0 d1 => ?_, fun t t0 t1 => ?_⟩
      · refine (fun (r9 : V) (l9 : Addr) (H' : Hp) g' nl' (ct : Ct0 K H' r9 "miss" l9) => ?_)
        obtain ⟨o, rfl, to, el⟩ := ct
        refine r_gT to rfl ?_
        refine r_g2 ?_
        repeat walk_at "st"
        refine r_seq ?_
        repeat walk_at "st"
        rw [if_neg (by decide)]
        repeat walk_at "st"
        refine ⟨sz rfl, fun o2 no2 => ?_⟩
        exact q _ _ _ (.miss cdE d0) (s12.trans (g'.trans (same_new no2 _))) ⟨o2, rfl, tupOf upd_same⟩
      · refine (fun (r9 : V) (l9 : Addr) (H' : Hp) g' nl' (ct : Ct0 K H' r9 "root" l9) => ?_)
        obtain ⟨o, rfl, to, el⟩ := ct
        refine r_gT to rfl ?_
        refine r_g2 ?_
        repeat walk_at "st"
        refine r_seq ?_
        repeat walk_at "st"
        rw [if_neg (by decide)]
        repeat walk_at "st"
        refine ⟨sz rfl, fun o2 no2 => ?_⟩
        exact q _ _ _ (.root cdE d0 d1) (s12.trans (g'.trans (same_new no2 _))) ⟨o2, rfl, tupOf upd_same⟩
      · refine (fun (r9 : V) (l9 : Addr) (H' : Hp) (u : Rat) g' nl' hu' ct => ?_)
        obtain ⟨o, fa, fb, rfl, to, el, pa, pb⟩ := ct
        refine r_gT to rfl ?_
        refine r_g2 ?_
        repeat walk_at "st"
        refine r_seq ?_
        repeat walk_at "st"
        rw [if_pos (by decide)]
        repeat walk_at "st"
        rcases n12 with rfl | rfl
        · refine r_tStar ?_
          repeat walk_at "st"
          obtain ⟨pad, k1, k2, rfl, tp, kf, kg⟩ := pa
          refine ⟨pad, _, rfl, .inl tp, ?_⟩
          repeat walk_at "st"
          refine ⟨sz rfl, fun o2 no2 => ?_⟩
          have g2 := same_new no2 (.tup [.str "at", k1, k2])
          exact q _ _ _ (.at cdE t0 t1 (by rw [hu']; simp)) (s12.trans (g'.trans g2)) ⟨o2, k1, k2, rfl, tupOf upd_same, kf.up g2, kg.up g2⟩
        · refine r_tStar ?_
          repeat walk_at "st"
          obtain ⟨pad, k1, k2, rfl, tp, kf, kg⟩ := pb
          refine ⟨pad, _, rfl, .inl tp, ?_⟩
          repeat walk_at "st"
          refine ⟨sz rfl, fun o2 no2 => ?_⟩
          have g2 := same_new no2 (.tup [.str "at", k1, k2])
          exact q _ _ _ (.at cdE t0 t1 (by rw [hu']; by_cases z' : 0 < b <;> simp [z'])) (s12.trans (g'.trans g2)) ⟨o2, k1, k2, rfl, tupOf upd_same, kf.up g2, kg.up g2⟩
    · obtain ⟨x2, y2, sr2, rfl⟩ := tag_ci kc
      obtain ⟨al, g1, g2, g3, rfl, tal, i1, i2, i3⟩ := tc
      have lim := lm2 rfl
      replace bc : Ch kk x2 y2 sr2 := bc
      show (_ : TS) _ [some (.str z), some (.int n), some (.ref al), some (.ref ar), none, none] _
      refine r_seq ?_
      repeat walk_at "st"
      rw [if_neg (by decide)]
      repeat walk_at "st"
      refine r_slR ?_
      repeat walk_at "st"
      refine r_partR ?_
      repeat walk_at "st"
      refine ⟨al, _, rfl, tal, cut_part, fun p hp => ?_⟩
      rw [cut_tail]
      have s1 := same_new hp (.tup [g1, g2, g3])
      have e1 := tupOf (K := K) (upd_same : upd H p (.tup [g1, g2, g3]) p = _)
      generalize upd H p (.tup [g1, g2, g3]) = Ha at *
      repeat walk_at "st"
      refine r_slR ?_
      repeat walk_at "st"
      refine r_partR ?_
      repeat walk_at "st"
      refine ⟨ar, _, rfl, s1.tp tar, cut_part, fun p2 hp2 => ?_⟩
      rw [cut_tail]
      have s2 := same_new hp2 (.tup [f1, f2, f3])
      have e2 := tupOf (K := K) (upd_same : upd Ha p2 (.tup [f1, f2, f3]) p2 = _)
      generalize upd Ha p2 (.tup [f1, f2, f3]) = Hb at *
      have s12 := s1.trans s2
      repeat walk_at "st"
      refine ⟨.ref p, .ref p2, x2, y2, sr2, x, y, sr, kk, mm, rfl, ⟨p, g1, g2, g3, rfl, s2.tp e1, i1.up s12, i2.up s12, i3.up s12⟩, ⟨p2, f1, f2, f3, rfl, e2, h1.up s12, h2.up s12, h3.up s12⟩, bc, br, lim, fun e => ?_, fun e a b c' g d l' k0 k1' k2' k3' cdE => ⟨fun d0 => ?_, fun d0 d1 => ?_, fun t t0 t1 => ?_⟩⟩
      · obtain ⟨rfl, rfl⟩ := e
        refine (fun (r9 : V) (l9 : Addr) (H' : Hp) g' nl' (ct : Ct0 K H' r9 "centre" l9) => ?_)
        obtain ⟨o, rfl, to, el⟩ := ct
        refine r_gT to rfl ?_
        refine r_g2 ?_
        repeat walk_at "st"
        refine r_seq ?_
        repeat walk_at "st"
        rw [if_neg (by decide)]
        repeat walk_at "st"
        refine ⟨sz rfl, fun o2 no2 => ?_⟩
        exact q _ _ _ .centre (s12.trans (g'.trans (same_new no2 _))) ⟨o2, rfl, tupOf upd_same⟩
      · refine (fun (r9 : V) (l9 : Addr) (H' : Hp) g' nl' (ct : Ct0 K H' r9 "miss" l9) => ?_)
        obtain ⟨o, rfl, to, el⟩ := ct
        refine r_gT to rfl ?_
        refine r_g2 ?_
        repeat walk_at "st"
        refine r_seq ?_
        repeat walk_at "st"
        rw [if_neg (by decide)]
        repeat walk_at "st"
        refine ⟨sz rfl, fun o2 no2 => ?_⟩
        exact q _ _ _ (.rings e l' k0 k1' k2' k3' (.miss cdE d0)) (s12.trans (g'.trans (same_new no2 _))) ⟨o2, rfl, tupOf upd_same⟩
      · refine (fun (r9 : V) (l9 : Addr) (H' : Hp) g' nl' (ct : Ct0 K H' r9 "root" l9) => ?_)
        obtain ⟨o, rfl, to, el⟩ := ct
        refine r_gT to rfl ?_
        refine r_g2 ?_
        repeat walk_at "st"
        refine r_seq ?_
        repeat walk_at "st"
        rw [if_neg (by decide)]
        repeat walk_at "st"
        refine ⟨sz rfl, fun o2 no2 => ?_⟩
        exact q _ _ _ (.rings e l' k0 k1' k2' k3' (.root cdE d0 d1)) (s12.trans (g'.trans (same_new no2 _))) ⟨o2, rfl, tupOf upd_same⟩
      · refine (fun (r9 : V) (l9 : Addr) (H' : Hp) (u : Rat) g' nl' hu' ct => ?_)
        obtain ⟨o, fa, fb, rfl, to, el, pa, pb⟩ := ct
        refine r_gT to rfl ?_
        refine r_g2 ?_
        repeat walk_at "st"
        refine r_seq ?_
        repeat walk_at "st"
        rw [if_pos (by decide)]
        repeat walk_at "st"
        rcases n12 with rfl | rfl
        · refine r_tStar ?_
          repeat walk_at "st"
          obtain ⟨pad, k1, k2, rfl, tp, kf, kg⟩ := pa
          refine ⟨pad, _, rfl, .inl tp, ?_⟩
          repeat walk_at "st"
          refine ⟨sz rfl, fun o2 no2 => ?_⟩
          have g2 := same_new no2 (.tup [.str "at", k1, k2])
          exact q _ _ _ (.rings e l' k0 k1' k2' k3' (.at cdE t0 t1 (by rw [hu']; simp))) (s12.trans (g'.trans g2)) ⟨o2, k1, k2, rfl, tupOf upd_same, kf.up g2, kg.up g2⟩
        · refine r_tStar ?_
          repeat walk_at "st"
          obtain ⟨pad, k1, k2, rfl, tp, kf, kg⟩ := pb
          refine ⟨pad, _, rfl, .inl tp, ?_⟩
          repeat walk_at "st"
          refine ⟨sz rfl, fun o2 no2 => ?_⟩
          have g2 := same_new no2 (.tup [.str "at", k1, k2])
          exact q _ _ _ (.rings e l' k0 k1' k2' k3' (.at cdE t0 t1 (by rw [hu']; by_cases z' : 0 < b <;> simp [z']))) (s12.trans (g'.trans g2)) ⟨o2, k1, k2, rfl, tupOf upd_same, kf.up g2, kg.up g2⟩
  ) only [↓Mb.dischW]
theorem ok_figure (F : Fn K mg "figure" s_figure) (G_middle : Kn P w K mg base 5 "middle" ["p", "q"] (spP2J K (fun x y x2 y2 => (x + x2) / 2) (fun x y x2 y2 => (y + y2) / 2))) (G_beyond : Kn P w K mg base 5 "beyond" ["p", "q"] (spP2J K (fun x y x2 y2 => x2 + x2 - x) (fun x y x2 y2 => y2 + y2 - y))) (G_turned : Kn P w K mg base 4 "turned" ["p", "q"] (spP2 K (fun x y x2 y2 => x2 - (y - y2)) (fun x y x2 y2 => y2 + (x - x2)))) (G_share : Kn P w K mg base 4 "share" ["p", "q", "t"] (spShareJ K)) (G_foot : Kn P w K mg base 5 "foot" ["p", "line"] (spFootJ K)) (G_mirror : Kn P w K mg base 6 "mirror" ["p", "line"] (spMirrorJ K)) (G_meet : Kn P w K mg base 3 "meet" ["line", "other"] (spMeet K)) (G_through : Kn P w K mg base 3 "through" ["p", "q"] (spThruJ K)) (G_along : Kn P w K mg base 4 "along" ["p", "line"] (spAlongJ K RAl)) (G_upright : Kn P w K mg base 4 "upright" ["p", "line"] (spAlongJ K RUp)) (G_about : Kn P w K mg base 4 "about" ["p", "q"] (spAboutJ K)) : Kn P w K mg base 7 "figure" ["making", "parts"] (spFigure K) := by
  refine Mb.ofW ?_
  simp (discharger := with_unfolding_all
    refine F.kn sc_figure (fun vs H Q E h => ?_) (fun f cdv A outer s H vs Q E hr h => ?_) (fun _ _ _ _ _ _ us hl => match us, hl with | [_, _], _ => rfl)
    · obtain ⟨m, l, x, so, g, ns, d, us, ps, hs, rfl, _⟩ := h
      rfl
    obtain ⟨m, l, x, so, g, ns, d, us, ps, hs, rfl, ⟨r, tm, tl⟩, tx, ln, n1, n2, nr, hl, pp, tb, lim, st, q⟩ := h
    refine ⟨_, (pss_cons (ps_if (pt_cmpR op_eq (pe_ix ix_tup (pv 0) pe_int (fun _ _ => rfl)) pe_str (nomark _))
      (pss_one (ps_ret (pe_slice sl_tup (pv 0) (po_some pe_int) po_none)))
      pss_nil)
      (pss_cons (ps_asg (pv 1) (pg_lst (by rfl) (pgs_cons (pg_name (i := 2) sc_figure.nd rfl (.inl rfl)) (pgs_cons (pg_name (i := 3) sc_figure.nd rfl (.inl rfl)) pgs_nil))))
      (pss_one (ps_match (pe_ix ix_tup (pv 0) pe_int (fun _ _ => rfl)) (pm_str pe_str (pss_one (ps_ret (pe_kn G_middle (hr.mono (by decide)) (by rfl) (pa_cons (pv 2) (pa_cons (pv 3) pa_nil))))) (pm_str pe_str (pss_one (ps_ret (pe_kn G_beyond (hr.mono (by decide)) (by rfl) (pa_cons (pv 2) (pa_cons (pv 3) pa_nil))))) (pm_str pe_str (pss_one (ps_ret (pe_kn G_turned (hr.mono (by decide)) (by rfl) (pa_cons (pv 2) (pa_cons (pv 3) pa_nil))))) (pm_str pe_str (pss_one (ps_ret (pe_kn G_share (hr.mono (by decide)) (by rfl) (pa_cons (pv 2) (pa_cons (pv 3) (pa_cons (pe_ix ix_tup (pv 0) pe_int (fun _ _ => rfl)) pa_nil)))))) (pm_str pe_str (pss_one (ps_ret (pe_kn G_foot (hr.mono (by decide)) (by rfl) (pa_cons (pv 2) (pa_cons (pv 3) pa_nil))))) (pm_str pe_str (pss_one (ps_ret (pe_kn G_mirror (hr.mono (by decide)) (by rfl) (pa_cons (pv 2) (pa_cons (pv 3) pa_nil))))) (pm_str pe_str (pss_one (ps_ret (pe_kn G_meet (hr.mono (by decide)) (by rfl) (pa_cons (pv 2) (pa_cons (pv 3) pa_nil))))) (pm_str pe_str (pss_one (ps_ret (pe_kn G_through (hr.mono (by decide)) (by rfl) (pa_cons (pv 2) (pa_cons (pv 3) pa_nil))))) (pm_str pe_str (pss_one (ps_ret (pe_kn G_along (hr.mono (by decide)) (by rfl) (pa_cons (pv 2) (pa_cons (pv 3) pa_nil))))) (pm_str pe_str (pss_one (ps_ret (pe_kn G_upright (hr.mono (by decide)) (by rfl) (pa_cons (pv 2) (pa_cons (pv 3) pa_nil))))) (pm_str pe_str (pss_one (ps_ret (pe_kn G_about (hr.mono (by decide)) (by rfl) (pa_cons (pv 2) (pa_cons (pv 3) pa_nil))))) pm_nil))))))))))))))), ?_⟩
    show (_ : TS) _ [some (.ref m), some (.ref l), none, none] _
    refine r_seq ?_
    repeat walk_at "st"
    refine r_ixT0 tm ?_
    repeat walk_at "st"
    obtain h1 | h1 | h1 | h1 | h1 | h1 | h1 | h1 | h1 | h1 | h1 | h1 := figs_of tx n1 n2
    · obtain ⟨rfl, rfl⟩ := h1
      cases st
      cases pp
      cases d with
      | fr p2 q2 =>
        obtain ⟨_, u, v, rfl, hu, hv⟩ := tl
        obtain rfl : ns = [] := List.length_eq_zero_iff.mp ln
        replace tm : SqT K H m [.str "free", u, v] := tm
        rw [decide_eq_true (by rfl)]
        repeat walk_at "st"
        refine r_slR ?_
        repeat walk_at "st"
        refine r_partR ?_
        repeat walk_at "st"
        refine ⟨m, _, rfl, tm, cut_part, fun p hp => ?_⟩
        rw [cut_tail]
        have s1 := same_new hp (.tup [u, v])
        exact q _ _ _ .free s1 ⟨p, u, v, rfl, tupOf upd_same, hu.up s1, hv.up s1⟩
      | sh t => exact absurd tl.1 (by decide)
      | ct n => exact absurd tl.1 (by decide)
      | no => exact absurd rfl tl.1
    · obtain ⟨rfl, rfl⟩ := h1
      obtain rfl : d = .no := no_tail tl (by decide) (by decide) (by decide)
      obtain ⟨t0, t1, rfl, s0, s1⟩ := two_list' st
      obtain ⟨u0, u1, rfl, p0, p1⟩ := two_list pp
      obtain ⟨k0, k1, rfl, bb0, bb1⟩ := two_list' tb
      have lim := wH_two lim
      obtain ⟨x0, y0, rfl, q0, J0⟩ := part_pt p0 s0 bb0
      obtain ⟨x1, y1, rfl, q1, J1⟩ := part_pt p1 s1 bb1
      rw [decide_eq_false (by decide)]
      repeat walk_at "st"
      refine r_gLst hl rfl ?_
      refine r_g2 ?_
      refine r_match ?_
      repeat walk_at "st"
      refine r_ixT0 tm ?_
      refine r_caseY ?_
      repeat walk_at "st"
      refine ⟨u0, u1, x0, y0, x1, y1, k0, k1, rfl, q0, q1, J0.x, J0.y, J1.x, J1.y, by omega, fun r' H' g' k' => ?_⟩
      exact q _ _ _ .middle g' k'
    · obtain ⟨rfl, rfl⟩ := h1
      obtain rfl : d = .no := no_tail tl (by decide) (by decide) (by decide)
      obtain ⟨t0, t1, rfl, s0, s1⟩ := two_list' st
      obtain ⟨u0, u1, rfl, p0, p1⟩ := two_list pp
      obtain ⟨k0, k1, rfl, bb0, bb1⟩ := two_list' tb
      have lim := wH_two lim
      obtain ⟨x0, y0, rfl, q0, J0⟩ := part_pt p0 s0 bb0
      obtain ⟨x1, y1, rfl, q1, J1⟩ := part_pt p1 s1 bb1
      rw [decide_eq_false (by decide)]
      repeat walk_at "st"
      refine r_gLst hl rfl ?_
      refine r_g2 ?_
      refine r_match ?_
      repeat walk_at "st"
      refine r_ixT0 tm ?_
      refine r_caseN (by decide) ?_
      refine r_caseY ?_
      repeat walk_at "st"
      refine ⟨u0, u1, x0, y0, x1, y1, k0, k1, rfl, q0, q1, J0.x, J0.y, J1.x, J1.y, by omega, fun r' H' g' k' => ?_⟩
      exact q _ _ _ .next g' k'
    · obtain ⟨rfl, rfl⟩ := h1
      obtain rfl : d = .no := no_tail tl (by decide) (by decide) (by decide)
      obtain ⟨t0, t1, rfl, s0, s1⟩ := two_list' st
      obtain ⟨u0, u1, rfl, p0, p1⟩ := two_list pp
      obtain ⟨k0, k1, rfl, bb0, bb1⟩ := two_list' tb
      have lim := wH_two lim
      obtain ⟨x0, y0, rfl, q0, J0⟩ := part_pt p0 s0 bb0
      obtain ⟨x1, y1, rfl, q1, J1⟩ := part_pt p1 s1 bb1
      rw [decide_eq_false (by decide)]
      repeat walk_at "st"
      refine r_gLst hl rfl ?_
      refine r_g2 ?_
      refine r_match ?_
      repeat walk_at "st"
      refine r_ixT0 tm ?_
      refine r_caseN (by decide) ?_
      refine r_caseN (by decide) ?_
      refine r_caseY ?_
      repeat walk_at "st"
      refine ⟨u0, u1, x0, y0, x1, y1, k0, k1, rfl, q0, q1, J0.x, J0.y, J1.x, J1.y, by omega, fun r' H' g' k' => ?_⟩
      exact q _ _ _ .turn g' k'
    · obtain ⟨rfl, rfl⟩ := h1
      obtain ⟨tt, rfl⟩ : ∃ t, d = .sh t := by
        cases d with
        | sh t => exact ⟨t, rfl⟩
        | fr p q => exact absurd tl.1 (by decide)
        | ct n => exact absurd tl.1 (by decide)
        | no => exact absurd rfl tl.2.1
      obtain ⟨t0, t1, rfl, s0, s1⟩ := two_list' st
      obtain ⟨u0, u1, rfl, p0, p1⟩ := two_list pp
      obtain ⟨k0, k1, rfl, bb0, bb1⟩ := two_list' tb
      have lim := wH_two lim
      obtain ⟨x0, y0, rfl, q0, J0⟩ := part_pt p0 s0 bb0
      obtain ⟨x1, y1, rfl, q1, J1⟩ := part_pt p1 s1 bb1
      rw [decide_eq_false (by decide)]
      repeat walk_at "st"
      refine r_gLst hl rfl ?_
      refine r_g2 ?_
      refine r_match ?_
      repeat walk_at "st"
      refine r_ixT0 tm ?_
      refine r_caseN (by decide) ?_
      refine r_caseN (by decide) ?_
      refine r_caseN (by decide) ?_
      refine r_caseY ?_
      repeat walk_at "st"
      obtain ⟨z5, z6, rfl⟩ := pair_of ln
      obtain ⟨_, uu, rfl, hu⟩ := tl
      replace tm : SqT K H m [.str "share", .str z5, .str z6, uu] := tm
      have sz3 : Sz 10 tt := by
        have := nr.1
        have := nr.2
        exact ⟨Nat.lt_of_lt_of_le (show tt.num.natAbs < 1000 by omega) (by decide), Nat.lt_of_lt_of_le (show (tt.den : Int).natAbs < 1000 by omega) (by decide)⟩
      repeat walk_at "st"
      refine ⟨u0, u1, uu, x0, y0, x1, y1, tt, k0, k1, 10, rfl, q0, q1, hu, J0.x, J0.y, J1.x, J1.y, sz3, by omega, by omega, fun r' H' g' k' => ?_⟩
      exact q _ _ _ .share g' k'
    · obtain ⟨rfl, rfl⟩ := h1
      obtain rfl : d = .no := no_tail tl (by decide) (by decide) (by decide)
      obtain ⟨t0, t1, rfl, s0, s1⟩ := two_list' st
      obtain ⟨u0, u1, rfl, p0, p1⟩ := two_list pp
      obtain ⟨k0, k1, rfl, bb0, bb1⟩ := two_list' tb
      have lim := wH_foot lim (by decide)
      obtain ⟨x0, y0, rfl, q0, J0⟩ := part_pt p0 s0 bb0
      obtain ⟨a1, b1, c1, rfl, q1, m1, z1, w1, v1⟩ := part_ln p1 s1 bb1
      rw [decide_eq_false (by decide)]
      repeat walk_at "st"
      refine r_gLst hl rfl ?_
      refine r_g2 ?_
      refine r_match ?_
      repeat walk_at "st"
      refine r_ixT0 tm ?_
      refine r_caseN (by decide) ?_
      refine r_caseN (by decide) ?_
      refine r_caseN (by decide) ?_
      refine r_caseN (by decide) ?_
      refine r_caseY ?_
      repeat walk_at "st"
      refine ⟨u0, u1, x0, y0, a1, b1, c1, k0, k1, rfl, q0, q1, m1, J0, z1, w1, v1, by omega, fun r' H' fx fy g' k' o o' => ?_⟩
      exact q _ _ _ (.foot o o') g' k'
    · obtain ⟨rfl, rfl⟩ := h1
      obtain rfl : d = .no := no_tail tl (by decide) (by decide) (by decide)
      obtain ⟨t0, t1, rfl, s0, s1⟩ := two_list' st
      obtain ⟨u0, u1, rfl, p0, p1⟩ := two_list pp
      obtain ⟨k0, k1, rfl, bb0, bb1⟩ := two_list' tb
      have lim := wH_foot lim (by decide)
      obtain ⟨x0, y0, rfl, q0, J0⟩ := part_pt p0 s0 bb0
      obtain ⟨a1, b1, c1, rfl, q1, m1, z1, w1, v1⟩ := part_ln p1 s1 bb1
      rw [decide_eq_false (by decide)]
      repeat walk_at "st"
      refine r_gLst hl rfl ?_
      refine r_g2 ?_
      refine r_match ?_
      repeat walk_at "st"
      refine r_ixT0 tm ?_
      refine r_caseN (by decide) ?_
      refine r_caseN (by decide) ?_
      refine r_caseN (by decide) ?_
      refine r_caseN (by decide) ?_
      refine r_caseN (by decide) ?_
      refine r_caseY ?_
      repeat walk_at "st"
      refine ⟨u0, u1, x0, y0, a1, b1, c1, k0, k1, rfl, q0, q1, m1, J0, z1, w1, v1, by omega, fun r' H' fx fy g' k' o o' => ?_⟩
      exact q _ _ _ (.mirror o o') g' k'
    · obtain ⟨rfl, rfl⟩ := h1
      obtain rfl : d = .no := no_tail tl (by decide) (by decide) (by decide)
      obtain ⟨t0, t1, rfl, s0, s1⟩ := two_list' st
      obtain ⟨u0, u1, rfl, p0, p1⟩ := two_list pp
      obtain ⟨k0, k1, rfl, bb0, bb1⟩ := two_list' tb
      have lim := wH_two lim
      obtain ⟨a0, b0, c0, rfl, q0, m0, z0, w0, v0⟩ := part_ln p0 s0 bb0
      obtain ⟨a1, b1, c1, rfl, q1, m1, z1, w1, v1⟩ := part_ln p1 s1 bb1
      rw [decide_eq_false (by decide)]
      repeat walk_at "st"
      refine r_gLst hl rfl ?_
      refine r_g2 ?_
      refine r_match ?_
      repeat walk_at "st"
      refine r_ixT0 tm ?_
      refine r_caseN (by decide) ?_
      refine r_caseN (by decide) ?_
      refine r_caseN (by decide) ?_
      refine r_caseN (by decide) ?_
      refine r_caseN (by decide) ?_
      refine r_caseN (by decide) ?_
      refine r_caseY ?_
      repeat walk_at "st"
      refine ⟨u0, u1, a0, b0, c0, a1, b1, c1, k0, k1, rfl, q0, q1, z0, w0, v0, z1, w1, v1, by omega, fun e => ?_, fun e r' H' x y g' k' o o' _ _ => ?_⟩
      · exact q _ _ _ (.meet0 e) (Same.refl _) rfl
      · exact q _ _ _ (.meet e o o') g' k'
    · obtain ⟨rfl, rfl⟩ := h1
      obtain rfl : d = .no := no_tail tl (by decide) (by decide) (by decide)
      obtain ⟨t0, t1, rfl, s0, s1⟩ := two_list' st
      obtain ⟨u0, u1, rfl, p0, p1⟩ := two_list pp
      obtain ⟨k0, k1, rfl, bb0, bb1⟩ := two_list' tb
      have lim := wH_two lim
      obtain ⟨x0, y0, rfl, q0, J0⟩ := part_pt p0 s0 bb0
      obtain ⟨x1, y1, rfl, q1, J1⟩ := part_pt p1 s1 bb1
      rw [decide_eq_false (by decide)]
      repeat walk_at "st"
      refine r_gLst hl rfl ?_
      refine r_g2 ?_
      refine r_match ?_
      repeat walk_at "st"
      refine r_ixT0 tm ?_
      refine r_caseN (by decide) ?_
      refine r_caseN (by decide) ?_
      refine r_caseN (by decide) ?_
      refine r_caseN (by decide) ?_
      refine r_caseN (by decide) ?_
      refine r_caseN (by decide) ?_
      refine r_caseN (by decide) ?_
      refine r_caseY ?_
      repeat walk_at "st"
      refine ⟨u0, u1, x0, y0, x1, y1, k0, k1, rfl, q0, q1, J0, J1, by omega, fun e => ?_, fun e r' H' a b c g' k' l' o o' => ?_⟩
      · exact q _ _ _ (.line0 e) (Same.refl _) rfl
      · exact q _ _ _ (.line e l' o o') g' k'
    · obtain ⟨rfl, rfl⟩ := h1
      obtain rfl : d = .no := no_tail tl (by decide) (by decide) (by decide)
      obtain ⟨t0, t1, rfl, s0, s1⟩ := two_list' st
      obtain ⟨u0, u1, rfl, p0, p1⟩ := two_list pp
      obtain ⟨k0, k1, rfl, bb0, bb1⟩ := two_list' tb
      have lim := wH_two lim
      obtain ⟨x0, y0, rfl, q0, J0⟩ := part_pt p0 s0 bb0
      obtain ⟨a1, b1, c1, rfl, q1, m1, z1, w1, v1⟩ := part_ln p1 s1 bb1
      rw [decide_eq_false (by decide)]
      repeat walk_at "st"
      refine r_gLst hl rfl ?_
      refine r_g2 ?_
      refine r_match ?_
      repeat walk_at "st"
      refine r_ixT0 tm ?_
      refine r_caseN (by decide) ?_
      refine r_caseN (by decide) ?_
      refine r_caseN (by decide) ?_
      refine r_caseN (by decide) ?_
      refine r_caseN (by decide) ?_
      refine r_caseN (by decide) ?_
      refine r_caseN (by decide) ?_
      refine r_caseN (by decide) ?_
      refine r_caseY ?_
      repeat walk_at "st"
      refine ⟨u0, u1, x0, y0, a1, b1, c1, k0, k1, rfl, q0, q1, m1.nz, J0, z1, w1, by omega, fun r' H' A B C g' k' l' o o' _ _ _ => ?_⟩
      exact q _ _ _ (.along l' o o') g' k'
    · obtain ⟨rfl, rfl⟩ := h1
      obtain rfl : d = .no := no_tail tl (by decide) (by decide) (by decide)
      obtain ⟨t0, t1, rfl, s0, s1⟩ := two_list' st
      obtain ⟨u0, u1, rfl, p0, p1⟩ := two_list pp
      obtain ⟨k0, k1, rfl, bb0, bb1⟩ := two_list' tb
      have lim := wH_two lim
      obtain ⟨x0, y0, rfl, q0, J0⟩ := part_pt p0 s0 bb0
      obtain ⟨a1, b1, c1, rfl, q1, m1, z1, w1, v1⟩ := part_ln p1 s1 bb1
      rw [decide_eq_false (by decide)]
      repeat walk_at "st"
      refine r_gLst hl rfl ?_
      refine r_g2 ?_
      refine r_match ?_
      repeat walk_at "st"
      refine r_ixT0 tm ?_
      refine r_caseN (by decide) ?_
      refine r_caseN (by decide) ?_
      refine r_caseN (by decide) ?_
      refine r_caseN (by decide) ?_
      refine r_caseN (by decide) ?_
      refine r_caseN (by decide) ?_
      refine r_caseN (by decide) ?_
      refine r_caseN (by decide) ?_
      refine r_caseN (by decide) ?_
      refine r_caseY ?_
      repeat walk_at "st"
      refine ⟨u0, u1, x0, y0, a1, b1, c1, k0, k1, rfl, q0, q1, m1.nz, J0, z1, w1, by omega, fun r' H' A B C g' k' l' o o' _ _ _ => ?_⟩
      exact q _ _ _ (.upright l' o o') g' k'
    · obtain ⟨rfl, rfl⟩ := h1
      obtain rfl : d = .no := no_tail tl (by decide) (by decide) (by decide)
      obtain ⟨t0, t1, rfl, s0, s1⟩ := two_list' st
      obtain ⟨u0, u1, rfl, p0, p1⟩ := two_list pp
      obtain ⟨k0, k1, rfl, bb0, bb1⟩ := two_list' tb
      have lim := wH_two lim
      obtain ⟨x0, y0, rfl, q0, J0⟩ := part_pt p0 s0 bb0
      obtain ⟨x1, y1, rfl, q1, J1⟩ := part_pt p1 s1 bb1
      rw [decide_eq_false (by decide)]
      repeat walk_at "st"
      refine r_gLst hl rfl ?_
      refine r_g2 ?_
      refine r_match ?_
      repeat walk_at "st"
      refine r_ixT0 tm ?_
      refine r_caseN (by decide) ?_
      refine r_caseN (by decide) ?_
      refine r_caseN (by decide) ?_
      refine r_caseN (by decide) ?_
      refine r_caseN (by decide) ?_
      refine r_caseN (by decide) ?_
      refine r_caseN (by decide) ?_
      refine r_caseN (by decide) ?_
      refine r_caseN (by decide) ?_
      refine r_caseN (by decide) ?_
      refine r_caseY ?_
      repeat walk_at "st"
      refine ⟨u0, u1, x0, y0, x1, y1, k0, k1, rfl, q0, q1, J0, J1, by omega, fun e => ?_, fun e r' H' g' k' => ?_⟩
      · exact q _ _ _ (.circle0 e) (Same.refl _) rfl
      · exact q _ _ _ (.circle e) g' k'
  ) only [↓Mb.dischW]
theorem ok_holds (F : Fn K mg "holds" s_holds) (G_in_line : Kn P w K mg base 4 "in_line" ["p", "q", "r"] (spIn K)) (G_all_round : Kn P w K mg base 5 "all_round" ["p", "q", "r", "s"] (spRound K)) (G_as_far : Kn P w K mg base 4 "as_far" ["p", "q", "r", "s"] (spAsFar K)) (G_side_by_side : Kn P w K mg base 1 "side_by_side" ["line", "other"] (spL2 K RSide)) (G_square_on : Kn P w K mg base 1 "square_on" ["line", "other"] (spL2 K RSq)) : Kn P w K mg base 6 "holds" ["word", "parts"] (spHolds K) := by
  refine Mb.ofW ?_
  simp (discharger := with_unfolding_all
    refine F.kn sc_holds (fun vs H Q E h => ?_) (fun f cdv A outer s H vs Q E hr h => ?_) (fun _ _ _ _ _ _ us hl => match us, hl with | [_, _], _ => rfl)
    · obtain ⟨l, x, g, us, ps, rfl, _⟩ := h
      rfl
    obtain ⟨l, x, g, us, ps, rfl, tx, hl, pp, tb, st, q⟩ := h
    refine ⟨_, (pss_one (ps_match (pv 0) (pm_str pe_str (pss_one (ps_ret (pe_star1 G_in_line (hr.mono (by decide)) (by rfl) (pv 1)))) (pm_str pe_str (pss_one (ps_ret (pe_star1 G_all_round (hr.mono (by decide)) (by rfl) (pv 1)))) (pm_str pe_str (pss_one (ps_ret (pe_star1 G_as_far (hr.mono (by decide)) (by rfl) (pv 1)))) (pm_str pe_str (pss_one (ps_ret (pe_star1 G_side_by_side (hr.mono (by decide)) (by rfl) (pv 1)))) (pm_str pe_str (pss_one (ps_ret (pe_star1 G_square_on (hr.mono (by decide)) (by rfl) (pv 1)))) pm_nil))))))), ?_⟩
    show (_ : TS) _ [some (.str x), some (.ref l)] _
    refine r_match ?_
    repeat walk_at "st"
    obtain h1 | h1 | h1 | h1 | h1 := claims_of tx
    · obtain ⟨rfl, rfl⟩ := h1
      refine r_caseY ?_
      repeat walk_at "st"
      obtain ⟨t0, t1, t2, rfl, s0, s1, s2⟩ := three_list' st
      obtain ⟨u0, u1, u2, rfl, p0, p1, p2⟩ := three_list pp
      obtain ⟨x0, y0, rfl, q0, J0⟩ := part_pt p0 s0 (tb _ (by simp))
      obtain ⟨x1, y1, rfl, q1, J1⟩ := part_pt p1 s1 (tb _ (by simp))
      obtain ⟨x2, y2, rfl, q2, J2⟩ := part_pt p2 s2 (tb _ (by simp))
      refine r_star1 ?_
      repeat walk_at "st"
      refine ⟨l, _, rfl, .inr hl, ?_⟩
      refine ⟨u0, u1, u2, x0, y0, x1, y1, x2, y2, 3000, rfl, q0, q1, q2, J0.x, J0.y, J1.x, J1.y, J2.x, J2.y, by omega, fun H' g' => ?_⟩
      exact q _ _ .inline g'
    · obtain ⟨rfl, rfl⟩ := h1
      refine r_caseN (by decide) ?_
      refine r_caseY ?_
      repeat walk_at "st"
      obtain ⟨t0, t1, t2, t3, rfl, s0, s1, s2, s3⟩ := four_list' st
      obtain ⟨u0, u1, u2, u3, rfl, p0, p1, p2, p3⟩ := four_list pp
      obtain ⟨x0, y0, rfl, q0, J0⟩ := part_pt p0 s0 (tb _ (by simp))
      obtain ⟨x1, y1, rfl, q1, J1⟩ := part_pt p1 s1 (tb _ (by simp))
      obtain ⟨x2, y2, rfl, q2, J2⟩ := part_pt p2 s2 (tb _ (by simp))
      obtain ⟨x3, y3, rfl, q3, J3⟩ := part_pt p3 s3 (tb _ (by simp))
      refine r_star1 ?_
      repeat walk_at "st"
      refine ⟨l, _, rfl, .inr hl, ?_⟩
      refine ⟨u0, u1, u2, u3, x0, y0, x1, y1, x2, y2, x3, y3, 3000, rfl, q0, q1, q2, q3, J0.x, J0.y, J1.x, J1.y, J2.x, J2.y, J3.x, J3.y, by omega, fun b H' g' e => ?_⟩
      exact q _ _ (.round e) g'
    · obtain ⟨rfl, rfl⟩ := h1
      refine r_caseN (by decide) ?_
      refine r_caseN (by decide) ?_
      refine r_caseY ?_
      repeat walk_at "st"
      obtain ⟨t0, t1, t2, t3, rfl, s0, s1, s2, s3⟩ := four_list' st
      obtain ⟨u0, u1, u2, u3, rfl, p0, p1, p2, p3⟩ := four_list pp
      obtain ⟨x0, y0, rfl, q0, J0⟩ := part_pt p0 s0 (tb _ (by simp))
      obtain ⟨x1, y1, rfl, q1, J1⟩ := part_pt p1 s1 (tb _ (by simp))
      obtain ⟨x2, y2, rfl, q2, J2⟩ := part_pt p2 s2 (tb _ (by simp))
      obtain ⟨x3, y3, rfl, q3, J3⟩ := part_pt p3 s3 (tb _ (by simp))
      refine r_star1 ?_
      repeat walk_at "st"
      refine ⟨l, _, rfl, .inr hl, ?_⟩
      refine ⟨u0, u1, u2, u3, x0, y0, x1, y1, x2, y2, x3, y3, 3000, rfl, q0, q1, q2, q3, J0.x, J0.y, J1.x, J1.y, J2.x, J2.y, J3.x, J3.y, by omega, fun b H' g' e => ?_⟩
      exact q _ _ (.alike e) g'
    · obtain ⟨rfl, rfl⟩ := h1
      refine r_caseN (by decide) ?_
      refine r_caseN (by decide) ?_
      refine r_caseN (by decide) ?_
      refine r_caseY ?_
      repeat walk_at "st"
      obtain ⟨t0, t1, rfl, s0, s1⟩ := two_list' st
      obtain ⟨u0, u1, rfl, p0, p1⟩ := two_list pp
      obtain ⟨a0, b0, c0, rfl, q0, n0, z0, w0, v0⟩ := part_ln p0 s0 (tb _ (by simp))
      obtain ⟨a1, b1, c1, rfl, q1, n1, z1, w1, v1⟩ := part_ln p1 s1 (tb _ (by simp))
      refine r_star1 ?_
      repeat walk_at "st"
      refine ⟨l, _, rfl, .inr hl, ?_⟩
      refine ⟨u0, u1, a0, b0, c0, a1, b1, c1, rfl, q0, q1, z0.mono (by omega), w0.mono (by omega), z1.mono (by omega), w1.mono (by omega), ?_⟩
      exact q _ _ .beside (Same.refl _)
    · obtain ⟨rfl, rfl⟩ := h1
      refine r_caseN (by decide) ?_
      refine r_caseN (by decide) ?_
      refine r_caseN (by decide) ?_
      refine r_caseN (by decide) ?_
      refine r_caseY ?_
      repeat walk_at "st"
      obtain ⟨t0, t1, rfl, s0, s1⟩ := two_list' st
      obtain ⟨u0, u1, rfl, p0, p1⟩ := two_list pp
      obtain ⟨a0, b0, c0, rfl, q0, n0, z0, w0, v0⟩ := part_ln p0 s0 (tb _ (by simp))
      obtain ⟨a1, b1, c1, rfl, q1, n1, z1, w1, v1⟩ := part_ln p1 s1 (tb _ (by simp))
      refine r_star1 ?_
      repeat walk_at "st"
      refine ⟨l, _, rfl, .inr hl, ?_⟩
      refine ⟨u0, u1, a0, b0, c0, a1, b1, c1, rfl, q0, q1, z0.mono (by omega), w0.mono (by omega), z1.mono (by omega), w1.mono (by omega), ?_⟩
      exact q _ _ .square (Same.refl _)
  ) only [↓Mb.dischW]
theorem ok_telling {A_FAILING A_STANDING : Addr} (g_FAILING : mg "FAILING" = some (.ref A_FAILING)) (g_STANDING : mg "STANDING" = some (.ref A_STANDING)) (W_FAILING : ∀ x ∈ (["line", "circle", "meet"] : List Str), KDct K w A_FAILING x (.str (failW x))) (W_STANDING : ∀ x ∈ (["point", "line", "circle"] : List Str), KDct K w A_STANDING x (.str (tagW x))) {cT PT : Addr} {T : List (Addr × Str)} (TB : LamX.TabB base mg cT PT) (hmT : (PT, ("telling.<locals>.<lambda>" : Str)) ∈ T) (huT : ∀ p ∈ T, p.1 = PT → p.2 = ("telling.<locals>.<lambda>" : Str)) (F : FnC K mg "telling" s_telling cT) (G_grounds : Kn P w K mg base 2 "grounds" ["making"] (spGrounds K)) (G_sort_of : Kn P w K mg base 1 "sort_of" ["making"] (spSort K)) (G_cut : Kn P w K mg base 6 "cut" ["name", "number", "curve", "ring"] (spCut K)) (G_holds : Kn P w K mg base 6 "holds" ["word", "parts"] (spHolds K)) (G_figure : Kn P w K mg base 7 "figure" ["making", "parts"] (spFigure K)) (z_min : mg "min" = none) : Kn P w K mg base 8 "telling" ["name", "making", "told", "order"] (spTelling K T) := by
  refine Mb.ofW ?_
  simp (discharger := with_unfolding_all
    refine F.kn sc_telling (fun vs H Q E h => ?_) (fun f A outer s H vs Q E hr h => ?_) (fun _ _ _ _ _ _ us hl => match us, hl with | [_, _, _, _], _ => rfl)
    · obtain ⟨m, D, O, t, L, tv, ps, rfl, _⟩ := h
      rfl
    obtain ⟨m, D, O, t, L, tv, ps, rfl, ⟨r, tm, tl⟩, ⟨so, g, tx, pr⟩, w40, nr, hD, tos, hO, tk, tabs, q⟩ := h
    refine ⟨_, (pss_cons (ps_setLc (i := 4) (own := [("ground", 5)]) (g := gName 5) (by rfl) sc_telling.nd rfl rfl (sw_true rfl rfl rfl (by decide +kernel)) (pi_list (pe_kn G_grounds (hr.mono (by decide)) (by rfl) (pa_cons (pv 1) pa_nil))) (blkOk_by (own := [("ground", 5)]) (N := ["name", "making", "told", "order", "on", "ground", "gone", "one", "parts", "made"]) (sc := (defScope s_telling)) (by decide +kernel)) (fun _ _ _ _ _ => pg_name (i := 5) sc_telling.nd rfl (.inl rfl)) (fun _ _ _ _ _ => pts_nil) (fun _ _ _ _ _ => (pe_dget (u1 hr.units) (pv 2) (pv 5) (fun _ _ => rfl))))
      (pss_cons (ps_setLc (i := 6) (own := [("one", 7)]) (g := gName 7) (by rfl) sc_telling.nd rfl rfl (sw_true rfl rfl rfl (by decide +kernel)) (pi_list (pv 4)) (blkOk_by (own := [("one", 7)]) (N := ["name", "making", "told", "order", "on", "ground", "gone", "one", "parts", "made"]) (sc := (defScope s_telling)) (by decide +kernel)) (fun _ _ _ _ _ => pg_name (i := 7) sc_telling.nd rfl (.inl rfl)) (fun _ _ _ _ _ => pts_one (pt_cmpR op_eq (pe_ix (show IxR _ (rIxT K) from ix_tup) (pv 7) pe_int (fun _ _ => rfl)) pe_str (nomark _))) (fun _ _ _ _ _ => (pv 7)))
      (pss_cons (ps_if (pt_truth (pv 6) (by intro _; rfl))
      (pss_one (ps_ret (pe_minL (T := T) (c := cT) (P := PT) (N := ["one", "order"]) (ps := ["one"]) (fr := ["order"]) (js := [3]) (k := 0) rfl (hr.mono (by decide)) (by rfl) z_min (by rfl) (pa_cons (pv 6) pa_nil) TB (by rfl) hmT huT (by rfl) (show ∀ y ∈ _, _ → (defScope s_telling).names.lookup _ = _ ∨ (defScope s_telling).names.lookup _ = _ from by decide +kernel) (NdefX.nscope_by (by decide +kernel)) (by rfl) (fun _ _ _ _ _ us hl => match us, hl with | [_], _ => rfl) (by decide +kernel) (by rfl) (fun c9 f9 A9 o9 s9 H9 hr9 => pe_dget (u1 hr9.units) (pv 1) (pe_ix (show IxR _ (rIxT K) from ix_tup) (pv 0) pe_int (fun _ _ => rfl)) (fun _ _ => rfl)))))
      pss_nil)
      (pss_cons (ps_if (pt_cmpR op_eq (pe_ix ix_tup (pv 1) pe_int (fun _ _ => rfl)) pe_str (nomark _))
      (pss_one (ps_ret (pe_kn G_cut (hr.mono (by decide)) (by rfl) (pa_cons (pv 0) (pa_cons (pe_ix ix_tup (pv 1) pe_int (fun _ _ => rfl)) (pa_cons (pe_ix ix_list (pv 4) pe_int (fun _ _ => rfl)) (pa_cons (pe_ix ix_list (pv 4) pe_int (fun _ _ => rfl)) pa_nil)))))))
      pss_nil)
      (pss_cons (ps_setLc (i := 8) (own := [("one", 7)]) (g := gName 7) (by rfl) sc_telling.nd rfl rfl (sw_true rfl rfl rfl (by decide +kernel)) (pi_list (pv 4)) (blkOk_by (own := [("one", 7)]) (N := ["name", "making", "told", "order", "on", "ground", "gone", "one", "parts", "made"]) (sc := (defScope s_telling)) (by decide +kernel)) (fun _ _ _ _ _ => pg_name (i := 7) sc_telling.nd rfl (.inl rfl)) (fun _ _ _ _ _ => pts_nil) (fun _ _ _ _ _ => (pe_slice (show SlR _ (rSlT K) from sl_tup) (pv 7) (po_some pe_int) po_none)))
      (pss_cons (ps_if (pt_cmpR op_eq (pe_kn G_sort_of (hr.mono (by decide)) (by rfl) (pa_cons (pv 1) pa_nil)) pe_str (nomark _))
      (pss_one (ps_ret (pe_ifExp (pt_val (pe_kn G_holds (hr.mono (by decide)) (by rfl) (pa_cons (pe_ix ix_tup (pv 1) pe_int (fun _ _ => rfl)) (pa_cons (pv 8) pa_nil)))) (pe_tup (pa_cons pe_str pa_nil)) (pe_tup (pa_cons pe_str pa_nil)))))
      pss_nil)
      (pss_cons (ps_set (i := 9) sc_telling.nd rfl (.inl rfl) (pe_kn G_figure (hr.mono (by decide)) (by rfl) (pa_cons (pv 1) (pa_cons (pv 8) pa_nil))))
      (pss_cons (ps_if (pt_cmpR op_isNo (pv 9) pe_non (nomark _))
      (pss_one (ps_ret (pe_tup (pa_cons pe_str (pa_cons (pv 0) (pa_cons (pe_ix ix_kdict (pe_glob (v := .ref A_FAILING) (by rfl) g_FAILING rfl) (pe_ix ix_tup (pv 1) pe_int (fun _ _ => rfl)) (fun _ _ => rfl)) pa_nil))))))
      pss_nil)
      (pss_one (ps_ret (pe_tup (pa_cons (pe_ix ix_kdict (pe_glob (v := .ref A_STANDING) (by rfl) g_STANDING rfl) (pe_kn G_sort_of (hr.mono (by decide)) (by rfl) (pa_cons (pv 1) pa_nil)) (fun _ _ => rfl)) (StX.pa_star (pv 9) pa_nil))))))))))))), ?_⟩
    show (_ : TS) _ [some (.str t.1), some (.ref m), some (.ref D), some (.ref O), none, none, none, none, none, none] _
    obtain ⟨z, x, ns, d⟩ := t
    replace tl : Ntl K H x r d := tl
    have few4 : ns.length < 64 := by rw [Paired.length pr]; exact few tx
    have inE : ∀ z ∈ ns, z ∈ nmsE L := fun z hz => paired_left (P := fun z => z ∈ nmsE L) (fun _ _ h => h.1.1) pr z hz
    have inP : ∀ z ∈ ns, z ∈ ps.map (·.1) := fun z hz => by rw [← tk.nms]; exact inE z hz
    repeat walk_at "st"
    refine r_lcM ?_
    repeat walk_at "st"
    refine ⟨m, x, so, g, ns, r, rfl, tm, tx, Paired.length pr, fun l H1 s1 n1 e1 => ?_⟩
    refine lc_map (fun v => match v with | .str z => lookV tv z | _ => .non) (lstOf e1) (by rw [List.length_map]; omega) (fun _ => rfl) (fun i v H' hv g' R k => ?_) fun D1 H2 s2 n2 e2 => ?_
    · rw [List.getElem?_map] at hv
      obtain ⟨y, hy, rfl⟩ := Option.map_eq_some_iff.mp hv
      refine r_dg ?_
      repeat walk_at "st"
      refine ⟨D, _, rfl, get_told (g' _ _ (s1 _ _ hD)) tos (inP y (List.mem_of_getElem? hy)), ?_⟩
      exact k _ (Same.refl _)
    have g2 := s1.trans s2
    rw [List.map_map] at e2
    have prT : Paired (Tq K H2) (ns.map (lookV tv)) (ns.map (lookT ps)) := paired_maps ns fun z hz => ((tos.look (inP z hz)).2.1).kp (Kp.same g2)
    replace e2 : H2 D1 = some (.lst (ns.map (lookV tv))) := e2
    repeat walk_at "st"
    refine r_lcM ?_
    repeat walk_at "st"
    refine lc_filtP (Tq K) (fun k h => h.kp k) isGone (lstOf e2) prT (by rw [List.length_map]; omega) (fun _ => rfl) (fun v t H' ht pt g' R k => ?_) (fun v H' g' R k => ?_) fun G gs H3 s3 n3 eG pG => ?_
    · obtain ⟨a, rr, rfl, ta⟩ := pt.head
      repeat walk_at "st"
      refine r_ixT0 ta ?_
      repeat walk_at "st"
      exact k H' (Same.refl _)
    · repeat walk_at "st"
      exact k H' (Same.refl _)
    have g3 := g2.trans s3
    have tabs3 := tabs.ext g3
    have prT3 := Paired.mapP prT fun _ _ h => h.kp (Kp.same s3)
    have e3 := s3 _ _ e2
    refine r_seq ?_
    refine r_ifTru ?_
    repeat walk_at "st"
    refine ⟨_, tru_lst eG, ?_⟩
    cases pG' : gs with
    | cons v0 gs0 => 
      subst pG'
      rw [if_pos (by rfl)]
      refine r_minL ?_
      repeat walk_at "st"
      have gin : ∀ n w', Tell.gone n w' ∈ ns.map (lookT ps) → n ∈ ps.map (·.1) := fun n w' h => by
        obtain ⟨y, hy, e⟩ := List.mem_map.mp h
        have := (tos.look (inP y hy)).2.2
        rw [e] at this
        exact tk.gon _ _ _ this
      refine ⟨G, v0 :: gs0, rfl, tabs3, fun H4 x4 w4 t4 => ?_⟩
      have g4 : Grw T H H4 := (Grw.same tabs g3).trans ⟨x4, w4, t4⟩
      have g34 : Grw T H3 H4 := ⟨x4, w4, t4⟩
      have eO : H4 O = some (.dK (ordD (ps.map (·.1) ++ [z]))) := x4 _ _ (g3 _ _ hO) fun _ z => by cases z
      refine ⟨lstOf (x4 _ _ eG fun _ z => by cases z), fun v hv => ?_, Nat.succ_pos _, fun i => keyT ps (((ns.map (lookT ps)).filter isGone).getD i .kept), fun i v hi => ?_, fun i v hi hm => ?_⟩
      · obtain ⟨i, hi⟩ := List.getElem?_of_mem hv
        obtain ⟨t, _, ht⟩ := LiI.paired_get pG hi
        obtain ⟨a, rr, e, _⟩ := ht.head
        exact ⟨a, e⟩
      · obtain ⟨t, ht, tq⟩ := LiI.paired_get pG hi
        obtain ⟨h1, h2⟩ := List.mem_filter.mp (List.mem_of_getElem? ht)
        obtain ⟨n, w', rfl⟩ := gone_of h2
        have hn := gin n w' h1
        obtain ⟨a, rfl, ta⟩ := tq
        have ta4 := g34.kp _ _ ta
        refine r_dg ?_
        repeat walk_at "st"
        refine ⟨O, _, rfl, get_ord eO (List.mem_append_left _ hn), ?_⟩
        refine ⟨?_, rfl⟩
        simp only [List.getD_eq_getElem?_getD, ht]
        show _ = V.int ((ps.map (·.1)).idxOf n : Int)
        rw [idx_app hn]
      · obtain ⟨t, ht, tq⟩ := LiI.paired_get pG hi
        obtain ⟨h1, h2⟩ := List.mem_filter.mp (List.mem_of_getElem? ht)
        obtain ⟨n, w', rfl⟩ := gone_of h2
        refine q _ _ _ (.gone h1 fun n' w2 h' => ?_) g4 (tq.kp g34.kp)
        obtain ⟨j, hj⟩ := List.getElem?_of_mem (List.mem_filter.mpr ⟨h', (by rfl : isGone (.gone n' w2) = true)⟩)
        have lj : j < (v0 :: gs0).length := by rw [Paired.length pG]; exact (List.getElem?_eq_some_iff.mp hj).1
        have := hm j lj
        simp only [List.getD_eq_getElem?_getD, ht, hj] at this
        exact this
    | nil =>
      subst pG'
      rw [if_neg (by simp)]
      have nog : noGone (ns.map (lookT ps)) := fun t ht e => by
        have := Paired.length pG
        have hm : t ∈ (ns.map (lookT ps)).filter isGone := List.mem_filter.mpr ⟨ht, decide_eq_true e⟩
        rw [List.length_eq_zero_iff.mp this.symm] at hm
        cases hm
      have tm3 := g3.tp tm
      have len := Paired.length pr
      repeat walk_at "st"
      refine r_seq ?_
      repeat walk_at "st"
      refine r_ixT0 tm3 ?_
      repeat walk_at "st"
      refine r_ite (c := x = "cut") (fun c => ?_) (fun c => ?_)
      · subst c
        obtain ⟨rfl, rfl⟩ := cut_of tx
        obtain ⟨z1, z2, rfl, ⟨⟨m1, _⟩, f1⟩, ⟨m2, _⟩, f2⟩ := two_list pr
        obtain ⟨n, rfl⟩ : ∃ n, d = .ct n := by
          cases d with
          | ct n => exact ⟨n, rfl⟩
          | fr p q => exact absurd tl.1 (by decide)
          | sh t => exact absurd tl.1 (by decide)
          | no => exact absurd rfl tl.2.2.1
        obtain ⟨_, rfl⟩ := tl
        replace tm3 : SqT K H3 m [.str "cut", .str z1, .str z2, .int n] := tm3
        replace e3 : H3 D1 = some (.lst [lookV tv z1, lookV tv z2]) := e3
        have el := lstOf (K := K) e3
        obtain ⟨t1, t2⟩ := tk_tb tk tos (z := z1) (inP z1 (by simp))
        obtain ⟨t3, t4⟩ := tk_tb tk tos (z := z2) (inP z2 (by simp))
        have n1 := nog (lookT ps z1) (by simp)
        have n2' := nog (lookT ps z2) (by simp)
        repeat walk_at "st"
        refine ⟨z, n, _, _, _, _, _, _, rfl, nr, t2.kp (Kp.same g3), t4.kp (Kp.same g3), t1, t3, fun c => ?_, fun c => ?_, ?_, (tag_srt (tk.srt z2 m2) n2').2.2 (fit_eq f2 (by decide)), fun t u H' k g' t' => q _ _ _ (.cut nog rfl rfl rfl k) (Grw.same tabs (g3.trans g')) t'⟩
        · obtain ⟨_, _, _, e⟩ := tag_ln c
          have ss := tk.srt z1 m1
          rw [e] at ss
          have ss : srtE L z1 = "line" := ss
          have w40 : wOf "cut" [z1, z2] L ≤ 40 := w40
          rw [wOf_cut, ss, if_neg (by decide)] at w40
          have := tk.pos z1 m1
          have := tk.pos z2 m2
          unfold hgt
          omega
        · obtain ⟨_, _, _, e⟩ := tag_ci c
          have ss := tk.srt z1 m1
          rw [e] at ss
          have ss : srtE L z1 = "circle" := ss
          have w40 : wOf "cut" [z1, z2] L ≤ 40 := w40
          rw [wOf_cut, ss, if_pos rfl] at w40
          have := tk.pos z1 m1
          have := tk.pos z2 m2
          unfold hgt
          omega
        rcases fit_cur f1 with e | e
        · exact .inl ((tag_srt (tk.srt z1 m1) n1).2.1 e)
        · exact .inr ((tag_srt (tk.srt z1 m1) n1).2.2 e)
      · have figs : ∀ t ∈ ns.map (lookT ps), figT t := fun t ht => by
          obtain ⟨y, hy, rfl⟩ := List.mem_map.mp ht
          obtain ⟨i, hi⟩ := List.getElem?_of_mem hy
          obtain ⟨due, hd, ⟨hy1, _⟩, hf⟩ := LiI.paired_get pr hi
          exact figT_of (tk.srt y hy1) (nog _ ht) (dues_of tx due (List.mem_of_getElem? hd)) hf
        have tbs : ∀ t ∈ ns.map (lookT ps), Tb 3000 t := fun t ht => by
          obtain ⟨y, hy, rfl⟩ := List.mem_map.mp ht
          exact (tk_tb tk tos (inP y hy)).1.mono (by have := hgt_lim (tk.pos y (inE y hy)).2; omega)
        have tbh := paired_maps (F := fun t n => Tb n t) (f := lookT ps) (g := fun z => hgt (wtE L z)) ns fun y hy => (tk_tb tk tos (inP y hy)).1
        have srts := srt_of tk pr (nocurve_of tx c)
        repeat walk_at "st"
        refine r_lcM ?_
        repeat walk_at "st"
        refine lc_mk (Tq K) (Pt K) (fun k h => h.kp k) (fun k h => h.kp k) (lstOf e3) prT3 (by rw [List.length_map]; omega) (fun _ => rfl) (fun v t H' ht pt g' R k => ?_) fun P1 vs H4 s4 n4 eP pP => ?_
        · refine r_slR ?_
          repeat walk_at "st"
          cases t with
          | pt a b =>
            obtain ⟨aa, u1, u2, rfl, ta, q1, q2⟩ := pt
            refine r_partR ?_
            repeat walk_at "st"
            refine ⟨aa, _, rfl, ta, cut_part, fun p hp => ?_⟩
            rw [cut_tail]
            have gg := same_new hp (.tup [u1, u2])
            exact k _ _ gg ⟨p, u1, u2, rfl, tupOf upd_same, q1.up gg, q2.up gg⟩
          | ln a b e =>
            obtain ⟨aa, rfl, ta⟩ := pt
            refine r_partR ?_
            repeat walk_at "st"
            refine ⟨aa, _, rfl, ta, cut_part, fun p hp => ?_⟩
            rw [cut_tail]
            have gg := same_new hp (.tup [.int a, .int b, .int e])
            exact k _ _ gg ⟨p, rfl, tupOf upd_same⟩
          | ci a b e =>
            obtain ⟨aa, u1, u2, u3, rfl, ta, q1, q2, q3⟩ := pt
            refine r_partR ?_
            repeat walk_at "st"
            refine ⟨aa, _, rfl, ta, cut_part, fun p hp => ?_⟩
            rw [cut_tail]
            have gg := same_new hp (.tup [u1, u2, u3])
            exact k _ _ gg ⟨p, u1, u2, u3, rfl, tupOf upd_same, q1.up gg, q2.up gg, q3.up gg⟩
          | kept => exact (not_fig (figs _ ht)).elim
          | broken => exact (not_fig (figs _ ht)).elim
          | gone n w' => exact (not_fig (figs _ ht)).elim
        have g4 := g3.trans s4
        have tm4 := g4.tp tm
        repeat walk_at "st"
        refine r_seq ?_
        repeat walk_at "st"
        refine ⟨m, x, so, g, _, rfl, tm4, tx, ?_⟩
        repeat walk_at "st"
        refine r_ite (c := so = "claim") (fun cs => ?_) (fun cs => ?_)
        · subst cs
          repeat walk_at "st"
          refine r_if ?_
          repeat walk_at "st"
          refine r_ixT0 tm4 ?_
          repeat walk_at "st"
          refine ⟨P1, x, g, vs, _, rfl, tx, lstOf eP, pP, tbs, srts, fun b H5 hd g5 => ?_⟩
          refine ⟨b, rfl, ?_⟩
          cases b with
          | true =>
            repeat walk_at "st"
            refine ⟨sz rfl, fun o no => ?_⟩
            exact q _ _ _ (.claim nog (claimW_of tx) hd) (Grw.same tabs (g4.trans (g5.trans (same_new no _)))) ⟨o, rfl, tupOf upd_same⟩
          | false =>
            repeat walk_at "st"
            refine ⟨sz rfl, fun o no => ?_⟩
            exact q _ _ _ (.claim nog (claimW_of tx) hd) (Grw.same tabs (g4.trans (g5.trans (same_new no _)))) ⟨o, rfl, tupOf upd_same⟩
        · repeat walk_at "st"
          refine ⟨m, P1, x, so, g, ns, d, vs, _, _, rfl, ⟨r, tm4, tl.kp (Kp.same g4)⟩, tx, len, cs, c, nr, lstOf eP, pP, tbh, fig_lim tx cs c len (fun y hy => (tk.pos y (inE y hy)).1) w40, srts, fun rr v H5 fg g5 fo => ?_⟩
          have tm5 := g5.tp tm4
          have g45 := g4.trans g5
          repeat walk_at "st"
          refine r_seq ?_
          repeat walk_at "st"
          cases rr with
          | none =>
            obtain rfl : v = .non := fo
            refine r_isNN ?_
            repeat walk_at "st"
            refine r_ixT0 tm5 ?_
            refine ⟨A_FAILING, x, _, rfl, rfl, W_FAILING x (fg_none fg), ?_⟩
            repeat walk_at "st"
            refine ⟨sz rfl, fun o no => ?_⟩
            exact q _ _ _ (.fig0 nog fg) (Grw.same tabs (g45.trans (same_new no _))) ⟨o, rfl, tupOf upd_same⟩
          | some t =>
            obtain ⟨st, so3⟩ := fg_some fg tx
            obtain ⟨a, xs, rfl, ta, l3, tg, fin⟩ := part_tell fo
            refine r_isNR ?_
            repeat walk_at "st"
            refine ⟨m, x, so, g, _, rfl, tm5, tx, ?_⟩
            refine ⟨A_STANDING, so, _, rfl, rfl, W_STANDING so so3, ?_⟩
            repeat walk_at "st"
            refine r_tStar ?_
            repeat walk_at "st"
            refine ⟨a, xs, rfl, .inl ta, ?_⟩
            repeat walk_at "st"
            rw [List.append_nil]
            refine ⟨Nat.le_trans (show xs.length + 1 ≤ 4 by omega) (by decide), fun o no => ?_⟩
            have g6 := same_new no (.tup (V.str (tagW so) :: xs))
            refine q _ _ _ (.fig nog fg) (Grw.same tabs (g45.trans g6)) (fin _ _ (Kp.same g6) ?_)
            rw [← tg so st]
            exact tupOf upd_same
  ) only [↓Mb.dischW]
theorem ok_anew {T : List (Addr × Str)} (F : Fn K mg "anew" s_anew) (G_check_row : Kn P w K mg base 5 "check_row" ["row"] (spCheckRow K)) (G_telling : Kn P w K mg base 8 "telling" ["name", "making", "told", "order"] (spTelling K T)) (z_len : mg "len" = none) (z_list : mg "list" = none) : Kn P w K mg base 9 "anew" ["row"] (spAnew K T) := by
  refine Mb.ofW ?_
  simp (discharger := with_unfolding_all
    refine F.kn sc_anew (fun vs H Q E h => ?_) (fun f cdv A outer s H vs Q E hr h => ?_) (fun _ _ _ _ _ _ us hl => match us, hl with | [_], _ => rfl)
    · obtain ⟨l, us, ts, rfl, _⟩ := h
      rfl
    obtain ⟨l, us, ts, rfl, hl, rw_, gr, hn, tabs, q⟩ := h
    refine ⟨_, (pss_cons (ps_expr (pe_kn G_check_row (hr.mono (by decide)) (by rfl) (pa_cons (pv 0) pa_nil)))
      (pss_cons (ps_set (i := 1) sc_anew.nd rfl (.inl rfl) pe_dnewK)
      (pss_cons (ps_set (i := 2) sc_anew.nd rfl (.inl rfl) pe_dnewK)
      (pss_cons (ps_for PassesOwn.never rfl (pi_list (pv 0)) (pg_tup (by rfl) (pgs_cons (pg_name (i := 3) sc_anew.nd rfl (.inl rfl)) (pgs_cons (pg_name (i := 4) sc_anew.nd rfl (.inl rfl)) pgs_nil)))
      (pss_cons (ps_dput (u1 hr.units) (pv 2) (pv 3) (pe_callB call_lenD (by rfl) z_len (by decide +kernel) (pa_cons (pv 2) pa_nil)) (by rfl))
      (pss_one (ps_dput (u1 hr.units) (pv 1) (pv 3) (pe_kn G_telling (hr.mono (by decide)) (by rfl) (pa_cons (pv 3) (pa_cons (pv 4) (pa_cons (pv 1) (pa_cons (pv 2) pa_nil))))) (by rfl)))))
      (pss_one (ps_ret (pe_listVals (by rfl) (pv 1) (by rfl) z_list (by decide +kernel)))))))), ?_⟩
    show (_ : TS) _ [some (.ref l), none, none, none, none] _
    repeat walk_at "st"
    refine ⟨l, us, ts, rfl, hl, rw_, gr, hn, fun H1 s1 => ?_⟩
    repeat walk_at "st"
    refine fun D nD => ?_
    repeat walk_at "st"
    refine fun O nO => ?_
    have g1 := s1.trans (same_new nD (.dK []))
    have neDO : D ≠ O := fun z => by rw [z, upd_same] at nO; cases nO
    have s2 := same_new nO (.dK [])
    have eO : upd (upd H1 D (.dK [])) O (.dK []) O = some (.dK (ordD [])) := upd_same
    have eD := s2 _ _ (show upd H1 D (.dK []) D = some (.dK (toldD [])) from upd_same)
    have nO0 := g1.free nO
    have nD0 := s1.free nD
    have g0 := g1.trans s2
    generalize upd (upd H1 D (.dK [])) O (.dK []) = H0 at *
    have ln := rw_.len
    repeat walk_at "st"
    with_reducible refine r_cut (fun σ H' => ∃ (y3 y4 : Option V) (ps : Tls) (tv : List (Str × V)), σ = [some (.ref l), some (.ref D), some (.ref O), y3, y4] ∧ Grw T H H' ∧ H' D = some (.dK (toldD tv)) ∧ Tos K H' tv ps ∧ AR [] ts ps) ?U1 ?V1
    case V1 =>
      intro N J
      refine ⟨.ref l, rfl, l, rfl, ⟨us, g0.seq hl⟩, ?_⟩
      refine for_list (xs := us) (fun i σ H' => ∃ (y3 y4 : Option V) (ps : Tls) (tv : List (Str × V)), σ = [some (.ref l), some (.ref D), some (.ref O), y3, y4] ∧ Grw T H H' ∧ H' D = some (.dK (toldD tv)) ∧ H' O = some (.dK (ordD (ps.map (·.1)))) ∧ SqL K H' l us ∧ Tos K H' tv ps ∧ AR [] (ts.take i) ps ∧ Tok_ (envOf [] ((ts.take i).map thOf)) ps) ?_ ?_ ?_ ?_
      · exact ⟨_, _, [], [], rfl, Grw.same tabs g0, eD, eO, g0.seq hl, .nil, by rw [List.take_zero]; exact .nil, by rw [List.take_zero]; exact tok0⟩
      · rintro i σ H' _ ⟨_, _, _, _, _, _, _, _, hl', _⟩
        exact hl'
      · rintro i v σ H2 hv ⟨y3, y4, ps, tv, rfl, gw, hD, hO, hl', tos, ar, tk⟩
        obtain ⟨t, ht, a, m, rfl, ta, mk⟩ := rw_.at hv
        obtain ⟨gt, es⟩ := gr.at ht
        have hi := (List.getElem?_eq_some_iff.mp ht).1
        have e1 : ts.take (i + 1) = ts.take i ++ [t] := by rw [List.take_succ, ht, Option.toList_some]
        have ltv : tv.length = ps.length := Paired.length tos
        have lps : ps.length ≤ 60 := by
          have := congrArg List.length (AR.nms ar)
          simp only [List.length_map, List.length_append, List.length_nil, List.length_take] at this
          omega
        have nz : t.1 ∉ ps.map (·.1) := by rw [← tk.nms]; exact gt.new
        refine r_gT (gw.kp _ _ ta) rfl ?_
        refine r_g2 ?_
        repeat walk_at "st"
        refine r_dputS ?_
        repeat walk_at "st"
        refine ⟨O, _, rfl, hO, ?_⟩
        repeat walk_at "st"
        refine ⟨O, _, rfl, DPut.k (k := .inr t.1) hO (by unfold ordD; rw [List.length_map, List.length_zipIdx, List.length_map]; exact Nat.lt_of_le_of_lt lps (by decide)), ?_⟩
        rw [ord_put nz]
        have gwO : Grw T H (upd H2 O (.dK (ordD (ps.map (·.1) ++ [t.1])))) := gw.set nO0 hO
        have hD' : (upd H2 O (.dK (ordD (ps.map (·.1) ++ [t.1])))) D = some (.dK (toldD tv)) := by rw [upd_ne neDO]; exact hD
        have hO' : (upd H2 O (.dK (ordD (ps.map (·.1) ++ [t.1])))) O = some (.dK (ordD (ps.map (·.1) ++ [t.1]))) := upd_same
        have kO : Kp K H2 (upd H2 O (.dK (ordD (ps.map (·.1) ++ [t.1])))) := kp_dict hO
        generalize upd H2 O (.dK (ordD (ps.map (·.1) ++ [t.1]))) = Hx at *
        refine r_dput ?_
        repeat walk_at "st"
        refine ⟨m, D, O, t, _, tv, ps, rfl, mk.kp (gw.kp.trans kO), gt.fit, gt.wt.2, gt.near, hD', tos.kp kO, hO', tk, gwO.tabs, fun r v H3 tel g3 tq => ?_⟩
        repeat walk_at "st"
        have hD3 := g3.dict hD'
        refine ⟨D, _, rfl, DPut.k (k := .inr t.1) hD3 (by unfold toldD; rw [List.length_map, ltv]; exact Nat.lt_of_le_of_lt lps (by decide)), ?_⟩
        rw [told_put (by rw [tos.nms]; exact nz)]
        have kD : Kp K H3 (upd H3 D (.dK (toldD (tv ++ [(t.1, v)])))) := kp_dict hD3
        have gD : Grw T H (upd H3 D (.dK (toldD (tv ++ [(t.1, v)])))) := (gwO.trans g3).set nD0 hD3
        have arN : AR [] (ts.take (i + 1)) (ps ++ [(t.1, r)]) := by rw [e1]; exact AR.snoc (b := []) ar tel
        refine ⟨_, _, ps ++ [(t.1, r)], tv ++ [(t.1, v)], rfl, gD, upd_same, ?_, gD.seq hl, paired_snocT (tos.kp (kO.trans (g3.kp.trans kD))) ⟨rfl, tq.kp kD⟩, arN, ?_⟩
        · rw [upd_ne (fun z => neDO z.symm), List.map_append]
          exact g3.dict hO'
        · rw [es]
          exact tk.step gt tel fun z hz => (tos.look hz).2.2
      · rintro σ H2 ⟨y3, y4, ps, tv, rfl, gw, hD, hO, hl', tos, ar, tk⟩
        rw [ln, List.take_length] at ar
        exact J _ _ ⟨_, _, ps, tv, rfl, gw, hD, tos, ar⟩
    rintro σ H2 ⟨y3, y4, ps, tv, rfl, gw, hD, tos, ar⟩
    refine r_lv ?_
    repeat walk_at "st"
    refine ⟨D, _, rfl, hD, fun p np => ?_⟩
    refine q ps p _ _ ar (gw.trans (Grw.same gw.tabs (same_new np _))) (gw.new p np) upd_same ?_
    have kp := Kp.same (K := K) (same_new np (.lst ((toldD tv).map (·.2))))
    unfold toldD at kp ⊢
    rw [List.map_map] at kp ⊢
    exact paired_map2 (fun _ _ h => h.2.kp kp) tos
  ) only [↓Mb.dischW]
theorem ok_pool (F : Fn K mg "_law_pool" s_pool) (z_len : mg "len" = none) : Kn P w K mg base 1 "_law_pool" ["_law_script", "_law_at"] (spPool K) := by
  refine Mb.ofW ?_
  simp (discharger := with_unfolding_all
    refine F.kn sc_pool (fun vs H Q E h => ?_) (fun f cdv A outer s H vs Q E hr h => ?_) (fun _ _ _ _ _ _ us hl => match us, hl with | [_, _], _ => rfl)
    · obtain ⟨a, ns, i, rfl, _⟩ := h
      rfl
    obtain ⟨a, ns, i, rfl, hS, hl, h0, h1, q⟩ := h
    refine ⟨_, (pss_cons (ps_set (i := 2) sc_pool.nd rfl (.inl rfl) pe_int)
      (pss_cons (ps_if (pt_cmpR op_gt (pe_callB call_len_seq (by rfl) z_len (by decide +kernel) (pa_cons (pv 0) pa_nil)) pe_int (nomark _))
      (pss_one (ps_set (i := 2) sc_pool.nd rfl (.inl rfl) (pe_ix ix_list (pv 0) (pe_op op_mod (pv 1) (pe_callB call_len_seq (by rfl) z_len (by decide +kernel) (pa_cons (pv 0) pa_nil))) (fun _ _ => rfl))))
      pss_nil)
      (pss_cons (ps_set (i := 3) sc_pool.nd rfl (.inl rfl) pe_int)
      (pss_cons (ps_if (PW.pt (pw_and (pt_cmpR op_ge (pv 2) (pe_op op_pow pe_int pe_int) (nomark _)) (pw_and1 (pt_cmpR op_lt (pv 1) (pe_callB call_len_seq (by rfl) z_len (by decide +kernel) (pa_cons (pv 0) pa_nil)) (nomark _)))))
      (pss_one (ps_set (i := 3) sc_pool.nd rfl (.inl rfl) (pv 2)))
      pss_nil)
      (pss_one (ps_ret (pe_lst (pa_cons (pv 3) (pa_cons (pe_op op_mulW pe_int (pv 1)) (pa_cons (pv 2) pa_nil)))))))))), ?_⟩
    show (_ : TS) _ [some (.ref a), some (.int i), none, none] _
    have hz : (ns.map V.int).length = ns.length := List.length_map _
    have si : Sm 64 i := by unfold Sm; omega
    have e18 : ((10 : Int) ^ (18 : Int).toNat) = 1000000000000000000 := by decide
    repeat walk_at "st"
    refine r_cut (fun σ H' => ∃ z : Int, σ = [some (.ref a), some (.int i), some (.int z), none] ∧ H' = H) ?_ (fun N J => ?_)
    · rintro σ H' ⟨z, rfl, rfl⟩
      repeat walk_at "st"
      refine r_cut (fun σ H2 => ∃ x : Int, σ = [some (.ref a), some (.int i), some (.int z), some (.int x)] ∧ H2 = H') ?_ (fun N J => ?_)
      · rintro σ H2 ⟨x, rfl, rfl⟩
        repeat walk_at "st"
        refine ⟨sz rfl, fun p hp => ?_⟩
        exact q p _ (same_new hp _) hp ⟨x, 1000 * i, z, upd_same, by omega, by omega⟩
      · repeat walk_at "st"
        refine r_ite (fun c => ?_) (fun c => ?_)
        · repeat walk_at "st"
          refine ⟨a, _, rfl, .inl hS, ?_⟩
          repeat walk_at "st"
          refine r_ite (fun c => ?_) (fun c => ?_)
          · repeat walk_at "st"
            exact J _ _ ⟨_, rfl, rfl⟩
          · repeat walk_at "st"
            exact J _ _ ⟨_, rfl, rfl⟩
        · repeat walk_at "st"
          exact J _ _ ⟨_, rfl, rfl⟩
    · repeat walk_at "st"
      refine ⟨a, _, rfl, .inl hS, ?_⟩
      repeat walk_at "st"
      refine r_ite (fun c => ?_) (fun c => ?_)
      · repeat walk_at "st"
        refine ⟨a, _, rfl, .inl hS, ?_⟩
        rw [hz] at c
        refine r_i (show (0 : Int) < _ by rw [hz]; omega) ?_
        have hk : (i % ((ns.map V.int).length : Int)).toNat < ns.length := by
          rw [hz]
          have := Int.emod_lt_of_pos i (show (0 : Int) < ns.length by omega)
          omega
        have e : i % ((ns.map V.int).length : Int) = (((i % ((ns.map V.int).length : Int)).toNat : Nat) : Int) := by
          rw [hz]
          have := Int.emod_nonneg i (show (ns.length : Int) ≠ 0 by omega)
          omega
        refine r_ixL hS (at_of e (by rw [List.getElem?_map, List.getElem?_eq_getElem hk]; rfl)) ?_
        repeat walk_at "st"
        exact J _ _ ⟨_, rfl, rfl⟩
      · repeat walk_at "st"
        exact J _ _ ⟨_, rfl, rfl⟩
  ) only [↓Mb.dischW]
theorem ok_take (F : Fn K mg "_law_take" s_take) : Kn P w K mg base 1 "_law_take" ["_law_pool_here", "_law_wide"] spTake := by
  refine Mb.ofW ?_
  simp (discharger := with_unfolding_all
    refine F.kn sc_take (fun vs H Q E h => ?_) (fun f cdv A outer s H vs Q E hr h => ?_) (fun _ _ _ _ _ _ us hl => match us, hl with | [_, _], _ => rfl)
    · obtain ⟨p, k, b, rfl, _⟩ := h
      rfl
    obtain ⟨p, k, b, rfl, ⟨x, y, z, hp, y0, y1⟩, hb, hk, hk2, q⟩ := h
    refine ⟨_, (pss_cons (ps_if (pt_cmpR op_gt (pe_ix ix_list (pv 0) pe_int (fun _ _ => rfl)) pe_int (nomark _))
      (pss_cons (ps_set (i := 2) sc_take.nd rfl (.inl rfl) (pe_op op_mod (pe_ix ix_list (pv 0) pe_int (fun _ _ => rfl)) (pv 1)))
      (pss_cons (ps_asg (pe_op op_fdivW (pe_ix ix_list (pv 0) pe_int (fun _ _ => rfl)) (pv 1)) (pg_sub (pv 0) pe_int set_list))
      (pss_one (ps_ret (pv 2)))))
      pss_nil)
      (pss_cons (ps_asg (pe_op op_add (pe_ix ix_list (pv 0) pe_int (fun _ _ => rfl)) pe_int) (pg_sub (pv 0) pe_int set_list))
      (pss_cons (ps_set (i := 3) sc_take.nd rfl (.inl rfl) (pe_op op_mod (pe_op op_pow (pe_op op_add (pe_op op_mod (pe_ix ix_list (pv 0) pe_int (fun _ _ => rfl)) pe_int) (pe_op op_mulW pe_int (pe_ix ix_list (pv 0) pe_int (fun _ _ => rfl)))) pe_int) pe_int))
      (pss_cons (ps_set (i := 3) sc_take.nd rfl (.inl rfl) (pe_op op_add (pe_op op_mulW (pv 3) pe_int) (pe_op op_mulW (pe_op op_mulW (pe_ix ix_list (pv 0) pe_int (fun _ _ => rfl)) (pe_ix ix_list (pv 0) pe_int (fun _ _ => rfl))) pe_int)))
      (pss_one (ps_ret (pe_op op_mod (pe_op op_fdivW (pe_op op_mod (pe_op op_add (pv 3) (pe_op op_fdivW (pe_ix ix_list (pv 0) pe_int (fun _ _ => rfl)) pe_int)) pe_int) pe_int) (pv 1)))))))), ?_⟩
    show (_ : TS) _ [some (.ref p), some (.int k), none, none] _
    have sk : Sm 64 k := by unfold Sm; omega
    have sy : Sm 64 (y + 1) := by unfold Sm; omega
    have m0 : ∀ i : Int, 0 ≤ i % k := fun i => Int.emod_nonneg i (by omega)
    have m1 : ∀ i : Int, i % k < k := fun i => Int.emod_lt_of_pos i (by omega)
    refine r_seq ?_
    repeat walk_at "st"
    refine r_ite (fun c => ?_) (fun c => ?_)
    · repeat walk_at "st"
      refine r_i (Sm.cdiv (by omega) sk) ?_
      repeat walk_at "st"
      refine r_setL hp rfl ?_
      repeat walk_at "st"
      exact q _ _ (But.upd _ _ _) ⟨_, y, z, upd_same, y0, by omega⟩ (m0 _) (m1 _)
    · repeat walk_at "st"
      refine r_setL hp rfl ?_
      dsimp only [List.set]
      have hp2 : (upd H p (.lst [.int x, .int (y + 1), .int z])) p = some (.lst [.int x, .int (y + 1), .int z]) := upd_same
      have e1 := Int.emod_nonneg z (show (2147483647 : Int) ≠ 0 by decide)
      have e2 := Int.emod_lt_of_pos z (show (0 : Int) < 2147483647 by decide)
      generalize hz : z % 2147483647 = z' at e1 e2
      repeat walk_at "st"
      rw [hz]
      refine r_i ⟨by decide, by decide, by omega⟩ ?_
      repeat walk_at "st"
      generalize hs : (z' + 40503 * (y + 1)) ^ Int.toNat 5 % 2147483647 = sd
      have e3 : 0 ≤ sd := by rw [← hs]; exact Int.emod_nonneg _ (by decide)
      have e4 : sd < 2147483647 := by rw [← hs]; exact Int.emod_lt_of_pos _ (by decide)
      have ss : Sm 64 sd := by unfold Sm; omega
      repeat walk_at "st"
      exact q _ _ (But.upd _ _ _) ⟨x, y + 1, z, upd_same, by omega, by omega⟩ (m0 _) (m1 _)
  ) only [↓Mb.dischW]
theorem ok_gcd (F : Fn K mg "_law_gcd" s_gcd) (z_abs : mg "abs" = none) : Kn P w K mg base 1 "_law_gcd" ["_law_one", "_law_other"] spGcd := by
  refine Mb.ofW ?_
  simp (discharger := with_unfolding_all
    refine F.kn sc_gcd (fun vs H Q E h => ?_) (fun f cdv A outer s H vs Q E hr h => ?_) (fun _ _ _ _ _ _ us hl => match us, hl with | [_, _], _ => rfl)
    · obtain ⟨a, b, rfl, _⟩ := h
      rfl
    obtain ⟨a, b, rfl, q⟩ := h
    refine ⟨_, (pss_cons (ps_set (i := 0) sc_gcd.nd rfl (.inl rfl) (pe_callB call_abs (by rfl) z_abs (by decide +kernel) (pa_cons (pv 0) pa_nil)))
      (pss_cons (ps_set (i := 1) sc_gcd.nd rfl (.inl rfl) (pe_callB call_abs (by rfl) z_abs (by decide +kernel) (pa_cons (pv 1) pa_nil)))
      (pss_cons (ps_while PassesOwn.never (pt_cmpR op_gt (pv 1) pe_int (nomark _))
      (pss_one (ps_par (by rfl) sc_gcd.nd (i := 0) (j := 1) rfl rfl (by decide) rfl rfl (pa_cons (pv 1) (pa_cons (pe_op op_mod (pv 0) (pv 1)) pa_nil)) (by rfl))))
      (pss_one (ps_ret (pv 0)))))), ?_⟩
    show (_ : TS) _ [some (.int a), some (.int b)] _
    repeat walk_at "st"
    refine ⟨a, rfl, ?_⟩
    repeat walk_at "st"
    refine ⟨b, rfl, ?_⟩
    repeat walk_at "st"
    refine r_seq ?_
    refine r_while (fun σ H' => H' = H ∧ ∃ x y : Int, σ = [some (.int x), some (.int y)] ∧ 0 ≤ x ∧ 0 ≤ y ∧ Int.gcd x y = Int.gcd a b) (fun σ _ => match σ with | [_, some (.int y)] => y.toNat | _ => 0) ?_ ?_
    · refine ⟨rfl, _, _, rfl, ?_, ?_, ?_⟩
      · split <;> omega
      · split <;> omega
      · split <;> split <;> simp only [Int.neg_gcd, Int.gcd_neg]
    · rintro σ H' ⟨rfl, x, y, rfl, hx, hy, hg⟩
      repeat walk_at "st"
      refine r_ite (fun c => ?_) (fun c => ?_)
      · refine r_turn ?_
        repeat walk_at "st"
        have e1 := Int.emod_nonneg x (show y ≠ 0 by omega)
        have e2 := Int.emod_lt_of_pos x (show 0 < y by omega)
        refine ⟨⟨rfl, y, x % y, rfl, hy, e1, by rw [gcd_step hx c, hg]⟩, ?_⟩
        show (x % y).toNat < y.toNat
        omega
      · have e : y = 0 := by omega
        subst e
        repeat walk_at "st"
        have g : (Int.gcd x 0 : Int) = x := by rw [Int.gcd_zero]; omega
        rw [hg] at g
        show Q (.int x) _
        rw [← g]
        exact q
  ) only [↓Mb.dischW]
theorem ok_low (F : Fn K mg "_law_low" s_low) (G_gcd : Kn P w K mg base 1 "_law_gcd" ["_law_one", "_law_other"] spGcd) : Kn P w K mg base 2 "_law_low" ["_law_top", "_law_bottom"] spLowX := by
  refine Mb.ofW ?_
  simp (discharger := with_unfolding_all
    refine F.kn sc_low (fun vs H Q E h => ?_) (fun f cdv A outer s H vs Q E hr h => ?_) (fun _ _ _ _ _ _ us hl => match us, hl with | [_, _], _ => rfl)
    · obtain ⟨t, b, rfl, _⟩ := h
      rfl
    obtain ⟨t, b, rfl, hb, sb, q⟩ := h
    refine ⟨_, (pss_cons (ps_if (pt_cmpR op_lt (pv 1) pe_int (nomark _))
      (pss_one (ps_par (by rfl) sc_low.nd (i := 0) (j := 1) rfl rfl (by decide) rfl rfl (pa_cons (pe_un un_neg (pv 0)) (pa_cons (pe_un un_neg (pv 1)) pa_nil)) (by rfl)))
      pss_nil)
      (pss_cons (ps_set (i := 2) sc_low.nd rfl (.inl rfl) (pe_kn G_gcd (hr.mono (by decide)) (by rfl) (pa_cons (pv 0) (pa_cons (pv 1) pa_nil))))
      (pss_one (ps_ret (pe_tup (pa_cons (pe_op op_fdivX (pv 0) (pv 2)) (pa_cons (pe_op op_fdivX (pv 1) (pv 2)) pa_nil))))))), ?_⟩
    show (_ : TS) _ [some (.int t), some (.int b), none] _
    have g0 := gcd_pos (t := t) hb
    have gb : (Int.gcd t b : Int).natAbs ≤ b.natAbs := by
      have : (Int.gcd t b : Int) ∣ b := Int.gcd_dvd_right t b
      have := Int.le_of_dvd (show 0 < (b.natAbs : Int) by omega) (Int.dvd_natAbs.mpr this)
      omega
    have cd : ∀ s : Int, (s.natAbs = t.natAbs ∨ s.natAbs = b.natAbs) → CDivX s (Int.gcd t b : Int) := fun s hs => by
      refine ⟨g0, ?_⟩
      rcases sb with sb | ⟨st, sb⟩
      · exact .inl (Nat.lt_of_lt_of_le (PySem.Flt.log2_lt_of (show 0 < 8000 by decide) (Nat.lt_of_le_of_lt gb sb)) (by decide))
      · refine .inr (Nat.lt_of_lt_of_le (PySem.Flt.log2_lt_of (show 0 < 13500 by decide) (?_ : s.natAbs < 2 ^ 13500)) (by decide))
        rcases hs with e | e
        · rw [e]; exact st
        · rw [e]; exact sb
    refine r_cut (fun σ H' => σ = [some (.int (if b < 0 then -t else t)), some (.int (if b < 0 then -b else b)), none] ∧ H' = H) ?_ (fun N J => ?_)
    · rintro σ H' ⟨rfl, rfl⟩
      repeat walk_at "st"
      refine ⟨_, _, rfl, ?_⟩
      have e : Int.gcd (if b < 0 then -t else t) (if b < 0 then -b else b) = Int.gcd t b := by
        split
        · rw [Int.neg_gcd, Int.gcd_neg]
        · rfl
      rw [e]
      repeat walk_at "st"
      refine r_i (cd _ (by split <;> simp)) ?_
      repeat walk_at "st"
      refine r_i (cd _ (by split <;> simp)) ?_
      repeat walk_at "st"
      refine ⟨sz rfl, fun p hp => ?_⟩
      exact q p _ (same_new hp _) hp upd_same
    · repeat walk_at "st"
      refine r_ite (fun c => ?_) (fun c => ?_)
      · repeat walk_at "st"
        exact J _ _ ⟨by rw [if_pos c, if_pos c], rfl⟩
      · repeat walk_at "st"
        exact J _ _ ⟨by rw [if_neg c, if_neg c], rfl⟩
  ) only [↓Mb.dischW]
theorem ok_l_plus (F : Fn K mg "_law_plus" s_l_plus) : Kn P w K mg base 1 "_law_plus" ["_law_one", "_law_other"] (spRaw K (fun x y u v => x * v + u * y) (fun x y u v => y * v)) := by
  refine F.kn sc_l_plus (fun vs H Q E h => ?_) (fun f cdv A outer s H vs Q E hr h => ?_) (fun _ _ _ _ _ _ us hl => match us, hl with | [_, _], _ => rfl)
  · obtain ⟨a, b, x, y, u, v, rfl, _⟩ := h
    rfl
  obtain ⟨a, b, x, y, u, v, rfl, h1, h2, s1, s2, s3, s4, q⟩ := h
  refine ⟨_, (pss_one (ps_ret (pe_tup (pa_cons (pe_op op_add (pe_op op_mulW (pe_ix ix_tup (pv 0) pe_int (fun _ _ => rfl)) (pe_ix ix_tup (pv 1) pe_int (fun _ _ => rfl))) (pe_op op_mulW (pe_ix ix_tup (pv 1) pe_int (fun _ _ => rfl)) (pe_ix ix_tup (pv 0) pe_int (fun _ _ => rfl)))) (pa_cons (pe_op op_mulW (pe_ix ix_tup (pv 0) pe_int (fun _ _ => rfl)) (pe_ix ix_tup (pv 1) pe_int (fun _ _ => rfl))) pa_nil))))), ?_⟩
  show (_ : TS) _ [some (.ref a), some (.ref b)] _
  repeat walk_at "st"
  refine ⟨sz rfl, fun p hp => ?_⟩
  exact q p _ (same_new hp _) hp upd_same
theorem ok_l_less (F : Fn K mg "_law_less" s_l_less) : Kn P w K mg base 1 "_law_less" ["_law_one", "_law_other"] (spRaw K (fun x y u v => x * v - u * y) (fun x y u v => y * v)) := by
  refine F.kn sc_l_less (fun vs H Q E h => ?_) (fun f cdv A outer s H vs Q E hr h => ?_) (fun _ _ _ _ _ _ us hl => match us, hl with | [_, _], _ => rfl)
  · obtain ⟨a, b, x, y, u, v, rfl, _⟩ := h
    rfl
  obtain ⟨a, b, x, y, u, v, rfl, h1, h2, s1, s2, s3, s4, q⟩ := h
  refine ⟨_, (pss_one (ps_ret (pe_tup (pa_cons (pe_op op_sub (pe_op op_mulW (pe_ix ix_tup (pv 0) pe_int (fun _ _ => rfl)) (pe_ix ix_tup (pv 1) pe_int (fun _ _ => rfl))) (pe_op op_mulW (pe_ix ix_tup (pv 1) pe_int (fun _ _ => rfl)) (pe_ix ix_tup (pv 0) pe_int (fun _ _ => rfl)))) (pa_cons (pe_op op_mulW (pe_ix ix_tup (pv 0) pe_int (fun _ _ => rfl)) (pe_ix ix_tup (pv 1) pe_int (fun _ _ => rfl))) pa_nil))))), ?_⟩
  show (_ : TS) _ [some (.ref a), some (.ref b)] _
  repeat walk_at "st"
  refine ⟨sz rfl, fun p hp => ?_⟩
  exact q p _ (same_new hp _) hp upd_same
theorem ok_l_times (F : Fn K mg "_law_times" s_l_times) : Kn P w K mg base 1 "_law_times" ["_law_one", "_law_other"] (spRaw K (fun x y u v => x * u) (fun x y u v => y * v)) := by
  refine F.kn sc_l_times (fun vs H Q E h => ?_) (fun f cdv A outer s H vs Q E hr h => ?_) (fun _ _ _ _ _ _ us hl => match us, hl with | [_, _], _ => rfl)
  · obtain ⟨a, b, x, y, u, v, rfl, _⟩ := h
    rfl
  obtain ⟨a, b, x, y, u, v, rfl, h1, h2, s1, s2, s3, s4, q⟩ := h
  refine ⟨_, (pss_one (ps_ret (pe_tup (pa_cons (pe_op op_mulW (pe_ix ix_tup (pv 0) pe_int (fun _ _ => rfl)) (pe_ix ix_tup (pv 1) pe_int (fun _ _ => rfl))) (pa_cons (pe_op op_mulW (pe_ix ix_tup (pv 0) pe_int (fun _ _ => rfl)) (pe_ix ix_tup (pv 1) pe_int (fun _ _ => rfl))) pa_nil))))), ?_⟩
  show (_ : TS) _ [some (.ref a), some (.ref b)] _
  repeat walk_at "st"
  refine ⟨sz rfl, fun p hp => ?_⟩
  exact q p _ (same_new hp _) hp upd_same
theorem ok_chord (F : Fn K mg "_law_chord" s_chord) (G_low : Kn P w K mg base 2 "_law_low" ["_law_top", "_law_bottom"] spLowX) (G_l_plus : Kn P w K mg base 1 "_law_plus" ["_law_one", "_law_other"] (spRB K (· + ·))) (G_l_less : Kn P w K mg base 1 "_law_less" ["_law_one", "_law_other"] (spRB K (· - ·))) (G_l_times : Kn P w K mg base 1 "_law_times" ["_law_one", "_law_other"] (spRB K (· * ·))) : Kn P w K mg base 3 "_law_chord" ["_law_u", "_law_ring"] (spChord31 K) := by
  refine Mb.ofW ?_
  simp (discharger := with_unfolding_all
    refine F.kn sc_chord (fun vs H Q E h => ?_) (fun f cdv A outer s H vs Q E hr h => ?_) (fun _ _ _ _ _ _ us hl => match us, hl with | [_, _], _ => rfl)
    · obtain ⟨v, w1, c, x, y, s, k, m, rfl, _⟩ := h
      rfl
    obtain ⟨v, w1, c, x, y, s, k, m, rfl, tv, ⟨aw, fx, fy, fs, rfl, tw, hx, hy, hs⟩, cv, q⟩ := h
    replace G_l_plus := G_l_plus.of (sp' := spR2 K (· + ·)) fun _ _ _ _ h => rB_r2 h
    replace G_l_less := G_l_less.of (sp' := spR2 K (· - ·)) fun _ _ _ _ h => rB_r2 h
    replace G_l_times := G_l_times.of (sp' := spR2 K (· * ·)) fun _ _ _ _ h => rB_r2 h
    refine ⟨_, (pss_cons (ps_if (pt_cmpR op_eq (pe_ix ix_tup (pv 0) pe_int (fun _ _ => rfl)) pe_str (nomark _))
      (pss_one (ps_ret (pe_lc (own := [("_law_part", 2)]) (g := gName 2) (by rfl) sc_chord.nd (pi_tup (pe_slice sl_tup (pv 0) (po_some pe_int) po_none)) (blkOk_by (own := [("_law_part", 2)]) (N := ["_law_u", "_law_ring", "_law_part", "_law_x", "_law_y", "_law_d", "_law_e", "_law_c"]) (sc := (defScope s_chord)) (by decide +kernel)) (fun _ _ _ _ _ => pg_name (i := 2) sc_chord.nd rfl (.inl rfl)) (fun _ _ _ _ _ => pts_nil) (fun _ _ _ _ _ => (pe_tup (pa_cons (pv 2) (pa_cons pe_int pa_nil)))))))
      pss_nil)
      (pss_cons (ps_set (i := 3) sc_chord.nd rfl (.inl rfl) (pe_kn G_l_less (hr.mono (by decide)) (by rfl) (pa_cons (pe_ix ix_tup (pv 1) pe_int (fun _ _ => rfl)) (pa_cons (pe_ix ix_tup (pv 0) pe_int (fun _ _ => rfl)) pa_nil))))
      (pss_cons (ps_set (i := 4) sc_chord.nd rfl (.inl rfl) (pe_kn G_l_less (hr.mono (by decide)) (by rfl) (pa_cons (pe_ix ix_tup (pv 1) pe_int (fun _ _ => rfl)) (pa_cons (pe_ix ix_tup (pv 0) pe_int (fun _ _ => rfl)) pa_nil))))
      (pss_cons (ps_set (i := 5) sc_chord.nd rfl (.inl rfl) (pe_kn G_l_plus (hr.mono (by decide)) (by rfl) (pa_cons (pe_kn G_l_times (hr.mono (by decide)) (by rfl) (pa_cons (pe_ix ix_tup (pv 1) pe_int (fun _ _ => rfl)) (pa_cons (pe_ix ix_tup (pv 1) pe_int (fun _ _ => rfl)) pa_nil))) (pa_cons (pe_kn G_l_times (hr.mono (by decide)) (by rfl) (pa_cons (pe_ix ix_tup (pv 1) pe_int (fun _ _ => rfl)) (pa_cons (pe_ix ix_tup (pv 1) pe_int (fun _ _ => rfl)) pa_nil))) pa_nil))))
      (pss_cons (ps_set (i := 6) sc_chord.nd rfl (.inl rfl) (pe_kn G_l_plus (hr.mono (by decide)) (by rfl) (pa_cons (pe_kn G_l_times (hr.mono (by decide)) (by rfl) (pa_cons (pe_ix ix_tup (pv 0) pe_int (fun _ _ => rfl)) (pa_cons (pe_ix ix_tup (pv 0) pe_int (fun _ _ => rfl)) pa_nil))) (pa_cons (pe_kn G_l_times (hr.mono (by decide)) (by rfl) (pa_cons (pe_ix ix_tup (pv 0) pe_int (fun _ _ => rfl)) (pa_cons (pe_ix ix_tup (pv 0) pe_int (fun _ _ => rfl)) pa_nil))) pa_nil))))
      (pss_cons (ps_set (i := 7) sc_chord.nd rfl (.inl rfl) (pe_kn G_l_plus (hr.mono (by decide)) (by rfl) (pa_cons (pe_kn G_l_less (hr.mono (by decide)) (by rfl) (pa_cons (pe_ix ix_tup (pv 0) pe_int (fun _ _ => rfl)) (pa_cons (pe_ix ix_tup (pv 1) pe_int (fun _ _ => rfl)) pa_nil))) (pa_cons (pe_kn G_l_less (hr.mono (by decide)) (by rfl) (pa_cons (pv 5) (pa_cons (pv 6) pa_nil))) pa_nil))))
      (pss_one (ps_ret (pe_lst (pa_cons (pe_kn G_low (hr.mono (by decide)) (by rfl) (pa_cons (pe_op op_mulW pe_int (pe_ix ix_tup (pv 3) pe_int (fun _ _ => rfl))) (pa_cons (pe_ix ix_tup (pv 3) pe_int (fun _ _ => rfl)) pa_nil))) (pa_cons (pe_kn G_low (hr.mono (by decide)) (by rfl) (pa_cons (pe_op op_mulW pe_int (pe_ix ix_tup (pv 4) pe_int (fun _ _ => rfl))) (pa_cons (pe_ix ix_tup (pv 4) pe_int (fun _ _ => rfl)) pa_nil))) (pa_cons (pe_kn G_low (hr.mono (by decide)) (by rfl) (pa_cons (pe_ix ix_tup (pv 7) pe_int (fun _ _ => rfl)) (pa_cons (pe_ix ix_tup (pv 7) pe_int (fun _ _ => rfl)) pa_nil))) pa_nil)))))))))))), ?_⟩
    cases cv with
    | @ln a b c _ _ _ _ _ l sa sb sc ch hkm =>
      obtain ⟨av, rfl, ta⟩ := tv
      show (_ : TS) _ [some (.ref av), some (.ref aw), none, none, none, none, none, none] _
      refine r_seq ?_
      repeat walk_at "st"
      rw [if_pos (by decide)]
      repeat walk_at "st"
      refine r_lcV ?_
      refine r_slR ?_
      repeat walk_at "st"
      refine r_partR ?_
      repeat walk_at "st"
      refine r_noP ?_
      refine ⟨av, _, rfl, ta, cut_part, fun p hp => ?_⟩
      rw [cut_tail]
      have g1 := same_new hp (.tup [.int a, .int b, .int c])
      have t1 : SqT K (upd H p (.tup [.int a, .int b, .int c])) p [.int a, .int b, .int c] := tupOf upd_same
      generalize upd H p (.tup [.int a, .int b, .int c]) = H1 at *
      refine lc_mkV (xs := [a, b, c]) (fun _ v i => v = .int i) (fun _ H v i => Fq K H v (i : Rat)) (fun _ h => h) (fun d s h => h.but d s) t1 (.cons rfl (.cons rfl (.cons rfl .nil))) (by simp) (fun _ => rfl) (fun v i D H' hm e g' hD S k => ?_) fun D vs H2 g2 nD eD pv => ?_
      · subst e
        repeat walk_at "st"
        refine ⟨sz rfl, fun o no => ?_⟩
        exact k _ _ (same_new no _) (Fq.int upd_same)
      · obtain ⟨f, g, h, rfl, k1, k2, k3⟩ := three_list pv
        exact q _ _ _ _ _ _ _ _ (g1.trans g2) (lstOf eD) k1 k2 k3 ⟨rfl, rfl, rfl⟩
    | @ci x2 y2 s2 _ _ _ _ _ c2 ch hkm =>
      obtain ⟨av, ux, uy, us, rfl, ta, ex, ey, es⟩ := tv
      show (_ : TS) _ [some (.ref av), some (.ref aw), none, none, none, none, none, none] _
      have zx := ch.jh.x
      have zy := ch.jh.y
      have zs := ch.szs
      have zx2 := c2.jh.x
      have zy2 := c2.jh.y
      have zs2 := c2.szs
      refine r_seq ?_
      repeat walk_at "st"
      rw [if_neg (by decide)]
      repeat walk_at "st"
      refine ⟨fx, ux, _, _, _, _, rfl, hx.rq zx, ex.rq zx2, by omega, by omega, fun r1 H1 g1 e1 => ?_⟩
      have tw1 := g1.tp tw
      have ta1 := g1.tp ta
      repeat walk_at "st"
      refine ⟨fy, uy, _, _, _, _, rfl, (hy.up g1).rq zy, (ey.up g1).rq zy2, by omega, by omega, fun r2 H2 g2 e2 => ?_⟩
      have tw2 := g2.tp tw1
      have ta2 := g2.tp ta1
      have g12 := g1.trans g2
      clear tw1 ta1
      repeat walk_at "st"
      refine ⟨fx, fx, _, _, _, _, rfl, (hx.up g12).rq zx, (hx.up g12).rq zx, by omega, by omega, fun r3 H3 g3 e3 => ?_⟩
      have tw3 := g3.tp tw2
      have ta3 := g3.tp ta2
      have g13 := g12.trans g3
      clear tw2 ta2
      repeat walk_at "st"
      refine ⟨fy, fy, _, _, _, _, rfl, (hy.up g13).rq zy, (hy.up g13).rq zy, by omega, by omega, fun r4 H4 g4 e4 => ?_⟩
      repeat walk_at "st"
      refine ⟨r3, r4, _, _, _, _, rfl, e3.up g4, e4, by omega, by omega, fun r5 H5 g5 e5 => ?_⟩
      have tw5 := g5.tp (g4.tp tw3)
      have ta5 := g5.tp (g4.tp ta3)
      have g15 := g13.trans (g4.trans g5)
      clear tw3 ta3
      repeat walk_at "st"
      refine ⟨ux, ux, _, _, _, _, rfl, (ex.up g15).rq zx2, (ex.up g15).rq zx2, by omega, by omega, fun r6 H6 g6 e6 => ?_⟩
      have tw6 := g6.tp tw5
      have ta6 := g6.tp ta5
      have g16 := g15.trans g6
      clear tw5 ta5
      repeat walk_at "st"
      refine ⟨uy, uy, _, _, _, _, rfl, (ey.up g16).rq zy2, (ey.up g16).rq zy2, by omega, by omega, fun r7 H7 g7 e7 => ?_⟩
      repeat walk_at "st"
      refine ⟨r6, r7, _, _, _, _, rfl, e6.up g7, e7, by omega, by omega, fun r8 H8 g8 e8 => ?_⟩
      have tw8 := g8.tp (g7.tp tw6)
      have ta8 := g8.tp (g7.tp ta6)
      have g18 := g16.trans (g7.trans g8)
      clear tw6 ta6
      repeat walk_at "st"
      refine ⟨us, fs, _, _, _, _, rfl, (es.up g18).rq zs2, (hs.up g18).rq zs, by omega, by omega, fun r9 H9 g9 e9 => ?_⟩
      repeat walk_at "st"
      refine ⟨r5, r8, _, _, _, _, rfl, e5.up (g6.trans (g7.trans (g8.trans g9))), e8.up g9, by omega, by omega, fun ra Ha ga ea => ?_⟩
      repeat walk_at "st"
      refine ⟨r9, ra, _, _, _, _, rfl, e9.up ga, ea, by omega, by omega, fun rb Hb gb eb => ?_⟩
      have gAB := g18.trans (g9.trans (ga.trans gb))
      have e1' := e1.up (g2.trans (g3.trans (g4.trans (g5.trans (g6.trans (g7.trans (g8.trans (g9.trans (ga.trans gb)))))))))
      have e2' := e2.up (g3.trans (g4.trans (g5.trans (g6.trans (g7.trans (g8.trans (g9.trans (ga.trans gb))))))))
      clear e1 e2 e3 e4 e5 e6 e7 e8 e9 ea g1 g2 g3 g4 g5 g6 g7 g8 g9 ga gb g12 g13 g15 g16 g18 tw8 ta8
      obtain ⟨b1, t1, d1, rfl, tb1, n1, q1, s1, s1'⟩ := e1'
      obtain ⟨b2, t2, d2, rfl, tb2, n2, q2, s2', s2''⟩ := e2'
      obtain ⟨b3, t3, d3, rfl, tb3, n3, q3, s3, s3'⟩ := eb
      have dbl : ∀ {z : Rat} {t d : Int}, d ≠ 0 → z = Rat.divInt t d → 2 * z = Rat.divInt (2 * t) d := fun {z t d} n e => by rw [e, Rat.divInt_eq_div, Rat.divInt_eq_div, Rat.intCast_mul, show ((2 : Int) : Rat) = 2 from rfl]; grind
      have tw2 : Sm 2 (2 : Int) := two_sm
      repeat walk_at "st"
      refine r_i (tw2.cmul s1 (by decide) (by omega) (by omega)) ?_
      repeat walk_at "st"
      refine ⟨_, _, rfl, n1, .inl (s1'.mono (by omega)), fun o1 Hc gc nc ec => ?_⟩
      have f1 := Fq.of (K := K) _ n1 (dbl n1 q1) ec
      have tb2' := gc.tp tb2
      have tb3' := gc.tp tb3
      repeat walk_at "st"
      refine r_i (tw2.cmul s2' (by decide) (by omega) (by omega)) ?_
      repeat walk_at "st"
      refine ⟨_, _, rfl, n2, .inl (s2''.mono (by omega)), fun o2 Hd gd nd ed => ?_⟩
      have f2 := Fq.of (K := K) _ n2 (dbl n2 q2) ed
      have tb3'' := gd.tp tb3'
      repeat walk_at "st"
      refine ⟨_, _, rfl, n3, .inl (s3'.mono (by omega)), fun o3 He ge ne ee => ?_⟩
      have f3 := Fq.of (K := K) _ n3 q3 ee
      repeat walk_at "st"
      refine ⟨sz rfl, fun ol nol => ?_⟩
      have gl := same_new nol (.lst [V.ref o1, .ref o2, .ref o3])
      exact q _ _ _ _ _ _ _ _ (gAB.trans (gc.trans (gd.trans (ge.trans gl)))) (lstOf upd_same) (f1.up (gd.trans (ge.trans gl))) (f2.up (ge.trans gl)) (f3.up gl) ⟨rfl, rfl, rfl⟩
  ) only [↓Mb.dischW]
theorem ok_parts (F : Fn K mg "_law_parts" s_parts) (G_low : Kn P w K mg base 2 "_law_low" ["_law_top", "_law_bottom"] spLowX) (G_l_plus : Kn P w K mg base 1 "_law_plus" ["_law_one", "_law_other"] (spRB K (· + ·))) (G_l_less : Kn P w K mg base 1 "_law_less" ["_law_one", "_law_other"] (spRB K (· - ·))) (G_l_times : Kn P w K mg base 1 "_law_times" ["_law_one", "_law_other"] (spRB K (· * ·))) (G_chord : Kn P w K mg base 3 "_law_chord" ["_law_u", "_law_ring"] (spChord31 K)) : Kn P w K mg base 4 "_law_parts" ["_law_u", "_law_ring"] (spParts31 K) := by
  refine Mb.ofW ?_
  simp (discharger := with_unfolding_all
    refine F.kn sc_parts (fun vs H Q E h => ?_) (fun f cdv A outer s H vs Q E hr h => ?_) (fun _ _ _ _ _ _ us hl => match us, hl with | [_, _], _ => rfl)
    · obtain ⟨v, w1, c, x, y, s, k, m, rfl, _⟩ := h
      rfl
    obtain ⟨v, w1, c, x, y, s, k, m, rfl, tv, tw0, cv, q⟩ := h
    replace G_l_plus := G_l_plus.of (sp' := spR2 K (· + ·)) fun _ _ _ _ h => rB_r2 h
    replace G_l_less := G_l_less.of (sp' := spR2 K (· - ·)) fun _ _ _ _ h => rB_r2 h
    replace G_l_times := G_l_times.of (sp' := spR2 K (· * ·)) fun _ _ _ _ h => rB_r2 h
    refine ⟨_, (pss_cons (ps_asg (pe_kn G_chord (hr.mono (by decide)) (by rfl) (pa_cons (pv 0) (pa_cons (pv 1) pa_nil))) (pg_lst (by rfl) (pgs_cons (pg_name (i := 2) sc_parts.nd rfl (.inl rfl)) (pgs_cons (pg_name (i := 3) sc_parts.nd rfl (.inl rfl)) (pgs_cons (pg_name (i := 4) sc_parts.nd rfl (.inl rfl)) pgs_nil)))))
      (pss_cons (ps_set (i := 5) sc_parts.nd rfl (.inl rfl) (pe_kn G_l_less (hr.mono (by decide)) (by rfl) (pa_cons (pv 4) (pa_cons (pe_kn G_l_plus (hr.mono (by decide)) (by rfl) (pa_cons (pe_kn G_l_times (hr.mono (by decide)) (by rfl) (pa_cons (pv 2) (pa_cons (pe_ix ix_tup (pv 1) pe_int (fun _ _ => rfl)) pa_nil))) (pa_cons (pe_kn G_l_times (hr.mono (by decide)) (by rfl) (pa_cons (pv 3) (pa_cons (pe_ix ix_tup (pv 1) pe_int (fun _ _ => rfl)) pa_nil))) pa_nil))) pa_nil))))
      (pss_cons (ps_set (i := 6) sc_parts.nd rfl (.inl rfl) (pe_kn G_l_plus (hr.mono (by decide)) (by rfl) (pa_cons (pe_kn G_l_times (hr.mono (by decide)) (by rfl) (pa_cons (pv 2) (pa_cons (pv 2) pa_nil))) (pa_cons (pe_kn G_l_times (hr.mono (by decide)) (by rfl) (pa_cons (pv 3) (pa_cons (pv 3) pa_nil))) pa_nil))))
      (pss_one (ps_ret (pe_tup (pa_cons (pv 2) (pa_cons (pv 3) (pa_cons (pe_kn G_low (hr.mono (by decide)) (by rfl) (pa_cons (pe_ix ix_tup (pv 5) pe_int (fun _ _ => rfl)) (pa_cons (pe_ix ix_tup (pv 5) pe_int (fun _ _ => rfl)) pa_nil))) (pa_cons (pe_kn G_low (hr.mono (by decide)) (by rfl) (pa_cons (pe_ix ix_tup (pv 6) pe_int (fun _ _ => rfl)) (pa_cons (pe_ix ix_tup (pv 6) pe_int (fun _ _ => rfl)) pa_nil))) pa_nil)))))))))), ?_⟩
    obtain ⟨ch, m3⟩ := cv.ch
    have zx := ch.jh.x
    have zy := ch.jh.y
    have twc := tw0
    obtain ⟨aw, fx, fy, fs, rfl, tw, hx, hy, hs⟩ := tw0
    show (_ : TS) _ [some v, some (.ref aw), none, none, none, none, none] _
    repeat walk_at "st"
    refine ⟨v, _, c, x, y, s, k, m, rfl, tv, twc, cv, fun l fa fb fc A B C H1 g1 el ea eb ec hc => ?_⟩
    obtain ⟨zA, zB, zC, ne, nn, ze, zn, l1, l2, l3⟩ := cv.sizes hc
    have tw1 := g1.tp tw
    refine r_gLst el rfl ?_
    refine r_g3 ?_
    repeat walk_at "st"
    refine ⟨fa, fx, _, _, _, _, rfl, ea.rq zA, (hx.up g1).rq zx, by omega, by omega, fun r1 H2 g2 e1 => ?_⟩
    have tw2 := g2.tp tw1
    have g12 := g1.trans g2
    repeat walk_at "st"
    refine ⟨fb, fy, _, _, _, _, rfl, (eb.up g2).rq zB, (hy.up g12).rq zy, by omega, by omega, fun r2 H3 g3 e2 => ?_⟩
    repeat walk_at "st"
    refine ⟨r1, r2, _, _, _, _, rfl, e1.up g3, e2, by omega, by omega, fun r3 H4 g4 e3 => ?_⟩
    have g24 := g2.trans (g3.trans g4)
    repeat walk_at "st"
    refine ⟨fc, r3, _, _, _, _, rfl, (ec.up g24).rq zC, e3, by omega, by omega, fun re H5 g5 ee => ?_⟩
    have g25 := g24.trans g5
    repeat walk_at "st"
    refine ⟨fa, fa, _, _, _, _, rfl, (ea.up g25).rq zA, (ea.up g25).rq zA, by omega, by omega, fun r4 H6 g6 e4 => ?_⟩
    have g26 := g25.trans g6
    repeat walk_at "st"
    refine ⟨fb, fb, _, _, _, _, rfl, (eb.up g26).rq zB, (eb.up g26).rq zB, by omega, by omega, fun r5 H7 g7 e5 => ?_⟩
    repeat walk_at "st"
    refine ⟨r4, r5, _, _, _, _, rfl, e4.up g7, e5, by omega, by omega, fun rn H8 g8 en => ?_⟩
    have g28 := g26.trans (g7.trans g8)
    have ee8 := ee.up (g6.trans (g7.trans g8))
    have ea8 := ea.up g28
    have eb8 := eb.up g28
    have g18 := g1.trans g28
    clear ee e1 e2 e3 e4 e5 tw1 tw2 g2 g3 g4 g5 g6 g7 g8 g12 g24 g25 g26 ea eb
    obtain ⟨b1, t1, d1, rfl, tb1, n1, q1, s1, s1'⟩ := ee8
    obtain ⟨b2, t2, d2, rfl, tb2, n2, q2, s2, s2'⟩ := en
    repeat walk_at "st"
    refine ⟨_, _, rfl, n1, .inr ⟨s1.mono (by omega), s1'.mono (by omega)⟩, fun o1 Hc gc nc oc => ?_⟩
    have f1 := Fq.of (K := K) _ n1 q1 oc
    have tb2' := gc.tp tb2
    repeat walk_at "st"
    refine ⟨_, _, rfl, n2, .inr ⟨s2.mono (by omega), s2'.mono (by omega)⟩, fun o2 Hd gd nd od => ?_⟩
    have f2 := Fq.of (K := K) _ n2 q2 od
    repeat walk_at "st"
    refine ⟨sz rfl, fun ot not => ?_⟩
    have gl := same_new not (.tup [fa, fb, V.ref o1, .ref o2])
    exact q _ _ _ _ _ A B C _ (g18.trans (gc.trans (gd.trans gl))) (tupOf upd_same) (ea8.up (gc.trans (gd.trans gl))) (eb8.up (gc.trans (gd.trans gl))) (f1.up (gd.trans gl)) (f2.up gl) hc
  ) only [↓Mb.dischW]
theorem ok_first (F : Fn K mg "_law_first" s_first) (G_l_plus : Kn P w K mg base 1 "_law_plus" ["_law_one", "_law_other"] (spRB K (· + ·))) (G_l_less : Kn P w K mg base 1 "_law_less" ["_law_one", "_law_other"] (spRB K (· - ·))) (G_l_times : Kn P w K mg base 1 "_law_times" ["_law_one", "_law_other"] (spRB K (· * ·))) (G_parts : Kn P w K mg base 4 "_law_parts" ["_law_u", "_law_ring"] (spParts31 K)) (z_int : mg "int" = none) : Kn P w K mg base 5 "_law_first" ["_law_m", "_law_u", "_law_ring"] (spFirst31 K) := by
  refine Mb.ofW ?_
  simp (discharger := with_unfolding_all
    refine F.kn sc_first (fun vs H Q E h => ?_) (fun f cdv A outer s H vs Q E hr h => ?_) (fun _ _ _ _ _ _ us hl => match us, hl with | [_, _, _], _ => rfl)
    · obtain ⟨u, v, w1, p, q0, c, x, y, s, k, m, rfl, _⟩ := h
      rfl
    obtain ⟨u, v, w1, p, q0, c, x, y, s, k, m, rfl, hu, zp, zq, tv, tw0, cv, nzz, q⟩ := h
    replace G_l_plus := G_l_plus.of (sp' := spRp K (· + ·)) fun _ _ _ _ h => rB_rp h
    replace G_l_less := G_l_less.of (sp' := spRp K (· - ·)) fun _ _ _ _ h => rB_rp h
    replace G_l_times := G_l_times.of (sp' := spRp K (· * ·)) fun _ _ _ _ h => rB_rp h
    refine ⟨_, (pss_cons (ps_asg (pe_kn G_parts (hr.mono (by decide)) (by rfl) (pa_cons (pv 1) (pa_cons (pv 2) pa_nil))) (pg_tup (by rfl) (pgs_cons (pg_name (i := 3) sc_first.nd rfl (.inl rfl)) (pgs_cons (pg_name (i := 4) sc_first.nd rfl (.inl rfl)) (pgs_cons (pg_name (i := 5) sc_first.nd rfl (.inl rfl)) (pgs_cons (pg_name (i := 6) sc_first.nd rfl (.inl rfl)) pgs_nil))))))
      (pss_cons (ps_set (i := 7) sc_first.nd rfl (.inl rfl) (pe_tup (pa_cons (pe_op op_mulW (pe_ix ix_tup (pv 5) pe_int (fun _ _ => rfl)) (pe_ix ix_tup (pv 6) pe_int (fun _ _ => rfl))) (pa_cons (pe_op op_mulW (pe_ix ix_tup (pv 5) pe_int (fun _ _ => rfl)) (pe_ix ix_tup (pv 6) pe_int (fun _ _ => rfl))) pa_nil))))
      (pss_cons (ps_set (i := 8) sc_first.nd rfl (.inl rfl) (pe_kn G_l_less (hr.mono (by decide)) (by rfl) (pa_cons (pe_ix ix_tup (pv 0) pe_int (fun _ _ => rfl)) (pa_cons (pe_kn G_l_plus (hr.mono (by decide)) (by rfl) (pa_cons (pe_ix ix_tup (pv 2) pe_int (fun _ _ => rfl)) (pa_cons (pe_kn G_l_times (hr.mono (by decide)) (by rfl) (pa_cons (pv 3) (pa_cons (pv 7) pa_nil))) pa_nil))) pa_nil))))
      (pss_cons (ps_set (i := 9) sc_first.nd rfl (.inl rfl) (pe_kn G_l_less (hr.mono (by decide)) (by rfl) (pa_cons (pe_ix ix_tup (pv 0) pe_int (fun _ _ => rfl)) (pa_cons (pe_kn G_l_plus (hr.mono (by decide)) (by rfl) (pa_cons (pe_ix ix_tup (pv 2) pe_int (fun _ _ => rfl)) (pa_cons (pe_kn G_l_times (hr.mono (by decide)) (by rfl) (pa_cons (pv 4) (pa_cons (pv 7) pa_nil))) pa_nil))) pa_nil))))
      (pss_cons (ps_if (pt_cmpR op_ne (pe_ix ix_tup (pv 8) pe_int (fun _ _ => rfl)) pe_int (nomark _))
      (pss_one (ps_ret (pe_ix ix_list (pe_lst (pa_cons pe_int (pa_cons pe_int pa_nil))) (pe_callTy call_int1 (by rfl) z_int (by decide +kernel) (pa_cons (pe_cmpR op_gt (pe_ix ix_tup (pv 8) pe_int (fun _ _ => rfl)) pe_int (nomark _)) pa_nil)) (fun _ _ => rfl))))
      pss_nil)
      (pss_cons (ps_if (pt_cmpR op_ne (pe_ix ix_tup (pv 9) pe_int (fun _ _ => rfl)) pe_int (nomark _))
      (pss_one (ps_ret (pe_ix ix_list (pe_lst (pa_cons pe_int (pa_cons pe_int pa_nil))) (pe_callTy call_int1 (by rfl) z_int (by decide +kernel) (pa_cons (pe_cmpR op_gt (pe_ix ix_tup (pv 9) pe_int (fun _ _ => rfl)) pe_int (nomark _)) pa_nil)) (fun _ _ => rfl))))
      pss_nil)
      (pss_one (ps_ret pe_int)))))))), ?_⟩
    obtain ⟨ch, m3⟩ := cv.ch
    have zx := ch.jh.x
    have zy := ch.jh.y
    have twc := tw0
    obtain ⟨aw, fx, fy, fs, rfl, tw, hx, hy, hs⟩ := tw0
    obtain ⟨au, fp, fq, rfl, tu, hp, hq⟩ := hu
    show (_ : TS) _ [some (.ref au), some v, some (.ref aw), none, none, none, none, none, none, none] _
    repeat walk_at "st"
    refine ⟨v, _, c, x, y, s, k, m, rfl, tv, twc, cv, fun l fa fb fe fn A B C H1 g1 el ea eb ee en hc => ?_⟩
    obtain ⟨zA, zB, zC, ne, nn, ze, zn, l1, l2, l3⟩ := cv.sizes hc
    have nz := nzz A B C hc
    have tw1 := g1.tp tw
    have tu1 := g1.tp tu
    refine r_gT el rfl ?_
    refine r_gq4 ?_
    obtain ⟨be, rfl, te⟩ := ee
    obtain ⟨bn, rfl, tn⟩ := en
    generalize hE : C - (A * x + B * y) = e at *
    generalize hN : A * A + B * B = N at *
    have nn0 : 0 < N.num := by
      have h1 := Rat.num_nonneg.mpr (show 0 ≤ N by rw [← hN]; have := sq_nnR A; have := sq_nnR B; grind)
      have h2 : N.num ≠ 0 := fun z => nz (Rat.num_eq_zero.mp z)
      omega
    repeat walk_at "st"
    refine r_i ((ze.t.mono l1).cmul (zn.b.mono l2) (by decide) (by decide) (by decide)) ?_
    repeat walk_at "st"
    refine r_i ((ze.b.mono l1).cmul (zn.t.mono l2) (by decide) (by decide) (by decide)) ?_
    repeat walk_at "st"
    refine ⟨sz rfl, fun o1 no1 => ?_⟩
    have g2 := same_new no1 (.tup [.int (e.num * (N.den : Int)), .int ((e.den : Int) * N.num)])
    have k1 : Rp K (upd H1 o1 (.tup [.int (e.num * (N.den : Int)), .int ((e.den : Int) * N.num)])) (.ref o1) (e / N) 6100 := ⟨o1, _, _, rfl, tupOf upd_same, Int.mul_pos (den_pos e) nn0, div_dv e N, (ze.t.mul zn.b).mono (by omega), (ze.b.mul zn.t).mono (by omega)⟩
    generalize upd H1 o1 (.tup [.int (e.num * (N.den : Int)), .int ((e.den : Int) * N.num)]) = H2 at *
    have ev : e / N * N = e := Rat.div_mul_cancel nz
    generalize e / N = w0 at *
    have g12 := g1.trans g2
    have tw2 := g2.tp tw1
    have tu2 := g2.tp tu1
    repeat walk_at "st"
    refine ⟨fa, .ref o1, _, _, _, _, rfl, (ea.up g2).rp zA, k1, by omega, by omega, fun r1 H3 g3 e1 => ?_⟩
    have g13 := g12.trans g3
    repeat walk_at "st"
    refine ⟨fx, r1, _, _, _, _, rfl, (hx.up g13).rp zx, e1, by omega, by omega, fun r2 H4 g4 e2 => ?_⟩
    have g14 := g13.trans g4
    repeat walk_at "st"
    refine ⟨fp, r2, _, _, _, _, rfl, (hp.up g14).rp zp, e2, by omega, by omega, fun r3 H5 g5 e3 => ?_⟩
    have g15 := g14.trans g5
    have g25 := g3.trans (g4.trans g5)
    have tu5 := g25.tp tu2
    have tw5 := g25.tp tw2
    repeat walk_at "st"
    refine ⟨fb, .ref o1, _, _, _, _, rfl, ((eb.up g2).up g25).rp zB, k1.up g25, by omega, by omega, fun r4 H6 g6 e4 => ?_⟩
    have g16 := g15.trans g6
    repeat walk_at "st"
    refine ⟨fy, r4, _, _, _, _, rfl, (hy.up g16).rp zy, e4, by omega, by omega, fun r5 H7 g7 e5 => ?_⟩
    have g17 := g16.trans g7
    repeat walk_at "st"
    refine ⟨fq, r5, _, _, _, _, rfl, (hq.up g17).rp zq, e5, by omega, by omega, fun r6 H8 g8 e6 => ?_⟩
    have g18 := g17.trans g8
    have e38 := e3.up (g6.trans (g7.trans g8))
    have q' := fun H' (g' : Same H H') => q A B C w0 H' g' hc (by rw [hN, hE]; exact ev)
    clear q e1 e2 e3 e4 e5 tu1 tw1 tu2 tw2 tu5 tw5 k1 te tn ea eb
    obtain ⟨a3, t3, b3, rfl, ta3, z3, p3⟩ := e38.sgn
    obtain ⟨a6, t6, b6, rfl, ta6, z6, p6⟩ := e6.sgn
    have eo : ordN (p - (x + A * w0)) (q0 - (y + B * w0)) = if t3 ≠ 0 then (if 0 < t3 then 2 else 1) else if t6 ≠ 0 then (if 0 < t6 then 2 else 1) else 0 := by
      unfold ordN
      simp only [← z3, ← p3, ← z6, ← p6, ne_eq]
    rw [eo] at q'
    clear eo z3 p3 z6 p6 e38 e6
    repeat walk_at "st"
    refine r_seq ?_
    repeat walk_at "st"
    refine r_iteN (fun c => ?_) (fun c => ?_)
    · rw [if_pos c] at q'
      repeat walk_at "st"
      refine ⟨sz rfl, fun o no => ?_⟩
      have gl := same_new no (.lst [V.int 1, .int 2])
      have el : SqL K (upd H8 o (.lst [V.int 1, .int 2])) o [.int 1, .int 2] := lstOf upd_same
      generalize upd H8 o (.lst [V.int 1, .int 2]) = H9 at *
      have ta9 := gl.tp ta3
      repeat walk_at "st"
      refine .inr ⟨_, rfl, ?_⟩
      by_cases c2 : 0 < t3
      · rw [if_pos c2] at q'
        rw [decide_eq_true c2]
        exact r_ixL (v := .int 2) el rfl (q' _ (g18.trans gl))
      · rw [if_neg c2] at q'
        rw [decide_eq_false c2]
        exact r_ixL (v := .int 1) el rfl (q' _ (g18.trans gl))
    · rw [if_neg (by simpa using c)] at q'
      repeat walk_at "st"
      refine r_seq ?_
      repeat walk_at "st"
      refine r_iteN (fun c' => ?_) (fun c' => ?_)
      · rw [if_pos c'] at q'
        repeat walk_at "st"
        refine ⟨sz rfl, fun o no => ?_⟩
        have gl := same_new no (.lst [V.int 1, .int 2])
        have el : SqL K (upd H8 o (.lst [V.int 1, .int 2])) o [.int 1, .int 2] := lstOf upd_same
        generalize upd H8 o (.lst [V.int 1, .int 2]) = H9 at *
        have ta9 := gl.tp ta6
        repeat walk_at "st"
        refine .inr ⟨_, rfl, ?_⟩
        by_cases c2 : 0 < t6
        · rw [if_pos c2] at q'
          rw [decide_eq_true c2]
          exact r_ixL (v := .int 2) el rfl (q' _ (g18.trans gl))
        · rw [if_neg c2] at q'
          rw [decide_eq_false c2]
          exact r_ixL (v := .int 1) el rfl (q' _ (g18.trans gl))
      · rw [if_neg (by simpa using c')] at q'
        repeat walk_at "st"
        exact q' _ g18
  ) only [↓Mb.dischW]
theorem ok_even (F : Fn K mg "_law_even" s_even) : Kn P w K mg base 1 "_law_even" ["_law_one", "_law_other"] (spEven K) := by
  refine F.kn sc_even (fun vs H Q E h => ?_) (fun f cdv A outer s H vs Q E hr h => ?_) (fun _ _ _ _ _ _ us hl => match us, hl with | [_, _], _ => rfl)
  · obtain ⟨a, b, x, y, u, v, rfl, _⟩ := h
    rfl
  obtain ⟨a, b, x, y, u, v, rfl, h1, h2, s1, s2, s3, s4, q⟩ := h
  refine ⟨_, (pss_one (ps_ret (pe_cmpR op_eq (pe_op op_mulW (pe_ix ix_tup (pv 0) pe_int (fun _ _ => rfl)) (pe_ix ix_tup (pv 1) pe_int (fun _ _ => rfl))) (pe_op op_mulW (pe_ix ix_tup (pv 1) pe_int (fun _ _ => rfl)) (pe_ix ix_tup (pv 0) pe_int (fun _ _ => rfl))) (nomark _)))), ?_⟩
  show (_ : TS) _ [some (.ref a), some (.ref b)] _
  repeat walk_at "st"
  exact q
theorem ok_whole (F : Fn K mg "_law_whole" s_whole) (z_isinstance : mg "isinstance" = none) (z_int : mg "int" = none) (z_bool : mg "bool" = none) : Kn P w K mg base 1 "_law_whole" ["_law_found"] spWhole := by
  refine Mb.ofW ?_
  simp (discharger := with_unfolding_all
    refine F.kn sc_whole (fun vs H Q E h => ?_) (fun f cdv A outer s H vs Q E hr h => ?_) (fun _ _ _ _ _ _ us hl => match us, hl with | [_], _ => rfl)
    · obtain ⟨i, rfl, _⟩ := h
      rfl
    obtain ⟨i, rfl, q⟩ := h
    refine ⟨_, (pss_one (ps_ret (pe_and (pe_callB call_isi (by rfl) z_isinstance (by decide +kernel) (pa_cons (pv 0) (pa_cons (pe_bltn (v := .ty "int") (by rfl) z_int (by decide +kernel) rfl) pa_nil))) (pe_one (pe_not (pe_callB call_isi (by rfl) z_isinstance (by decide +kernel) (pa_cons (pv 0) (pa_cons (pe_bltn (v := .ty "bool") (by rfl) z_bool (by decide +kernel) rfl) pa_nil)))))))), ?_⟩
    show (_ : TS) _ [some (.int i)] _
    repeat walk_at "st"
    refine r_isi (r := true) (.base (.int _)) (by decide +kernel) ?_
    repeat walk_at "st"
    refine r_isi (r := false) (.base (.int _)) (by decide +kernel) ?_
    repeat walk_at "st"
    exact q
  ) only [↓Mb.dischW]
theorem ok_is_frac (F : Fn K mg "_law_is_frac" s_is_frac) (G_whole : Kn P w K mg base 1 "_law_whole" ["_law_found"] spWhole) (G_gcd : Kn P w K mg base 1 "_law_gcd" ["_law_one", "_law_other"] spGcd) (z_isinstance : mg "isinstance" = none) (z_tuple : mg "tuple" = none) (z_len : mg "len" = none) : Kn P w K mg base 2 "_law_is_frac" ["_law_found"] (spIsFr K) := by
  refine Mb.ofW ?_
  simp (discharger := with_unfolding_all
    refine F.kn sc_is_frac (fun vs H Q E h => ?_) (fun f cdv A outer s H vs Q E hr h => ?_) (fun _ _ _ _ _ _ us hl => match us, hl with | [_], _ => rfl)
    · obtain ⟨p, t, u, rfl, _⟩ := h
      rfl
    obtain ⟨p, t, u, rfl, hp, u0, g, q⟩ := h
    refine ⟨_, (pss_cons (ps_if (PW.pt (pw_or (pt_not (pt_val (pe_callB call_isi (by rfl) z_isinstance (by decide +kernel) (pa_cons (pv 0) (pa_cons (pe_bltn (v := .ty "tuple") (by rfl) z_tuple (by decide +kernel) rfl) pa_nil))))) (pw_or1 (pt_cmpR op_ne (pe_callB call_len_seq (by rfl) z_len (by decide +kernel) (pa_cons (pv 0) pa_nil)) pe_int (nomark _)))))
      (pss_one (ps_ret pe_bl))
      pss_nil)
      (pss_cons (ps_if (PW.pt (pw_or (pt_not (pt_val (pe_kn G_whole (hr.mono (by decide)) (by rfl) (pa_cons (pe_ix ix_tup (pv 0) pe_int (fun _ _ => rfl)) pa_nil)))) (pw_or (pt_not (pt_val (pe_kn G_whole (hr.mono (by decide)) (by rfl) (pa_cons (pe_ix ix_tup (pv 0) pe_int (fun _ _ => rfl)) pa_nil)))) (pw_or1 (pt_cmpR op_lt (pe_ix ix_tup (pv 0) pe_int (fun _ _ => rfl)) pe_int (nomark _))))))
      (pss_one (ps_ret pe_bl))
      pss_nil)
      (pss_one (ps_ret (pe_cmpR op_eq (pe_kn G_gcd (hr.mono (by decide)) (by rfl) (pa_cons (pe_ix ix_tup (pv 0) pe_int (fun _ _ => rfl)) (pa_cons (pe_ix ix_tup (pv 0) pe_int (fun _ _ => rfl)) pa_nil))) pe_int (nomark _)))))), ?_⟩
    show (_ : TS) _ [some (.ref p)] _
    refine r_seq ?_
    repeat walk_at "st"
    refine r_isi (r := true) (tyT hp) (by decide +kernel) ?_
    repeat walk_at "st"
    refine ⟨p, _, rfl, .inr hp, ?_⟩
    repeat walk_at "st"
    refine r_iteN (fun c => ?_) (fun c => ?_)
    · exact absurd rfl c
    repeat walk_at "st"
    refine r_seq ?_
    repeat walk_at "st"
    refine ⟨_, rfl, ?_⟩
    repeat walk_at "st"
    refine ⟨_, rfl, ?_⟩
    repeat walk_at "st"
    refine r_ite (fun c => ?_) (fun c => ?_)
    · omega
    repeat walk_at "st"
    refine ⟨_, _, rfl, ?_⟩
    rw [g]
    repeat walk_at "st"
    exact q
  ) only [↓Mb.dischW]
theorem ok_is_place (F : Fn K mg "_law_is_place" s_is_place) (G_is_frac : Kn P w K mg base 2 "_law_is_frac" ["_law_found"] (spIsFr K)) (z_isinstance : mg "isinstance" = none) (z_tuple : mg "tuple" = none) (z_len : mg "len" = none) : Kn P w K mg base 3 "_law_is_place" ["_law_found"] (spIsPl K) := by
  refine Mb.ofW ?_
  simp (discharger := with_unfolding_all
    refine F.kn sc_is_place (fun vs H Q E h => ?_) (fun f cdv A outer s H vs Q E hr h => ?_) (fun _ _ _ _ _ _ us hl => match us, hl with | [_], _ => rfl)
    · obtain ⟨p, f, g, t, u, r, s, rfl, _⟩ := h
      rfl
    obtain ⟨p, f1, g1, t, u, r, s', rfl, hp, hx, hy, hu, hgx, hs, hgy, q⟩ := h
    refine ⟨_, (pss_one (ps_ret (pe_and (pe_callB call_isi (by rfl) z_isinstance (by decide +kernel) (pa_cons (pv 0) (pa_cons (pe_bltn (v := .ty "tuple") (by rfl) z_tuple (by decide +kernel) rfl) pa_nil))) (pe_and (pe_cmpR op_eq (pe_callB call_len_seq (by rfl) z_len (by decide +kernel) (pa_cons (pv 0) pa_nil)) pe_int (nomark _)) (pe_and (pe_kn G_is_frac (hr.mono (by decide)) (by rfl) (pa_cons (pe_ix ix_tup (pv 0) pe_int (fun _ _ => rfl)) pa_nil)) (pe_one (pe_kn G_is_frac (hr.mono (by decide)) (by rfl) (pa_cons (pe_ix ix_tup (pv 0) pe_int (fun _ _ => rfl)) pa_nil)))))))), ?_⟩
    show (_ : TS) _ [some (.ref p)] _
    repeat walk_at "st"
    refine r_isi (tyT hp) rfl ?_
    repeat walk_at "st"
    refine ⟨p, _, rfl, .inr hp, ?_⟩
    repeat walk_at "st"
    refine r_dT (by simp) ?_
    repeat walk_at "st"
    refine ⟨_, _, _, rfl, hx, hu, hgx, ?_⟩
    repeat walk_at "st"
    exact ⟨_, _, _, rfl, hy, hs, hgy, q⟩
  ) only [↓Mb.dischW]
theorem ok_is_line (F : Fn K mg "_law_is_line" s_is_line) (G_whole : Kn P w K mg base 1 "_law_whole" ["_law_found"] spWhole) (G_gcd : Kn P w K mg base 1 "_law_gcd" ["_law_one", "_law_other"] spGcd) (z_isinstance : mg "isinstance" = none) (z_tuple : mg "tuple" = none) (z_len : mg "len" = none) : Kn P w K mg base 2 "_law_is_line" ["_law_found"] (spIsLn K) := by
  refine Mb.ofW ?_
  simp (discharger := with_unfolding_all
    refine F.kn sc_is_line (fun vs H Q E h => ?_) (fun f cdv A outer s H vs Q E hr h => ?_) (fun _ _ _ _ _ _ us hl => match us, hl with | [_], _ => rfl)
    · obtain ⟨v, a, b, c, rfl, _⟩ := h
      rfl
    obtain ⟨v, a, b, c, rfl, ⟨p, rfl, hp⟩, hL, q⟩ := h
    refine ⟨_, (pss_cons (ps_if (PW.pt (pw_or (pt_not (pt_val (pe_callB call_isi (by rfl) z_isinstance (by decide +kernel) (pa_cons (pv 0) (pa_cons (pe_bltn (v := .ty "tuple") (by rfl) z_tuple (by decide +kernel) rfl) pa_nil))))) (pw_or1 (pt_cmpR op_ne (pe_callB call_len_seq (by rfl) z_len (by decide +kernel) (pa_cons (pv 0) pa_nil)) pe_int (nomark _)))))
      (pss_one (ps_ret pe_bl))
      pss_nil)
      (pss_cons (ps_for PassesOwn.never rfl (pi_tup (pv 0)) (pg_name (i := 1) sc_is_line.nd rfl (.inl rfl))
      (pss_one (ps_if (pt_not (pt_val (pe_kn G_whole (hr.mono (by decide)) (by rfl) (pa_cons (pv 1) pa_nil))))
      (pss_one (ps_ret pe_bl))
      pss_nil)))
      (pss_cons (ps_if (PW.pt (pw_or (pt_cmpR op_lt (pe_ix ix_tup (pv 0) pe_int (fun _ _ => rfl)) pe_int (nomark _)) (pw_or1 (PW.pt (pw_and (pt_cmpR op_eq (pe_ix ix_tup (pv 0) pe_int (fun _ _ => rfl)) pe_int (nomark _)) (pw_and1 (pt_cmpR op_lt (pe_ix ix_tup (pv 0) pe_int (fun _ _ => rfl)) pe_int (nomark _))))))))
      (pss_one (ps_ret pe_bl))
      pss_nil)
      (pss_one (ps_ret (pe_cmpR op_eq (pe_kn G_gcd (hr.mono (by decide)) (by rfl) (pa_cons (pe_kn G_gcd (hr.mono (by decide)) (by rfl) (pa_cons (pe_ix ix_tup (pv 0) pe_int (fun _ _ => rfl)) (pa_cons (pe_ix ix_tup (pv 0) pe_int (fun _ _ => rfl)) pa_nil))) (pa_cons (pe_ix ix_tup (pv 0) pe_int (fun _ _ => rfl)) pa_nil))) pe_int (nomark _))))))), ?_⟩
    show (_ : TS) _ [some (.ref p), none] _
    refine r_seq ?_
    repeat walk_at "st"
    refine r_isi (tyT hp) rfl ?_
    repeat walk_at "st"
    refine ⟨p, _, rfl, .inr hp, ?_⟩
    repeat walk_at "st"
    refine r_dF (by simp) ?_
    repeat walk_at "st"
    refine r_seq ?_
    refine ⟨_, rfl, p, rfl, ⟨_, hp⟩, for_tup (xs := [.int a, .int b, .int c]) (fun i σ H' => (∃ z, σ = [some (.ref p), z]) ∧ H' = H) ⟨⟨_, rfl⟩, rfl⟩ ?_ ?_ ?_⟩
    · rintro i σ H' _ ⟨_, rfl⟩
      exact hp
    · rintro i x σ H' hi ⟨⟨z, rfl⟩, rfl⟩
      have : ∃ j, x = .int j := by
        match i, hi with
        | 0, hi => exact ⟨_, (Option.some.inj hi).symm⟩
        | 1, hi => exact ⟨_, (Option.some.inj hi).symm⟩
        | 2, hi => exact ⟨_, (Option.some.inj hi).symm⟩
        | n + 3, hi => cases hi
      obtain ⟨j, rfl⟩ := this
      repeat walk_at "st"
      refine ⟨_, rfl, ?_⟩
      repeat walk_at "st"
      exact ⟨⟨_, rfl⟩, rfl⟩
    · rintro σ H' ⟨⟨z, rfl⟩, rfl⟩
      have sg := hL.sg
      repeat walk_at "st"
      refine r_seq ?_
      repeat walk_at "st"
      refine r_no (show ¬ a < 0 by omega) ?_
      repeat walk_at "st"
      refine r_ite (fun c1 => ?_) (fun c1 => ?_)
      · repeat walk_at "st"
        refine r_no (show ¬ b < 1 by omega) ?_
        repeat walk_at "st"
        refine ⟨_, _, rfl, ?_⟩
        repeat walk_at "st"
        refine ⟨_, _, rfl, ?_⟩
        repeat walk_at "st"
        rw [hL.one]
        exact q
      · repeat walk_at "st"
        refine ⟨_, _, rfl, ?_⟩
        repeat walk_at "st"
        refine ⟨_, _, rfl, ?_⟩
        repeat walk_at "st"
        rw [hL.one]
        exact q
  ) only [↓Mb.dischW]
theorem ok_l_near (F : Fn K mg "_law_near" s_l_near) (G_l_plus : Kn P w K mg base 1 "_law_plus" ["_law_one", "_law_other"] (spR2 K (· + ·))) (G_l_less : Kn P w K mg base 1 "_law_less" ["_law_one", "_law_other"] (spR2 K (· - ·))) (G_l_times : Kn P w K mg base 1 "_law_times" ["_law_one", "_law_other"] (spR2 K (· * ·))) : Kn P w K mg base 2 "_law_near" ["_law_one", "_law_other"] (spNear31 K) := by
  refine Mb.ofW ?_
  simp (discharger := with_unfolding_all
    refine F.kn sc_l_near (fun vs H Q E h => ?_) (fun f cdv A outer s H vs Q E hr h => ?_) (fun _ _ _ _ _ _ us hl => match us, hl with | [_, _], _ => rfl)
    · obtain ⟨v, w1, x, y, x', y', n, m, rfl, _⟩ := h
      rfl
    obtain ⟨v, w1, x, y, x', y', n, m, rfl, h1, h2, s1, s2, s3, s4, l, q⟩ := h
    refine ⟨_, (pss_cons (ps_set (i := 2) sc_l_near.nd rfl (.inl rfl) (pe_kn G_l_less (hr.mono (by decide)) (by rfl) (pa_cons (pe_ix ix_tup (pv 0) pe_int (fun _ _ => rfl)) (pa_cons (pe_ix ix_tup (pv 1) pe_int (fun _ _ => rfl)) pa_nil))))
      (pss_cons (ps_set (i := 3) sc_l_near.nd rfl (.inl rfl) (pe_kn G_l_less (hr.mono (by decide)) (by rfl) (pa_cons (pe_ix ix_tup (pv 0) pe_int (fun _ _ => rfl)) (pa_cons (pe_ix ix_tup (pv 1) pe_int (fun _ _ => rfl)) pa_nil))))
      (pss_one (ps_ret (pe_kn G_l_plus (hr.mono (by decide)) (by rfl) (pa_cons (pe_kn G_l_times (hr.mono (by decide)) (by rfl) (pa_cons (pv 2) (pa_cons (pv 2) pa_nil))) (pa_cons (pe_kn G_l_times (hr.mono (by decide)) (by rfl) (pa_cons (pv 3) (pa_cons (pv 3) pa_nil))) pa_nil))))))), ?_⟩
    show (_ : TS) _ [some v, some w1, none, none] _
    repeat walk_at "st"
    refine r_ixP0 h1 fun f1 k1 => ?_
    repeat walk_at "st"
    refine r_ixP0 h2 fun f2 k2 => ?_
    repeat walk_at "st"
    refine ⟨f1, f2, _, _, _, _, rfl, k1.rq s1, k2.rq s3, by omega, by omega, fun r1 H1 g1 e1 => ?_⟩
    have h11 := h1.up g1
    have h21 := h2.up g1
    repeat walk_at "st"
    refine r_ixP1 h11 fun f3 k3 => ?_
    repeat walk_at "st"
    refine r_ixP1 h21 fun f4 k4 => ?_
    repeat walk_at "st"
    refine ⟨f3, f4, _, _, _, _, rfl, k3.rq s2, k4.rq s4, by omega, by omega, fun r2 H2 g2 e2 => ?_⟩
    have e12 := e1.up g2
    repeat walk_at "st"
    refine ⟨r1, r1, _, _, _, _, rfl, e12, e12, by omega, by omega, fun r3 H3 g3 e3 => ?_⟩
    have e23 := e2.up g3
    repeat walk_at "st"
    refine ⟨r2, r2, _, _, _, _, rfl, e23, e23, by omega, by omega, fun r4 H4 g4 e4 => ?_⟩
    have e34 := e3.up g4
    repeat walk_at "st"
    refine ⟨r3, r4, _, _, _, _, rfl, e34, e4, by omega, by omega, fun r5 H5 g5 e5 => ?_⟩
    exact q _ _ (g1.trans (g2.trans (g3.trans (g4.trans g5)))) (e5.mono (by omega))
  ) only [↓Mb.dischW]
theorem ok_off (F : Fn K mg "_law_off" s_off) (G_l_plus : Kn P w K mg base 1 "_law_plus" ["_law_one", "_law_other"] (spR2 K (· + ·))) (G_l_less : Kn P w K mg base 1 "_law_less" ["_law_one", "_law_other"] (spR2 K (· - ·))) (G_l_times : Kn P w K mg base 1 "_law_times" ["_law_one", "_law_other"] (spR2 K (· * ·))) : Kn P w K mg base 2 "_law_off" ["_law_place_here", "_law_line"] (spOff31 K) := by
  refine Mb.ofW ?_
  simp (discharger := with_unfolding_all
    refine F.kn sc_off (fun vs H Q E h => ?_) (fun f cdv A outer s H vs Q E hr h => ?_) (fun _ _ _ _ _ _ us hl => match us, hl with | [_, _], _ => rfl)
    · obtain ⟨p, f, g, l, x, y, a, b, c, rfl, _⟩ := h
      rfl
    obtain ⟨p, f1, f2, l, x, y, a, b, c, rfl, hp, hx, hy, ⟨al, rfl, hL⟩, sa, sb, sc, q⟩ := h
    refine ⟨_, (pss_cons (ps_set (i := 2) sc_off.nd rfl (.inl rfl) (pe_kn G_l_times (hr.mono (by decide)) (by rfl) (pa_cons (pe_tup (pa_cons (pe_ix ix_tup (pv 1) pe_int (fun _ _ => rfl)) (pa_cons pe_int pa_nil))) (pa_cons (pe_ix ix_tup (pv 0) pe_int (fun _ _ => rfl)) pa_nil))))
      (pss_cons (ps_set (i := 3) sc_off.nd rfl (.inl rfl) (pe_kn G_l_times (hr.mono (by decide)) (by rfl) (pa_cons (pe_tup (pa_cons (pe_ix ix_tup (pv 1) pe_int (fun _ _ => rfl)) (pa_cons pe_int pa_nil))) (pa_cons (pe_ix ix_tup (pv 0) pe_int (fun _ _ => rfl)) pa_nil))))
      (pss_one (ps_ret (pe_kn G_l_less (hr.mono (by decide)) (by rfl) (pa_cons (pe_kn G_l_plus (hr.mono (by decide)) (by rfl) (pa_cons (pv 2) (pa_cons (pv 3) pa_nil))) (pa_cons (pe_tup (pa_cons (pe_ix ix_tup (pv 1) pe_int (fun _ _ => rfl)) (pa_cons pe_int pa_nil))) pa_nil))))))), ?_⟩
    show (_ : TS) _ [some (.ref p), some (.ref al), none, none] _
    repeat walk_at "st"
    refine ⟨sz rfl, fun o1 n1 => ?_⟩
    have g1 := same_new n1 (.tup [.int a, .int 1])
    have k1 : Rq K (upd H o1 (.tup [.int a, .int 1])) (.ref o1) (a : Rat) 3100 := .int (tupOf upd_same) sa (by decide)
    generalize upd H o1 (.tup [.int a, .int 1]) = H1 at *
    have hp1 := g1.tp hp
    have hL1 := g1.tp hL
    repeat walk_at "st"
    refine ⟨.ref o1, f1, _, _, _, _, rfl, k1, hx.up g1, by omega, by omega, fun r1 H2 g2 e1 => ?_⟩
    have hL2 := g2.tp hL1
    have hp2 := g2.tp hp1
    repeat walk_at "st"
    refine ⟨sz rfl, fun o2 n2 => ?_⟩
    have g3 := same_new n2 (.tup [.int b, .int 1])
    have k2 : Rq K (upd H2 o2 (.tup [.int b, .int 1])) (.ref o2) (b : Rat) 3100 := .int (tupOf upd_same) sb (by decide)
    generalize upd H2 o2 (.tup [.int b, .int 1]) = H3 at *
    have hp3 := g3.tp hp2
    have hL3 := g3.tp hL2
    have g13 := g1.trans (g2.trans g3)
    repeat walk_at "st"
    refine ⟨.ref o2, f2, _, _, _, _, rfl, k2, hy.up g13, by omega, by omega, fun r2 H4 g4 e2 => ?_⟩
    have hL4 := g4.tp hL3
    have e14 := e1.up (g3.trans g4)
    repeat walk_at "st"
    refine ⟨r1, r2, _, _, _, _, rfl, e14, e2, by omega, by omega, fun r3 H5 g5 e3 => ?_⟩
    have hL5 := g5.tp hL4
    repeat walk_at "st"
    refine ⟨sz rfl, fun o3 n3 => ?_⟩
    have g6 := same_new n3 (.tup [.int c, .int 1])
    have k3 : Rq K (upd H5 o3 (.tup [.int c, .int 1])) (.ref o3) (c : Rat) 3100 := .int (tupOf upd_same) sc (by decide)
    generalize upd H5 o3 (.tup [.int c, .int 1]) = H6 at *
    repeat walk_at "st"
    refine ⟨r3, .ref o3, _, _, _, _, rfl, e3.up g6, k3, by omega, by omega, fun r4 H7 g7 e4 => ?_⟩
    exact q _ _ (g13.trans (g4.trans (g5.trans (g6.trans g7)))) (e4.mono (by omega))
  ) only [↓Mb.dischW]
theorem ok_det_0 (F : Fn K mg "_law_det" s_det) : Kn P w K mg base 3 "_law_det" ["_law_rows"] (spDetU K 0) := by
  refine F.kn sc_det (fun vs H Q E h => ?_) (fun f cdv A outer s H vs Q E hr h => ?_) (fun _ _ _ _ _ _ us hl => match us, hl with | [_], _ => rfl)
  · obtain ⟨n, h1, h2, _⟩ := h
    omega
  · obtain ⟨n, h1, h2, _⟩ := h
    omega
theorem ok_detS {L m : Nat} (hL : 2 ≤ L) (hm3 : m ≤ 3) (F : Fn K mg "_law_det" s_det) (G_low : Kn P w K mg base 2 "_law_low" ["_law_top", "_law_bottom"] spLowX) (G_l_plus : Kn P w K mg base 1 "_law_plus" ["_law_one", "_law_other"] (spR2 K (· + ·))) (G_l_less : Kn P w K mg base 1 "_law_less" ["_law_one", "_law_other"] (spR2 K (· - ·))) (G_l_times : Kn P w K mg base 1 "_law_times" ["_law_one", "_law_other"] (spR2 K (· * ·))) (G_det : Kn P w K mg base L "_law_det" ["_law_rows"] (spDetU K m)) (z_len : mg "len" = none) (z_range : mg "range" = none) : Kn P w K mg base (L + 1) "_law_det" ["_law_rows"] (spDetU K (m + 1)) := by
  refine Mb.ofW ?_
  simp (discharger := with_unfolding_all
    refine F.kn sc_det (fun vs H Q E h => ?_) (fun f cdv A outer s H vs Q E hr h => ?_) (fun _ _ _ _ _ _ us hl => match us, hl with | [_], _ => rfl)
    · obtain ⟨n, _, _, l, rows, M, P, B, rfl, _⟩ := h
      rfl
    obtain ⟨n, n1, nm, l, rows, M, P0, B, rfl, hl, pr, hM, hrow, hh, hB, q⟩ := h
    refine ⟨_, (pss_cons (ps_if (pt_cmpR op_eq (pe_callB call_len_seq (by rfl) z_len (by decide +kernel) (pa_cons (pv 0) pa_nil)) pe_int (nomark _))
      (pss_one (ps_ret (pe_ix ix_list (pe_ix ix_list (pv 0) pe_int (fun _ _ => rfl)) pe_int (fun _ _ => rfl))))
      pss_nil)
      (pss_cons (ps_set (i := 1) sc_det.nd rfl (.inl rfl) (pe_tup (pa_cons pe_int (pa_cons pe_int pa_nil))))
      (pss_cons (ps_for PassesOwn.never rfl (pi_range1 (by rfl) z_range (pa_cons (pe_callB call_len_seq (by rfl) z_len (by decide +kernel) (pa_cons (pv 0) pa_nil)) pa_nil)) (pg_name (i := 2) sc_det.nd rfl (.inl rfl))
      (pss_cons (ps_setLc (i := 3) (own := [("_law_row", 4)]) (g := gName 4) (by rfl) sc_det.nd rfl rfl (sw_true rfl rfl rfl (by decide +kernel)) (pi_list (pe_op op_cat (pe_slice (show SlR _ (rSlL K) from sl_list) (pv 0) po_none (po_some (pv 2))) (pe_slice (show SlR _ (rSlL K) from sl_list) (pv 0) (po_some (pe_op op_add (pv 2) pe_int)) po_none))) (blkOk_by (own := [("_law_row", 4)]) (N := ["_law_rows", "_law_found", "_law_k", "_law_rest", "_law_row", "_law_part"]) (sc := (defScope s_det)) (by decide +kernel)) (fun _ _ _ _ _ => pg_name (i := 4) sc_det.nd rfl (.inl rfl)) (fun _ _ _ _ _ => pts_nil) (fun _ _ _ _ _ => (pe_slice (show SlR _ (rSlL K) from sl_list) (pv 4) (po_some pe_int) po_none)))
      (pss_cons (ps_set (i := 5) sc_det.nd rfl (.inl rfl) (pe_kn G_l_times (hr.mono (by omega)) (by rfl) (pa_cons (pe_ix ix_list (pe_ix ix_list (pv 0) (pv 2) (fun _ _ => rfl)) pe_int (fun _ _ => rfl)) (pa_cons (pe_kn G_det (hr.mono (by omega)) (by rfl) (pa_cons (pv 3) pa_nil)) pa_nil))))
      (pss_cons (ps_if (pt_cmpR op_eq (pe_op op_mod (pv 2) pe_int) pe_int (nomark _))
      (pss_one (ps_set (i := 1) sc_det.nd rfl (.inl rfl) (pe_kn G_l_plus (hr.mono (by omega)) (by rfl) (pa_cons (pv 1) (pa_cons (pv 5) pa_nil)))))
      (pss_one (ps_set (i := 1) sc_det.nd rfl (.inl rfl) (pe_kn G_l_less (hr.mono (by omega)) (by rfl) (pa_cons (pv 1) (pa_cons (pv 5) pa_nil))))))
      (pss_one (ps_set (i := 1) sc_det.nd rfl (.inl rfl) (pe_kn G_low (hr.mono (by omega)) (by rfl) (pa_cons (pe_ix ix_tup (pv 1) pe_int (fun _ _ => rfl)) (pa_cons (pe_ix ix_tup (pv 1) pe_int (fun _ _ => rfl)) pa_nil)))))))))
      (pss_one (ps_ret (pv 1)))))), ?_⟩
    show (_ : TS) _ [some (.ref l), none, none, none, none, none] _
    have lr : rows.length = n := by rw [Paired.length pr, hM]
    refine r_seq ?_
    repeat walk_at "st"
    refine ⟨l, rows, rfl, .inl hl, ?_⟩
    repeat walk_at "st"
    rw [lr]
    refine r_ite (fun c => ?_) (fun c => ?_)
    · obtain rfl : n = 1 := by omega
      obtain ⟨v0, e0⟩ : ∃ v0, rows[0]? = some v0 := ⟨_, List.getElem?_eq_getElem (by omega)⟩
      obtain ⟨row, er, a, es, rfl, ha, pe⟩ := LiI.paired_get pr e0
      have lrow : row.length = 1 := hrow row (List.mem_of_getElem? er)
      obtain ⟨e1, ee⟩ : ∃ e1, es[0]? = some e1 := ⟨_, List.getElem?_eq_getElem (by rw [Paired.length pe]; omega)⟩
      obtain ⟨q0, eq0, rq⟩ := LiI.paired_get pe ee
      repeat walk_at "st"
      refine r_ixL (v := .ref a) hl (atI_nat e0) ?_
      repeat walk_at "st"
      refine r_ixL (v := e1) ha (atI_nat ee) ?_
      refine q _ _ (Same.refl _) (rq.cast ?_)
      show q0 = (M.getD 0 []).getD 0 0
      rw [List.getD_eq_getElem?_getD, List.getD_eq_getElem?_getD, er]
      show q0 = (row[0]?).getD 0
      rw [eq0]
      rfl
    obtain ⟨n, rfl⟩ : ∃ n', n = n' + 2 := ⟨n - 2, by omega⟩
    repeat walk_at "st"
    refine ⟨sz rfl, fun o0 no0 => ?_⟩
    have g0 := same_new no0 (.tup [.int 0, .int 1])
    have k0 : SqT K (upd H o0 (.tup [.int 0, .int 1])) o0 [.int 0, .int 1] := tupOf upd_same
    have r0 : Rq K (upd H o0 (.tup [.int 0, .int 1])) (.ref o0) 0 3100 := (Rq.int k0 (show Sm 3100 (0 : Int) by unfold Sm; exact Nat.pow_pos (by decide)) (by decide)).cast rfl
    generalize upd H o0 (.tup [.int 0, .int 1]) = H0 at *
    repeat walk_at "st"
    refine r_seq ?_
    unfold tFor iRng1
    repeat walk_at "st"
    refine ⟨l, rows, rfl, .inl (g0.seq hl), ?_⟩
    repeat walk_at "st"
    refine ⟨((rows.length : Nat) : Int), rfl, by omega, by omega, ?_⟩
    rw [show ((rows.length : Nat) : Int).toNat = n + 2 from by omega]
    refine for_range (n := n + 2) (fun i σ H' => Same H H' ∧ ∃ (fo : V) (y2 y3 y4 y5 : Option V), σ = [some (.ref l), some fo, y2, y3, y4, y5] ∧ Rq K H' fo (psumF (detN (n + 1)) M i) 3100) ⟨g0, _, _, _, _, _, rfl, r0⟩ ?_ ?_
    · rintro i σ H1 hi ⟨g1, fo, y2, y3, y4, y5, rfl, rf⟩
      have hl1 := g1.seq hl
      have pr1 : Paired (RowAt K H1) rows M := Paired.mapP pr fun _ _ h => h.up g1
      repeat walk_at "st"
      refine r_lcM ?_
      repeat walk_at "st"
      refine r_slR ?_
      repeat walk_at "st"
      refine r_noP ?_
      refine r_partR ?_
      repeat walk_at "st"
      refine ⟨l, _, rfl, hl1, fun a1 na1 => ?_⟩
      rw [Int.zero_add, cut_takeP (by omega)]
      have s2 := same_new na1 (.lst (rows.take i))
      have ea1 : upd H1 a1 (.lst (rows.take i)) a1 = some (.lst (rows.take i)) := upd_same
      generalize upd H1 a1 (.lst (rows.take i)) = H2 at *
      repeat walk_at "st"
      refine r_slR ?_
      repeat walk_at "st"
      refine r_partR ?_
      repeat walk_at "st"
      refine r_noP ?_
      refine ⟨l, _, rfl, s2.seq hl1, fun a2 na2 => ?_⟩
      rw [show (i : Int) + 1 = ((i + 1 : Nat) : Int) by omega, cut_dropP (by omega)]
      have s3 := same_new na2 (.lst (rows.drop (i + 1)))
      have ea2 : upd H2 a2 (.lst (rows.drop (i + 1))) a2 = some (.lst (rows.drop (i + 1))) := upd_same
      have ea1' := s3 _ _ ea1
      generalize upd H2 a2 (.lst (rows.drop (i + 1))) = H3 at *
      repeat walk_at "st"
      refine ⟨a1, a2, _, _, rfl, rfl, ea1', ea2, Nat.le_trans (show _ ≤ 1000 by rw [List.length_take, List.length_drop]; omega) (by decide), fun a3 na3 => ?_⟩
      rw [← List.eraseIdx_eq_take_drop_succ]
      have s4 := same_new na3 (.lst (rows.eraseIdx i))
      have ea3 : upd H3 a3 (.lst (rows.eraseIdx i)) a3 = some (.lst (rows.eraseIdx i)) := upd_same
      generalize upd H3 a3 (.lst (rows.eraseIdx i)) = H4 at *
      have s14 := s2.trans (s3.trans s4)
      have pr4 : Paired (RowAt K H4) (rows.eraseIdx i) (M.eraseIdx i) := paired_erase i (Paired.mapP pr1 fun _ _ h => h.up s14)
      clear s2 s3 s4 ea1 ea1' ea2 na1 na2 na3
      have lM : (M.eraseIdx i).length ≤ 4 := by rw [List.length_eraseIdx_of_lt (by omega)]; omega
      refine lc_mkD (RowAt K) (fun D H v row => RowD K D H v row.tail) (fun s h => h.up s) (fun d s h => h.mono d s) (lstOf ea3) pr4 (by omega) (fun _ => rfl) (fun v row D H5 hm px s5 hD S k => ?_) fun D vs H5 s5 nD eD pv => ?_
      · obtain ⟨a, es, rfl, ha, pe⟩ := px
        refine r_slR ?_
        repeat walk_at "st"
        refine r_partR ?_
        repeat walk_at "st"
        refine r_noP ?_
        refine ⟨a, _, rfl, ha, fun b nb => ?_⟩
        rw [cut_tailV]
        have s6 := same_new nb (.lst es.tail)
        refine k _ _ s6 ⟨b, es.tail, rfl, fun z => ?_, upd_same, paired_tail (Paired.mapP pe fun _ _ h => h.up s6)⟩
        obtain ⟨vs, hvs⟩ := hD
        rw [z, hvs] at nb
        cases nb
      have pv2 : Paired (RowAt K H5) vs (minorQ M i) := paired_mapR (f := List.tail) (Paired.mapP pv fun _ _ h => h.at)
      have s15 := s14.trans s5
      have rf5 := rf.up s15
      have hl5 := s15.seq hl1
      have pr5 : Paired (RowAt K H5) rows M := Paired.mapP pr1 fun _ _ h => h.up s15
      have g5 := g1.trans s15
      obtain ⟨v0, e0⟩ : ∃ v0, rows[i]? = some v0 := ⟨_, List.getElem?_eq_getElem (by omega)⟩
      obtain ⟨row, er, a, es, rfl, ha, pe⟩ := LiI.paired_get pr5 e0
      have lrow : row.length = n + 2 := hrow row (List.mem_of_getElem? er)
      obtain ⟨e1, ee⟩ : ∃ e1, es[0]? = some e1 := ⟨_, List.getElem?_eq_getElem (by rw [Paired.length pe]; omega)⟩
      obtain ⟨q0, eq0, rq⟩ := LiI.paired_get pe ee
      have eent : q0 = entQ M i := by
        show q0 = (M.getD i []).getD 0 0
        rw [List.getD_eq_getElem?_getD, List.getD_eq_getElem?_getD, er]
        show q0 = (row[0]?).getD 0
        rw [eq0]
        rfl
      clear pr1 pr4 s14 s15 s5 pv rf g1 hl1 nD
      repeat walk_at "st"
      refine r_ixL (v := .ref a) hl5 (atI_nat e0) ?_
      repeat walk_at "st"
      refine r_ixL (v := e1) ha (atI_nat ee) ?_
      repeat walk_at "st"
      obtain ⟨D0, n0, P', B', _, h2, h3, h4⟩ := hh.at i (by omega)
      obtain ⟨ml, mr⟩ := minor_len (show M.length = (n + 1) + 1 by omega) (show i < (n + 1) + 1 by omega) hrow
      refine ⟨n + 1, by omega, by omega, D, vs, minorQ M i, P', B', rfl, lstOf eD, pv2, ml, mr, h2.tails, by omega, fun rd H6 g6 ed => ?_⟩
      have rf6 := rf5.up g6
      repeat walk_at "st"
      refine ⟨e1, rd, _, _, _, _, rfl, rq.up g6, ed, by omega, by omega, fun rp H7 g7 ep => ?_⟩
      have rf7 := rf6.up g7
      have g57 := g5.trans (g6.trans g7)
      have szs := psum_sz (j := i + 1) (by omega) hM hrow hh (by omega)
      clear rf5 rf6 pe rq ed pv2 pr5 eD ha hl5 g5 g6 g7
      repeat walk_at "st"
      refine r_cut (fun σ H8 => ∃ (fo : V) (n8 : Nat), σ = [some (.ref l), some fo, some (.int (i : Int)), some (.ref D), y4, some rp] ∧ Same H7 H8 ∧ n8 ≤ 13500 ∧ Rq K H8 fo (psumF (detN (n + 1)) M (i + 1)) n8) ?_ (fun N J => ?_)
      · rintro σ H8 ⟨fo8, n8, rfl, g8, l8, rf8⟩
        obtain ⟨ao, t, b, rfl, ta, b0, eq, st, sb⟩ := rf8
        repeat walk_at "st"
        refine ⟨t, b, rfl, b0, .inr ⟨st.mono l8, sb.mono l8⟩, fun o9 H9 g9 n9 e9 => ?_⟩
        repeat walk_at "st"
        have f9 : Fq K H9 (.ref o9) _ := Fq.of _ b0 eq e9
        exact ⟨g57.trans (g8.trans g9), _, _, _, _, _, rfl, f9.rq (szs.mono (by omega))⟩
      · repeat walk_at "st"
        refine r_ite (fun c2 => ?_) (fun c2 => ?_)
        · repeat walk_at "st"
          refine ⟨fo, rp, _, _, _, _, rfl, rf7, ep, by omega, by omega, fun rr H8 g8 e8 => ?_⟩
          repeat walk_at "st"
          refine J _ _ ⟨rr, _, rfl, g8, ?_, e8.cast ?_⟩
          · omega
          · rw [eent, psum_even (by omega)]
        · repeat walk_at "st"
          refine ⟨fo, rp, _, _, _, _, rfl, rf7, ep, by omega, by omega, fun rr H8 g8 e8 => ?_⟩
          repeat walk_at "st"
          refine J _ _ ⟨rr, _, rfl, g8, ?_, e8.cast ?_⟩
          · omega
          · rw [eent, psum_odd (by omega)]
    · rintro σ H1 ⟨g1, fo, y2, y3, y4, y5, rfl, rf⟩
      repeat walk_at "st"
      exact q _ _ g1 (rf.mono (by omega))
  ) only [↓Mb.dischW]
theorem ok_det (F : Fn K mg "_law_det" s_det) (G_low : Kn P w K mg base 2 "_law_low" ["_law_top", "_law_bottom"] spLowX) (G_l_plus : Kn P w K mg base 1 "_law_plus" ["_law_one", "_law_other"] (spR2 K (· + ·))) (G_l_less : Kn P w K mg base 1 "_law_less" ["_law_one", "_law_other"] (spR2 K (· - ·))) (G_l_times : Kn P w K mg base 1 "_law_times" ["_law_one", "_law_other"] (spR2 K (· * ·))) (z_len : mg "len" = none) (z_range : mg "range" = none) : Kn P w K mg base 7 "_law_det" ["_law_rows"] (spDetU K 4) :=
  ok_detS (by decide) (by decide) F G_low G_l_plus G_l_less G_l_times (ok_detS (by decide) (by decide) F G_low G_l_plus G_l_less G_l_times (ok_detS (by decide) (by decide) F G_low G_l_plus G_l_less G_l_times (ok_detS (by decide) (by decide) F G_low G_l_plus G_l_less G_l_times (ok_det_0 F) z_len z_range) z_len z_range) z_len z_range) z_len z_range
theorem ok_l_grounds (F : Fn K mg "_law_grounds" s_l_grounds) (z_list : mg "list" = none) : Kn P w K mg base 1 "_law_grounds" ["_law_making_here"] (spGroundsL K) := by
  refine Mb.ofW ?_
  simp (discharger := with_unfolding_all
    refine F.kn sc_l_grounds (fun vs H Q E h => ?_) (fun f cdv A outer s H vs Q E hr h => ?_) (fun _ _ _ _ _ _ us hl => match us, hl with | [_], _ => rfl)
    · obtain ⟨m, x, ns, L, rfl, _⟩ := h
      rfl
    obtain ⟨m, x, ns, L, rfl, ⟨r, tm, tl⟩, ⟨⟨so, g, tx, hn⟩, hz⟩, q⟩ := h
    refine ⟨_, (pss_cons (ps_if (pt_cmpR op_eq (pe_ix ix_tup (pv 0) pe_int (fun _ _ => rfl)) pe_str (nomark _))
      (pss_one (ps_ret (pe_lst pa_nil)))
      pss_nil)
      (pss_cons (ps_if (PW.pt (pw_or (pt_cmpR op_eq (pe_ix ix_tup (pv 0) pe_int (fun _ _ => rfl)) pe_str (nomark _)) (pw_or1 (pt_cmpR op_eq (pe_ix ix_tup (pv 0) pe_int (fun _ _ => rfl)) pe_str (nomark _)))))
      (pss_one (ps_ret (pe_lst (pa_cons (pe_ix ix_tup (pv 0) pe_int (fun _ _ => rfl)) (pa_cons (pe_ix ix_tup (pv 0) pe_int (fun _ _ => rfl)) pa_nil)))))
      pss_nil)
      (pss_one (ps_ret (pe_callTy call_list_of (by rfl) z_list (by decide +kernel) (pa_cons (pe_slice sl_tup (pv 0) (po_some pe_int) po_none) pa_nil)))))), ?_⟩
    show (_ : TS) _ [some (.ref m)] _
    repeat walk_at "st"
    refine r_seq ?_
    repeat walk_at "st"
    refine r_ixT0 tm ?_
    repeat walk_at "st"
    refine r_ite (fun c => ?_) (fun c => ?_)
    · repeat walk_at "st"
      refine ⟨sz rfl, fun l nl => ?_⟩
      have : ns = [] := List.eq_nil_of_length_eq_zero (by rw [hn]; exact (many_of tx).1 c)
      subst this
      exact q l _ (same_new nl _) nl upd_same
    repeat walk_at "st"
    have two : x = "share" ∨ x = "cut" → (tLst (tCons (tOp (rIxT K) (tVar 0) (tC (.int 1))) (tCons (tOp (rIxT K) (tVar 0) (tC (.int 2))) tNil))) [some (.ref m)] H Q := by
      intro c2
      obtain ⟨a, b, rfl⟩ := pair_of (by rw [hn]; exact two_of tx (c2.elim .inl fun h => .inr (.inl h)))
      repeat walk_at "st"
      refine r_ixT tm at_1 ?_
      repeat walk_at "st"
      refine r_ixT tm at_2 ?_
      repeat walk_at "st"
      refine ⟨sz rfl, fun l nl => ?_⟩
      exact q l _ (same_new nl _) nl upd_same
    refine r_seq ?_
    repeat walk_at "st"
    refine r_ixT0 tm ?_
    repeat walk_at "st"
    refine r_ite (fun c2 => ?_) (fun c2 => ?_)
    · exact two (.inl c2)
    repeat walk_at "st"
    refine r_ixT0 tm ?_
    repeat walk_at "st"
    refine r_ite (fun c3 => ?_) (fun c3 => ?_)
    · exact two (.inr c3)
    have := tl.nil c c2 c3
    subst this
    rw [List.append_nil] at tm
    repeat walk_at "st"
    refine r_slR ?_
    repeat walk_at "st"
    refine r_partR ?_
    repeat walk_at "st"
    refine ⟨m, _, rfl, tm, cut_part, fun p hp => ?_⟩
    rw [cut_tail]
    repeat walk_at "st"
    have s1 := same_new hp (.tup (ns.map V.str))
    refine ⟨p, _, rfl, .inr (tupOf upd_same), fun l hl => ?_⟩
    have s2 := same_new hl (.lst (ns.map V.str))
    exact q l _ (s1.trans s2) (s1.free hl) upd_same
  ) only [↓Mb.dischW]
theorem ok_sort (F : Fn K mg "_law_sort" s_sort) : Kn P w K mg base 1 "_law_sort" ["_law_making_here"] (spSortL K) := by
  refine Mb.ofW ?_
  simp (discharger := with_unfolding_all
    refine F.kn sc_sort (fun vs H Q E h => ?_) (fun f cdv A outer s H vs Q E hr h => ?_) (fun _ _ _ _ _ _ us hl => match us, hl with | [_], _ => rfl)
    · obtain ⟨m, x, ns, L, rfl, _⟩ := h
      rfl
    obtain ⟨m, x, ns, L, rfl, ⟨r, tm, tl⟩, ⟨⟨so, g, tx, hn⟩, hz⟩, q⟩ := h
    rw [sOf_eq tx] at q
    obtain ⟨s1, s2, s3, s4⟩ := sorts_of tx
    refine ⟨_, (pss_cons (ps_if (pt_cmpR op_in_seq (pe_ix ix_tup (pv 0) pe_int (fun _ _ => rfl)) (pe_lst (pa_cons pe_str (pa_cons pe_str (pa_cons pe_str pa_nil)))) (by rfl))
      (pss_one (ps_ret pe_str))
      pss_nil)
      (pss_cons (ps_if (pt_cmpR op_in_seq (pe_ix ix_tup (pv 0) pe_int (fun _ _ => rfl)) (pe_lst (pa_cons pe_str (pa_cons pe_str (pa_cons pe_str (pa_cons pe_str (pa_cons pe_str pa_nil)))))) (by rfl))
      (pss_one (ps_ret pe_str))
      pss_nil)
      (pss_cons (ps_if (pt_cmpR op_eq (pe_ix ix_tup (pv 0) pe_int (fun _ _ => rfl)) pe_str (nomark _))
      (pss_one (ps_ret pe_str))
      pss_nil)
      (pss_one (ps_ret pe_str))))), ?_⟩
    show (_ : TS) _ [some (.ref m)] _
    repeat walk_at "st"
    refine r_seq ?_
    repeat walk_at "st"
    refine r_ixT0 tm ?_
    repeat walk_at "st"
    refine ⟨sz rfl, fun l1 n1 => ?_⟩
    obtain ⟨H1, e1, g1, k1⟩ := nw n1 (.lst ((["line", "along", "upright"] : List Str).map V.str))
    refine r_inSL (zs := ["line", "along", "upright"]) (lstOf upd_same) ?_
    rw [show upd H l1 (.lst [V.str "line", .str "along", .str "upright"]) = H1 from e1.symm]
    repeat walk_at "st"
    refine r_ite (fun c => ?_) (fun c => ?_)
    · repeat walk_at "st"
      rw [s1 c] at q
      exact q _ g1
    repeat walk_at "st"
    refine r_seq ?_
    repeat walk_at "st"
    refine r_ixT0 (g1.tp tm) ?_
    repeat walk_at "st"
    refine ⟨sz rfl, fun l2 n2 => ?_⟩
    obtain ⟨H2, e2, g2, k2⟩ := nw n2 (.lst ((["inline", "round", "alike", "beside", "square"] : List Str).map V.str))
    refine r_inSL (zs := ["inline", "round", "alike", "beside", "square"]) (lstOf upd_same) ?_
    rw [show upd H1 l2 (.lst [V.str "inline", .str "round", .str "alike", .str "beside", .str "square"]) = H2 from e2.symm]
    have g12 := g1.trans g2
    repeat walk_at "st"
    refine r_ite (fun c2 => ?_) (fun c2 => ?_)
    · repeat walk_at "st"
      rw [s2 c2] at q
      exact q _ g12
    repeat walk_at "st"
    refine r_seq ?_
    repeat walk_at "st"
    refine r_ixT0 (g12.tp tm) ?_
    repeat walk_at "st"
    refine r_ite (fun c3 => ?_) (fun c3 => ?_)
    · repeat walk_at "st"
      rw [s3 c3] at q
      exact q _ g12
    repeat walk_at "st"
    rw [s4 c c2 c3] at q
    exact q _ g12
  ) only [↓Mb.dischW]
theorem ok_so (F : Fn K mg "_law_so" s_so) (G_l_plus : Kn P w K mg base 1 "_law_plus" ["_law_one", "_law_other"] (spR2 K (· + ·))) (G_l_times : Kn P w K mg base 1 "_law_times" ["_law_one", "_law_other"] (spR2 K (· * ·))) (G_even : Kn P w K mg base 1 "_law_even" ["_law_one", "_law_other"] (spS2 K)) (G_l_grounds : Kn P w K mg base 1 "_law_grounds" ["_law_making_here"] (spGroundsL K)) (G_l_near : Kn P w K mg base 2 "_law_near" ["_law_one", "_law_other"] (spNear31 K)) (G_det : Kn P w K mg base 7 "_law_det" ["_law_rows"] (spDetU K 4)) (z_range : mg "range" = none) : Kn P w K mg base 8 "_law_so" ["_law_making_here", "_law_at"] (spSo31 K) := by
  refine Mb.ofW ?_
  simp (discharger := with_unfolding_all
    refine F.kn sc_so (fun vs H Q E h => ?_) (fun f cdv A outer s H vs Q E hr h => ?_) (fun _ _ _ _ _ _ us hl => match us, hl with | [_, _], _ => rfl)
    · obtain ⟨m, D, x, ns, d, tv, ps, b, rfl, _⟩ := h
      rfl
    obtain ⟨m, D, x, ns, d, tv, ps, b, rfl, ah, hd, q⟩ := h
    refine ⟨_, (pss_cons (ps_set (i := 2) sc_so.nd rfl (.inr rfl) (pe_lc (own := [("_law_name", 3)]) (g := gName 3) (by rfl) sc_so.nd (pi_list (pe_kn G_l_grounds (hr.mono (by decide)) (by rfl) (pa_cons (pv 0) pa_nil))) (blkOk_by (own := [("_law_name", 3)]) (N := ["_law_making_here", "_law_at", "_law_g", "_law_name", "_law_p", "_law_square", "_law_k"]) (sc := (defScope s_so)) (by decide +kernel)) (fun _ _ _ _ _ => pg_name (i := 3) sc_so.nd rfl (.inl rfl)) (fun _ _ _ _ _ => pts_nil) (fun _ _ _ _ _ => (pe_slice (show SlR _ (rSlT K) from sl_tup) (pe_dget (u1 hr.units) (pv 1) (pv 3) (fun _ _ => rfl)) (po_some pe_int) po_none))))
      (pss_cons (ps_if (pt_cmpR op_eq (pe_ix ix_tup (pv 0) pe_int (fun _ _ => rfl)) pe_str (nomark _))
      (pss_one (ps_ret (pe_cmpR op_eq (pe_ix ix_tup (pe_kn G_det (hr.mono (by decide)) (by rfl) (pa_cons (pe_lc (own := [("_law_p", 4)]) (g := gName 4) (by rfl) sc_so.nd (pi_list (pv 2)) (blkOk_by (own := [("_law_p", 4)]) (N := ["_law_making_here", "_law_at", "_law_g", "_law_name", "_law_p", "_law_square", "_law_k"]) (sc := (defScope s_so)) (by decide +kernel)) (fun _ _ _ _ _ => pg_name (i := 4) sc_so.nd rfl (.inl rfl)) (fun _ _ _ _ _ => pts_nil) (fun _ _ _ _ _ => (pe_lst (pa_cons (pe_ix (show IxR _ (rIxT K) from ix_tup) (pv 4) pe_int (fun _ _ => rfl)) (pa_cons (pe_ix (show IxR _ (rIxT K) from ix_tup) (pv 4) pe_int (fun _ _ => rfl)) (pa_cons (pe_tup (pa_cons pe_int (pa_cons pe_int pa_nil))) pa_nil)))))) pa_nil)) pe_int (fun _ _ => rfl)) pe_int (nomark _))))
      pss_nil)
      (pss_cons (ps_if (pt_cmpR op_eq (pe_ix ix_tup (pv 0) pe_int (fun _ _ => rfl)) pe_str (nomark _))
      (pss_cons (ps_set (i := 5) sc_so.nd rfl (.inr rfl) (pe_lc (own := [("_law_p", 4)]) (g := gName 4) (by rfl) sc_so.nd (pi_list (pv 2)) (blkOk_by (own := [("_law_p", 4)]) (N := ["_law_making_here", "_law_at", "_law_g", "_law_name", "_law_p", "_law_square", "_law_k"]) (sc := (defScope s_so)) (by decide +kernel)) (fun _ _ _ _ _ => pg_name (i := 4) sc_so.nd rfl (.inl rfl)) (fun _ _ _ _ _ => pts_nil) (fun _ _ _ _ _ => (pe_kn G_l_plus (hr.mono (by decide)) (by rfl) (pa_cons (pe_kn G_l_times (hr.mono (by decide)) (by rfl) (pa_cons (pe_ix (show IxR _ (rIxT K) from ix_tup) (pv 4) pe_int (fun _ _ => rfl)) (pa_cons (pe_ix (show IxR _ (rIxT K) from ix_tup) (pv 4) pe_int (fun _ _ => rfl)) pa_nil))) (pa_cons (pe_kn G_l_times (hr.mono (by decide)) (by rfl) (pa_cons (pe_ix (show IxR _ (rIxT K) from ix_tup) (pv 4) pe_int (fun _ _ => rfl)) (pa_cons (pe_ix (show IxR _ (rIxT K) from ix_tup) (pv 4) pe_int (fun _ _ => rfl)) pa_nil))) pa_nil))))))
      (pss_one (ps_ret (pe_cmpR op_eq (pe_ix ix_tup (pe_kn G_det (hr.mono (by decide)) (by rfl) (pa_cons (pe_lc (own := [("_law_k", 6)]) (g := gName 6) (by rfl) sc_so.nd (pi_range1 (by rfl) z_range (pa_cons pe_int pa_nil)) (blkOk_by (own := [("_law_k", 6)]) (N := ["_law_making_here", "_law_at", "_law_g", "_law_name", "_law_p", "_law_square", "_law_k"]) (sc := (defScope s_so)) (by decide +kernel)) (fun _ _ _ _ _ => pg_name (i := 6) sc_so.nd rfl (.inl rfl)) (fun _ _ _ _ _ => pts_nil) (fun _ _ _ _ _ => (pe_lst (pa_cons (pe_ix (show IxR _ (rIxL K) from ix_list) (pv 5) (pv 6) (fun _ _ => rfl)) (pa_cons (pe_ix (show IxR _ (rIxT K) from ix_tup) (pe_ix (show IxR _ (rIxL K) from ix_list) (pv 2) (pv 6) (fun _ _ => rfl)) pe_int (fun _ _ => rfl)) (pa_cons (pe_ix (show IxR _ (rIxT K) from ix_tup) (pe_ix (show IxR _ (rIxL K) from ix_list) (pv 2) (pv 6) (fun _ _ => rfl)) pe_int (fun _ _ => rfl)) (pa_cons (pe_tup (pa_cons pe_int (pa_cons pe_int pa_nil))) pa_nil))))))) pa_nil)) pe_int (fun _ _ => rfl)) pe_int (nomark _)))))
      pss_nil)
      (pss_cons (ps_if (pt_cmpR op_eq (pe_ix ix_tup (pv 0) pe_int (fun _ _ => rfl)) pe_str (nomark _))
      (pss_one (ps_ret (pe_kn G_even (hr.mono (by decide)) (by rfl) (pa_cons (pe_kn G_l_near (hr.mono (by decide)) (by rfl) (pa_cons (pe_ix ix_list (pv 2) pe_int (fun _ _ => rfl)) (pa_cons (pe_ix ix_list (pv 2) pe_int (fun _ _ => rfl)) pa_nil))) (pa_cons (pe_kn G_l_near (hr.mono (by decide)) (by rfl) (pa_cons (pe_ix ix_list (pv 2) pe_int (fun _ _ => rfl)) (pa_cons (pe_ix ix_list (pv 2) pe_int (fun _ _ => rfl)) pa_nil))) pa_nil)))))
      pss_nil)
      (pss_cons (ps_if (pt_cmpR op_eq (pe_ix ix_tup (pv 0) pe_int (fun _ _ => rfl)) pe_str (nomark _))
      (pss_one (ps_ret (pe_cmpR op_eq (pe_op op_mulW (pe_ix ix_tup (pe_ix ix_list (pv 2) pe_int (fun _ _ => rfl)) pe_int (fun _ _ => rfl)) (pe_ix ix_tup (pe_ix ix_list (pv 2) pe_int (fun _ _ => rfl)) pe_int (fun _ _ => rfl))) (pe_op op_mulW (pe_ix ix_tup (pe_ix ix_list (pv 2) pe_int (fun _ _ => rfl)) pe_int (fun _ _ => rfl)) (pe_ix ix_tup (pe_ix ix_list (pv 2) pe_int (fun _ _ => rfl)) pe_int (fun _ _ => rfl))) (nomark _))))
      pss_nil)
      (pss_one (ps_ret (pe_cmpR op_eq (pe_op op_add (pe_op op_mulW (pe_ix ix_tup (pe_ix ix_list (pv 2) pe_int (fun _ _ => rfl)) pe_int (fun _ _ => rfl)) (pe_ix ix_tup (pe_ix ix_list (pv 2) pe_int (fun _ _ => rfl)) pe_int (fun _ _ => rfl))) (pe_op op_mulW (pe_ix ix_tup (pe_ix ix_list (pv 2) pe_int (fun _ _ => rfl)) pe_int (fun _ _ => rfl)) (pe_ix ix_tup (pe_ix ix_list (pv 2) pe_int (fun _ _ => rfl)) pe_int (fun _ _ => rfl)))) pe_int (nomark _))))))))), ?_⟩
    show (_ : TS) _ [some (.ref m), some (.ref D), none, none, none, none, none] _
    obtain ⟨L, okm⟩ := ah.okm
    obtain ⟨⟨so, gg, tx, lng⟩, _⟩ := id okm
    have few4 : ns.length < 64 := by rw [lng]; exact few tx
    repeat walk_at "st"
    refine r_lcM ?_
    repeat walk_at "st"
    refine ⟨m, x, ns, L, rfl, ah.mq.mk, okm, fun G1 H1 s1 n1 e1 => ?_⟩
    have fig := ah.on.fig
    refine lc_mk (xs := ns) (fun _ v z => v = .str z) (fun H v z => Pt K H v (lookT ps z)) (fun _ h => h) (fun k h => h.kp k) (lstOf e1) (paired_strs ns) (by omega) (fun _ => rfl) (fun v z H' hm e g' S k => ?_) fun G gs H2 s2 n2 eG pG => ?_
    · subst e
      have a2 := ah.up (s1.trans g')
      repeat walk_at "st"
      refine r_slR ?_
      repeat walk_at "st"
      refine r_dg ?_
      repeat walk_at "st"
      refine ⟨D, _, rfl, get_told a2.dD a2.tos (a2.inP z hm), ?_⟩
      refine r_partR ?_
      repeat walk_at "st"
      refine r_noP ?_
      exact r_slTell (a2.tos.look (a2.inP z hm)).2.1 (fig _ (List.mem_map_of_mem hm)) fun p H'' s'' hp => k _ _ s'' hp
    have s12 := s1.trans s2
    have ah2 := ah.up s12
    have on31 := ah.on
    replace pG := paired_mapR (f := lookT ps) pG
    obtain ⟨r, tm, tl⟩ := ah2.mq
    have hG : SqL K H2 G gs := lstOf eG
    generalize hon : ns.map (lookT ps) = on at *
    cases hd with
    | @inline x1 y1 x2 y2 x3 y3 =>
      obtain ⟨w1, w2, w3, rfl, _⟩ := map_three hon
      obtain ⟨_, _, _, rfl⟩ : d = .no ∧ True ∧ True ∧ r = [] := by cases d with
        | no => exact ⟨rfl, trivial, trivial, tl.2.2.2⟩
        | fr p q => exact absurd tl.1 (by decide)
        | sh t => exact absurd tl.1 (by decide)
        | ct n => exact absurd tl.1 (by decide)
      replace tm : SqT K H2 m [.str "inline", .str w1, .str w2, .str w3] := tm
      have z12 : ∃ n m k, Jh n x1 y1 ∧ Jh m x2 y2 ∧ Jh k x3 y3 ∧ n + m + k ≤ 3000 := by cases on31 with | p3 j1 j2 j3 l => exact ⟨_, _, _, j1, j2, j3, l⟩
      obtain ⟨k1, k2, k3, j1, j2, j3, lk⟩ := z12
      obtain ⟨u1, u2, u3, rfl, p1, p2, p3⟩ := three_list pG
      repeat walk_at "st"
      refine r_seq ?_
      repeat walk_at "st"
      rw [if_pos (by decide)]
      repeat walk_at "st"
      refine r_lcM ?_
      repeat walk_at "st"
      refine lc_mkD (xs := [.pt x1 y1, .pt x2 y2, .pt x3 y3]) (fun H v t => Pt K H v t ∧ ∃ n x y, t = .pt x y ∧ Jh n x y ∧ n ≤ 3000) (fun D H v t => RowD K D H v (rowIn t)) (fun s h => ⟨h.1.kp (Kp.same s), h.2⟩) (fun d s h => h.mono d s) hG (.cons ⟨p1, _, _, _, rfl, j1, by omega⟩ (.cons ⟨p2, _, _, _, rfl, j2, by omega⟩ (.cons ⟨p3, _, _, _, rfl, j3, by omega⟩ .nil))) (by simp) (fun _ => rfl) (fun v t D2 H' hm px g' hD S k => ?_) fun D2 vs H3 s3 n3 eD pv => ?_
      · obtain ⟨hp, n, x, y, rfl, j, ln⟩ := px
        obtain ⟨a, f1, g1, rfl, ta, hf, hg⟩ : Pq K H' v x y := hp
        repeat walk_at "st"
        refine ⟨sz rfl, fun o1 n1 => ?_⟩
        have t1 := same_new n1 (.tup [.int 1, .int 1])
        have k1 : Rq K (upd H' o1 (.tup [.int 1, .int 1])) (.ref o1) 1 5100 := (Rq.int (tupOf upd_same) ((show Sm 2 (1 : Int) by decide).mono (by decide)) (by decide)).cast rfl
        generalize upd H' o1 (.tup [.int 1, .int 1]) = H5 at *
        repeat walk_at "st"
        refine ⟨sz rfl, fun o2 n2 => ?_⟩
        have t2 := same_new n2 (.lst [f1, g1, .ref o1])
        refine k _ _ (t1.trans t2) ⟨o2, _, rfl, fun z => ?_, upd_same, .cons (((hf.up t1).up t2).rq (j.x.mono (by omega))) (.cons (((hg.up t1).up t2).rq (j.y.mono (by omega))) (.cons (k1.up t2) .nil))⟩
        obtain ⟨vs, hvs⟩ := hD
        rw [z, t1 _ _ hvs] at n2
        cases n2
      have pv2 : Paired (RowAt K H3) vs [[x1, y1, 1], [x2, y2, 1], [x3, y3, 1]] := paired_mapR (f := rowIn) (Paired.mapP pv fun _ _ h => h.at)
      obtain ⟨D3, h3⟩ := rowH_in j1
      obtain ⟨D4, h4⟩ := rowH_in j2
      obtain ⟨D5, h5⟩ := rowH_in j3
      repeat walk_at "st"
      refine ⟨3, by decide, by decide, D2, vs, _, _, _, rfl, lstOf eD, pv2, rfl, by simp, .cons h3 (.cons h4 (.cons h5 .nil)), by omega, fun rr H4 s4 e4 => ?_⟩
      rw [det_in] at e4
      repeat walk_at "st"
      refine r_ixR0 e4 fun tt hz => ?_
      repeat walk_at "st"
      rw [show decide (tt = 0) = decide ((x2 - x1) * (y3 - y1) = (y2 - y1) * (x3 - x1)) from decide_eq_decide.mpr (hz.trans ⟨fun z => by grind, fun z => by grind⟩)]
      exact q _ (s12.trans (s3.trans s4))
    | @round x1 y1 x2 y2 x3 y3 x4 y4 b e =>
      obtain ⟨w1, w2, w3, w4, rfl, _⟩ := map_four hon
      obtain ⟨_, _, _, rfl⟩ : d = .no ∧ True ∧ True ∧ r = [] := by cases d with
        | no => exact ⟨rfl, trivial, trivial, tl.2.2.2⟩
        | fr p q => exact absurd tl.1 (by decide)
        | sh t => exact absurd tl.1 (by decide)
        | ct n => exact absurd tl.1 (by decide)
      replace tm : SqT K H2 m [.str "round", .str w1, .str w2, .str w3, .str w4] := tm
      have z12 : ∃ n m k j, Jh n x1 y1 ∧ Jh m x2 y2 ∧ Jh k x3 y3 ∧ Jh j x4 y4 ∧ 2 * (n + m + k + j) ≤ 3000 ∧ n ≤ 1270 ∧ m ≤ 1270 ∧ k ≤ 1270 ∧ j ≤ 1270 := by cases on31 with | p4 h j1 j2 j3 j4 l l1 l2 l3 l4 => exact ⟨_, _, _, _, j1, j2, j3, j4, l, l1, l2, l3, l4⟩
      obtain ⟨k1, k2, k3, k4, j1, j2, j3, j4, lk, b1, b2, b3, b4⟩ := z12
      obtain ⟨u1, u2, u3, u4, rfl, p1, p2, p3, p4⟩ := four_list pG
      repeat walk_at "st"
      refine r_seq ?_
      repeat walk_at "st"
      rw [if_neg (by decide)]
      repeat walk_at "st"
      refine r_seq ?_
      repeat walk_at "st"
      rw [if_pos (by decide)]
      repeat walk_at "st"
      refine r_lcM ?_
      repeat walk_at "st"
      refine lc_mkD (xs := [.pt x1 y1, .pt x2 y2, .pt x3 y3, .pt x4 y4]) (fun H v t => Pt K H v t ∧ ∃ n x y, t = .pt x y ∧ Jh n x y ∧ n ≤ 1270) (fun D H v t => Rq K H v (sqT t) 5100) (fun s h => ⟨h.1.kp (Kp.same s), h.2⟩) (fun d s h => h.but d s) hG (.cons ⟨p1, _, _, _, rfl, j1, b1⟩ (.cons ⟨p2, _, _, _, rfl, j2, b2⟩ (.cons ⟨p3, _, _, _, rfl, j3, b3⟩ (.cons ⟨p4, _, _, _, rfl, j4, b4⟩ .nil)))) (by simp) (fun _ => rfl) (fun v t D2 H' hm px g' hD S k => ?_) fun D2 vs H3 s3 n3 eD pv => ?_
      · obtain ⟨hp, n, x, y, rfl, j, ln⟩ := px
        obtain ⟨a, f1, g1, rfl, ta, hf, hg⟩ : Pq K H' v x y := hp
        repeat walk_at "st"
        refine ⟨f1, f1, _, _, _, _, rfl, hf.rq j.x, hf.rq j.x, by omega, by omega, fun r1 H4 t1 e1 => ?_⟩
        have ta1 := t1.tp ta
        repeat walk_at "st"
        refine ⟨g1, g1, _, _, _, _, rfl, (hg.up t1).rq j.y, (hg.up t1).rq j.y, by omega, by omega, fun r2 H5 t2 e2 => ?_⟩
        repeat walk_at "st"
        refine ⟨r1, r2, _, _, _, _, rfl, e1.up t2, e2, by omega, by omega, fun r3 H6 t3 e3 => ?_⟩
        exact k _ _ (t1.trans (t2.trans t3)) (e3.mono (by omega))
      obtain ⟨v1, v2, v3, v4, rfl, q1, q2, q3, q4⟩ := four_list pv
      have hG3 := s3.seq hG
      have s13 := s12.trans s3
      obtain ⟨a1, f1, g1, rfl, ta1, hf1, hg1⟩ : Pq K H3 u1 x1 y1 := p1.kp (Kp.same s3)
      obtain ⟨a2, f2, g2, rfl, ta2, hf2, hg2⟩ : Pq K H3 u2 x2 y2 := p2.kp (Kp.same s3)
      obtain ⟨a3, f3, g3, rfl, ta3, hf3, hg3⟩ : Pq K H3 u3 x3 y3 := p3.kp (Kp.same s3)
      obtain ⟨a4, f4, g4, rfl, ta4, hf4, hg4⟩ : Pq K H3 u4 x4 y4 := p4.kp (Kp.same s3)
      repeat walk_at "st"
      refine lc_rngA (n := 4) (z := 4) (fun D H v i => RowD K D H v (rowRd (List.getD [Tell.pt x1 y1, Tell.pt x2 y2, Tell.pt x3 y3, Tell.pt x4 y4] i Tell.kept))) (fun d s h => h.mono d s) rfl (by decide) (by decide) ?ht (by decide) ?hs (fun i D4 H' hi g' hD S k => ?_) fun D4 vs H4 s4 n4 eD4 pv4 => ?_
      case hs => exact fun _ => rfl
      case ht =>
        intro S k
        repeat walk_at "st"
        exact k
      · have hS' : SqL K H' D2 [v1, v2, v3, v4] := g'.seq (lstOf eD)
        have hG' := g'.seq hG3
        obtain ⟨a, f0, g0, x, y, sv, n, ea, ev, et, ta, hf, hg, sq, j, ln⟩ : ∃ (a : Addr) (f0 g0 : V) (x y : Rat) (sv : V) (n : Nat), [V.ref a1, .ref a2, .ref a3, .ref a4][i]? = some (.ref a) ∧ [v1, v2, v3, v4][i]? = some sv ∧ [Tell.pt x1 y1, .pt x2 y2, .pt x3 y3, .pt x4 y4].getD i .kept = .pt x y ∧ SqT K H' a [f0, g0] ∧ Fq K H' f0 x ∧ Fq K H' g0 y ∧ Rq K H' sv (x * x + y * y) 5100 ∧ Jh n x y ∧ n ≤ 1270 := by
          match i, hi with
          | 0, _ => exact ⟨a1, f1, g1, x1, y1, v1, k1, rfl, rfl, rfl, g'.tp ta1, hf1.up g', hg1.up g', q1.up g', j1, b1⟩
          | 1, _ => exact ⟨a2, f2, g2, x2, y2, v2, k2, rfl, rfl, rfl, g'.tp ta2, hf2.up g', hg2.up g', q2.up g', j2, b2⟩
          | 2, _ => exact ⟨a3, f3, g3, x3, y3, v3, k3, rfl, rfl, rfl, g'.tp ta3, hf3.up g', hg3.up g', q3.up g', j3, b3⟩
          | 3, _ => exact ⟨a4, f4, g4, x4, y4, v4, k4, rfl, rfl, rfl, g'.tp ta4, hf4.up g', hg4.up g', q4.up g', j4, b4⟩
        rw [et] at k
        repeat walk_at "st"
        refine r_ixL (v := sv) hS' (by rw [Int.zero_add]; exact atI_nat ev) ?_
        repeat walk_at "st"
        refine r_ixL (v := .ref a) hG' (by rw [Int.zero_add]; exact atI_nat ea) ?_
        repeat walk_at "st"
        refine r_ixL (v := .ref a) hG' (by rw [Int.zero_add]; exact atI_nat ea) ?_
        repeat walk_at "st"
        refine ⟨sz rfl, fun o1 n1 => ?_⟩
        have t1 := same_new n1 (.tup [.int 1, .int 1])
        have k1 : Rq K (upd H' o1 (.tup [.int 1, .int 1])) (.ref o1) 1 5100 := (Rq.int (tupOf upd_same) ((show Sm 2 (1 : Int) by decide).mono (by decide)) (by decide)).cast rfl
        generalize upd H' o1 (.tup [.int 1, .int 1]) = H5 at *
        repeat walk_at "st"
        refine ⟨sz rfl, fun o2 n2 => ?_⟩
        have t2 := same_new n2 (.lst [sv, f0, g0, .ref o1])
        refine k _ _ (t1.trans t2) ⟨o2, _, rfl, fun z => ?_, upd_same, .cons ((sq.up t1).up t2) (.cons (((hf.up t1).up t2).rq (j.x.mono (by omega))) (.cons (((hg.up t1).up t2).rq (j.y.mono (by omega))) (.cons (k1.up t2) .nil)))⟩
        obtain ⟨vs, hvs⟩ := hD
        rw [z, t1 _ _ hvs] at n2
        cases n2
      have pv5 : Paired (RowAt K H4) vs [[x1 * x1 + y1 * y1, x1, y1, 1], [x2 * x2 + y2 * y2, x2, y2, 1], [x3 * x3 + y3 * y3, x3, y3, 1], [x4 * x4 + y4 * y4, x4, y4, 1]] := paired_mapR (f := fun i => rowRd ([Tell.pt x1 y1, .pt x2 y2, .pt x3 y3, .pt x4 y4].getD i .kept)) (m := [0, 1, 2, 3]) (Paired.mapP pv4 fun _ _ h => h.at)
      obtain ⟨E1, h1⟩ := rowH_rd j1
      obtain ⟨E2, h2⟩ := rowH_rd j2
      obtain ⟨E3, h3⟩ := rowH_rd j3
      obtain ⟨E4, h4⟩ := rowH_rd j4
      repeat walk_at "st"
      refine ⟨4, by decide, by decide, D4, vs, _, _, _, rfl, lstOf eD4, pv5, rfl, by simp, .cons h1 (.cons h2 (.cons h3 (.cons h4 .nil))), by omega, fun rr H5 s5 e5 => ?_⟩
      rw [det_rd] at e5
      repeat walk_at "st"
      refine r_ixR0 e5 fun tt hz => ?_
      repeat walk_at "st"
      rw [show decide (tt = 0) = b from by
        cases b with
        | true => exact decide_eq_true (hz.mpr (e.mp rfl))
        | false => exact decide_eq_false fun z => Bool.noConfusion (e.mpr (hz.mp z))]
      exact q _ (s13.trans (s4.trans s5))
    | @alike x1 y1 x2 y2 x3 y3 x4 y4 b e =>
      obtain ⟨w1, w2, w3, w4, rfl, _⟩ := map_four hon
      obtain ⟨_, _, _, rfl⟩ : d = .no ∧ True ∧ True ∧ r = [] := by cases d with
        | no => exact ⟨rfl, trivial, trivial, tl.2.2.2⟩
        | fr p q => exact absurd tl.1 (by decide)
        | sh t => exact absurd tl.1 (by decide)
        | ct n => exact absurd tl.1 (by decide)
      replace tm : SqT K H2 m [.str "alike", .str w1, .str w2, .str w3, .str w4] := tm
      have z12 : ∃ n m k j, Jh n x1 y1 ∧ Jh m x2 y2 ∧ Jh k x3 y3 ∧ Jh j x4 y4 ∧ 2 * (n + m + k + j) ≤ 3000 := by cases on31 with | p4 h j1 j2 j3 j4 l _ _ _ _ => exact ⟨_, _, _, _, j1, j2, j3, j4, l⟩
      obtain ⟨k1, k2, k3, k4, j1, j2, j3, j4, lk⟩ := z12
      obtain ⟨u1, u2, u3, u4, rfl, p1, p2, p3, p4⟩ := four_list pG
      repeat walk_at "st"
      refine r_seq ?_
      repeat walk_at "st"
      rw [if_neg (by decide)]
      repeat walk_at "st"
      refine r_seq ?_
      repeat walk_at "st"
      rw [if_neg (by decide)]
      repeat walk_at "st"
      refine r_seq ?_
      repeat walk_at "st"
      rw [if_pos (by decide)]
      repeat walk_at "st"
      refine ⟨u1, u2, x1, y1, x2, y2, k1, k2, rfl, p1, p2, j1.x, j1.y, j2.x, j2.y, by omega, fun r1 H3 s3 e3 => ?_⟩
      have hG3 := s3.seq hG
      repeat walk_at "st"
      refine ⟨u3, u4, x3, y3, x4, y4, k3, k4, rfl, p3.kp (Kp.same s3), p4.kp (Kp.same s3), j3.x, j3.y, j4.x, j4.y, by omega, fun r2 H4 s4 e4 => ?_⟩
      repeat walk_at "st"
      refine ⟨r1, r2, _, _, _, _, rfl, e3.up s4, e4, by omega, by omega, ?_⟩
      rw [show decide ((x1 - x2) * (x1 - x2) + (y1 - y2) * (y1 - y2) = (x3 - x4) * (x3 - x4) + (y3 - y4) * (y3 - y4)) = b from by
        cases b with
        | true => exact decide_eq_true (e.mp rfl)
        | false => exact decide_eq_false fun z => Bool.noConfusion (e.mpr z)]
      exact q _ (s12.trans (s3.trans s4))
    | @beside a b c a2 b2 c2 =>
      obtain ⟨w1, w2, rfl, _⟩ := map_two hon
      obtain ⟨_, _, _, rfl⟩ : d = .no ∧ True ∧ True ∧ r = [] := by cases d with
        | no => exact ⟨rfl, trivial, trivial, tl.2.2.2⟩
        | fr p q => exact absurd tl.1 (by decide)
        | sh t => exact absurd tl.1 (by decide)
        | ct n => exact absurd tl.1 (by decide)
      replace tm : SqT K H2 m [.str "beside", .str w1, .str w2] := tm
      have z12 : ∃ n m, Tb n (.ln a b c) ∧ Tb m (.ln a2 b2 c2) ∧ n ≤ 3000 ∧ m ≤ 3000 := by cases on31 with | ll h j1 j2 l => exact ⟨_, _, j1, j2, by omega, by omega⟩
      obtain ⟨k1, k2, ⟨L1, s1', s2', s3'⟩, ⟨L2, s4', s5', s6'⟩, l1, l2⟩ := z12
      replace s1' := s1'.mono l1
      replace s2' := s2'.mono l1
      replace s4' := s4'.mono l2
      replace s5' := s5'.mono l2
      obtain ⟨u1, u2, rfl, p1, p2⟩ := two_list pG
      obtain ⟨a1, rfl, ta1⟩ : Lq K H2 u1 a b c := p1
      obtain ⟨a2', rfl, ta2⟩ : Lq K H2 u2 a2 b2 c2 := p2
      repeat walk_at "st"
      refine r_seq ?_
      repeat walk_at "st"
      rw [if_neg (by decide)]
      repeat walk_at "st"
      refine r_seq ?_
      repeat walk_at "st"
      rw [if_neg (by decide)]
      repeat walk_at "st"
      refine r_seq ?_
      repeat walk_at "st"
      rw [if_neg (by decide)]
      repeat walk_at "st"
      refine r_seq ?_
      repeat walk_at "st"
      rw [if_pos (by decide)]
      repeat walk_at "st"
      exact q _ s12
    | @square a b c a2 b2 c2 =>
      obtain ⟨w1, w2, rfl, _⟩ := map_two hon
      obtain ⟨_, _, _, rfl⟩ : d = .no ∧ True ∧ True ∧ r = [] := by cases d with
        | no => exact ⟨rfl, trivial, trivial, tl.2.2.2⟩
        | fr p q => exact absurd tl.1 (by decide)
        | sh t => exact absurd tl.1 (by decide)
        | ct n => exact absurd tl.1 (by decide)
      replace tm : SqT K H2 m [.str "square", .str w1, .str w2] := tm
      have z12 : ∃ n m, Tb n (.ln a b c) ∧ Tb m (.ln a2 b2 c2) ∧ n ≤ 3000 ∧ m ≤ 3000 := by cases on31 with | ll h j1 j2 l => exact ⟨_, _, j1, j2, by omega, by omega⟩
      obtain ⟨k1, k2, ⟨L1, s1', s2', s3'⟩, ⟨L2, s4', s5', s6'⟩, l1, l2⟩ := z12
      replace s1' := s1'.mono l1
      replace s2' := s2'.mono l1
      replace s4' := s4'.mono l2
      replace s5' := s5'.mono l2
      obtain ⟨u1, u2, rfl, p1, p2⟩ := two_list pG
      obtain ⟨a1, rfl, ta1⟩ : Lq K H2 u1 a b c := p1
      obtain ⟨a2', rfl, ta2⟩ : Lq K H2 u2 a2 b2 c2 := p2
      repeat walk_at "st"
      refine r_seq ?_
      repeat walk_at "st"
      rw [if_neg (by decide)]
      repeat walk_at "st"
      refine r_seq ?_
      repeat walk_at "st"
      rw [if_neg (by decide)]
      repeat walk_at "st"
      refine r_seq ?_
      repeat walk_at "st"
      rw [if_neg (by decide)]
      repeat walk_at "st"
      refine r_seq ?_
      repeat walk_at "st"
      rw [if_neg (by decide)]
      repeat walk_at "st"
      exact q _ s12
  ) only [↓Mb.dischW]
theorem ok_l_root (F : Fn K mg "_law_root" s_l_root) : Kn P w K mg base 1 "_law_root" ["_law_number"] spIsqrt := by
  refine Mb.ofW ?_
  simp (discharger := with_unfolding_all
    refine F.kn sc_l_root (fun vs H Q E h => ?_) (fun f cdv A outer s H vs Q E hr h => ?_) (fun _ _ _ _ _ _ us hl => match us, hl with | [_], _ => rfl)
    · obtain ⟨n, rfl, _⟩ := h
      rfl
    obtain ⟨n, rfl, n0, sn, q⟩ := h
    refine ⟨_, (pss_cons (ps_set (i := 1) sc_l_root.nd rfl (.inl rfl) pe_int)
      (pss_cons (ps_set (i := 2) sc_l_root.nd rfl (.inl rfl) (pe_op op_add (pv 0) pe_int))
      (pss_cons (ps_while PassesOwn.never (pt_cmpR op_gt (pe_op op_sub (pv 2) (pv 1)) pe_int (nomark _))
      (pss_cons (ps_set (i := 3) sc_l_root.nd rfl (.inl rfl) (pe_op op_fdivW (pe_op op_add (pv 1) (pv 2)) pe_int))
      (pss_one (ps_if (pt_cmpR op_le (pe_op op_mulW (pv 3) (pv 3)) (pv 0) (nomark _))
      (pss_one (ps_set (i := 1) sc_l_root.nd rfl (.inl rfl) (pv 3)))
      (pss_one (ps_set (i := 2) sc_l_root.nd rfl (.inl rfl) (pv 3)))))))
      (pss_one (ps_ret (pv 1)))))), ?_⟩
    show (_ : TS) _ [some (.int n), none, none, none] _
    repeat walk_at "st"
    refine r_seq ?_
    refine r_while (fun σ H' => H' = H ∧ ∃ (l h : Int) (y : Option V), σ = [some (.int n), some (.int l), some (.int h), y] ∧ 0 ≤ l ∧ l < h ∧ h ≤ n + 1 ∧ l * l ≤ n ∧ n < h * h) (fun σ _ => match σ with | [_, some (.int l), some (.int h), _] => (h - l).toNat | _ => 0) ?_ ?_
    · refine ⟨rfl, _, _, _, rfl, by decide, by omega, by omega, by omega, ?_⟩
      have := le_mul_self (show 0 ≤ n + 1 by omega)
      omega
    · rintro σ H' ⟨rfl, l, h, y, rfl, l0, lh, hn, hl, hh⟩
      repeat walk_at "st"
      refine r_ite (fun c => ?_) (fun c => ?_)
      · refine r_turn ?_
        repeat walk_at "st"
        have m1 : l < (l + h) / 2 := by omega
        have m2 : (l + h) / 2 < h := by omega
        generalize (l + h) / 2 = m at m1 m2
        have sm : Sm 16001 m := (sn.mono (by decide)).le (by omega)
        repeat walk_at "st"
        refine r_ite (fun c => ?_) (fun c => ?_)
        · repeat walk_at "st"
          refine ⟨⟨rfl, _, _, _, rfl, by omega, m2, hn, c, hh⟩, ?_⟩
          show (h - m).toNat < (h - l).toNat
          omega
        · repeat walk_at "st"
          refine ⟨⟨rfl, _, _, _, rfl, l0, m1, by omega, hl, by omega⟩, ?_⟩
          show (m - l).toNat < (h - l).toNat
          omega
      · repeat walk_at "st"
        refine q l l0 hl fun k k0 hk => ?_
        apply Int.not_lt.mp
        intro z
        have e : h = l + 1 := by omega
        subst e
        by_cases y : k = l + 1
        · subst y; omega
        · have := mul_self_lt (show 0 ≤ l + 1 by omega) (show l + 1 < k by omega)
          omega
  ) only [↓Mb.dischW]
theorem ok_fail (F : Fn K mg "_law_fail" s_fail) (G_low : Kn P w K mg base 2 "_law_low" ["_law_top", "_law_bottom"] spLowX) (G_l_less : Kn P w K mg base 1 "_law_less" ["_law_one", "_law_other"] (spR2 K (· - ·))) (G_l_times : Kn P w K mg base 1 "_law_times" ["_law_one", "_law_other"] (spR2 K (· * ·))) (G_l_root : Kn P w K mg base 1 "_law_root" ["_law_number"] spIsqrt) (G_l_grounds : Kn P w K mg base 1 "_law_grounds" ["_law_making_here"] (spGroundsL K)) (G_parts : Kn P w K mg base 4 "_law_parts" ["_law_u", "_law_ring"] (spParts31 K)) (z_int : mg "int" = none) : Kn P w K mg base 5 "_law_fail" ["_law_making_here", "_law_at"] (spFail31 K) := by
  refine Mb.ofW ?_
  simp (discharger := with_unfolding_all
    refine F.kn sc_fail (fun vs H Q E h => ?_) (fun f cdv A outer s H vs Q E hr h => ?_) (fun _ _ _ _ _ _ us hl => match us, hl with | [_, _], _ => rfl)
    · obtain ⟨m, D, x, ns, d, tv, ps, rfl, _⟩ := h
      rfl
    obtain ⟨m, D, x, ns, d, tv, ps, rfl, ah, q⟩ := h
    refine ⟨_, (pss_cons (ps_setLc (i := 2) (own := [("_law_name", 3)]) (g := gName 3) (by rfl) sc_fail.nd rfl rfl (sw_true rfl rfl rfl (by decide +kernel)) (pi_list (pe_kn G_l_grounds (hr.mono (by decide)) (by rfl) (pa_cons (pv 0) pa_nil))) (blkOk_by (own := [("_law_name", 3)]) (N := ["_law_making_here", "_law_at", "_law_g", "_law_name", "_law_a", "_law_b", "_law_e", "_law_n", "_law_d"]) (sc := (defScope s_fail)) (by decide +kernel)) (fun _ _ _ _ _ => pg_name (i := 3) sc_fail.nd rfl (.inl rfl)) (fun _ _ _ _ _ => pts_nil) (fun _ _ _ _ _ => (pe_dget (u1 hr.units) (pv 1) (pv 3) (fun _ _ => rfl))))
      (pss_cons (ps_if (PW.pt (pw_or (pt_cmpR op_eq (pe_ix ix_tup (pv 0) pe_int (fun _ _ => rfl)) pe_str (nomark _)) (pw_or1 (pt_cmpR op_eq (pe_ix ix_tup (pv 0) pe_int (fun _ _ => rfl)) pe_str (nomark _)))))
      (pss_one (ps_ret (pe_ix ix_list (pe_lst (pa_cons pe_str (pa_cons pe_str pa_nil))) (pe_callTy call_int1 (by rfl) z_int (by decide +kernel) (pa_cons (pe_cmpR (op_eqD hr.units) (pe_ix ix_list (pv 2) pe_int (fun _ _ => rfl)) (pe_ix ix_list (pv 2) pe_int (fun _ _ => rfl)) (nomark _)) pa_nil)) (fun _ _ => rfl))))
      pss_nil)
      (pss_cons (ps_if (pt_cmpR op_eq (pe_ix ix_tup (pv 0) pe_int (fun _ _ => rfl)) pe_str (nomark _))
      (pss_one (ps_ret (pe_ix ix_list (pe_lst (pa_cons pe_str (pa_cons pe_str pa_nil))) (pe_callTy call_int1 (by rfl) z_int (by decide +kernel) (pa_cons (pe_cmpR op_eq (pe_op op_mulW (pe_ix ix_tup (pe_ix ix_list (pv 2) pe_int (fun _ _ => rfl)) pe_int (fun _ _ => rfl)) (pe_ix ix_tup (pe_ix ix_list (pv 2) pe_int (fun _ _ => rfl)) pe_int (fun _ _ => rfl))) (pe_op op_mulW (pe_ix ix_tup (pe_ix ix_list (pv 2) pe_int (fun _ _ => rfl)) pe_int (fun _ _ => rfl)) (pe_ix ix_tup (pe_ix ix_list (pv 2) pe_int (fun _ _ => rfl)) pe_int (fun _ _ => rfl))) (nomark _)) pa_nil)) (fun _ _ => rfl))))
      pss_nil)
      (pss_cons (ps_if (pt_cmpR op_ne (pe_ix ix_tup (pv 0) pe_int (fun _ _ => rfl)) pe_str (nomark _))
      (pss_one (ps_ret pe_str))
      pss_nil)
      (pss_cons (ps_if (PW.pt (pw_and (pt_cmpR op_eq (pe_ix ix_tup (pe_ix ix_list (pv 2) pe_int (fun _ _ => rfl)) pe_int (fun _ _ => rfl)) pe_str (nomark _)) (pw_and1 (pt_cmpR (op_eqD hr.units) (pe_slice sl_tup (pe_ix ix_list (pv 2) pe_int (fun _ _ => rfl)) (po_some pe_int) (po_some pe_int)) (pe_slice sl_tup (pe_ix ix_list (pv 2) pe_int (fun _ _ => rfl)) (po_some pe_int) (po_some pe_int)) (nomark _)))))
      (pss_one (ps_ret pe_str))
      pss_nil)
      (pss_cons (ps_asg (pe_kn G_parts (hr.mono (by decide)) (by rfl) (pa_cons (pe_ix ix_list (pv 2) pe_int (fun _ _ => rfl)) (pa_cons (pe_ix ix_list (pv 2) pe_int (fun _ _ => rfl)) pa_nil))) (pg_tup (by rfl) (pgs_cons (pg_name (i := 4) sc_fail.nd rfl (.inl rfl)) (pgs_cons (pg_name (i := 5) sc_fail.nd rfl (.inl rfl)) (pgs_cons (pg_name (i := 6) sc_fail.nd rfl (.inl rfl)) (pgs_cons (pg_name (i := 7) sc_fail.nd rfl (.inl rfl)) pgs_nil))))))
      (pss_cons (ps_set (i := 8) sc_fail.nd rfl (.inl rfl) (pe_kn G_l_less (hr.mono (by decide)) (by rfl) (pa_cons (pe_kn G_l_times (hr.mono (by decide)) (by rfl) (pa_cons (pe_ix ix_tup (pe_ix ix_list (pv 2) pe_int (fun _ _ => rfl)) pe_int (fun _ _ => rfl)) (pa_cons (pv 7) pa_nil))) (pa_cons (pe_kn G_l_times (hr.mono (by decide)) (by rfl) (pa_cons (pv 6) (pa_cons (pv 6) pa_nil))) pa_nil))))
      (pss_cons (ps_set (i := 8) sc_fail.nd rfl (.inl rfl) (pe_kn G_low (hr.mono (by decide)) (by rfl) (pa_cons (pe_ix ix_tup (pv 8) pe_int (fun _ _ => rfl)) (pa_cons (pe_ix ix_tup (pv 8) pe_int (fun _ _ => rfl)) pa_nil))))
      (pss_cons (ps_if (pt_cmpR op_lt (pe_ix ix_tup (pv 8) pe_int (fun _ _ => rfl)) pe_int (nomark _))
      (pss_one (ps_ret pe_str))
      pss_nil)
      (pss_cons (ps_if (PW.pt (pw_and (pt_cmpR op_eq (pe_op op_powX (pe_kn G_l_root (hr.mono (by decide)) (by rfl) (pa_cons (pe_ix ix_tup (pv 8) pe_int (fun _ _ => rfl)) pa_nil)) pe_int) (pe_ix ix_tup (pv 8) pe_int (fun _ _ => rfl)) (nomark _)) (pw_and1 (pt_cmpR op_eq (pe_op op_powX (pe_kn G_l_root (hr.mono (by decide)) (by rfl) (pa_cons (pe_ix ix_tup (pv 8) pe_int (fun _ _ => rfl)) pa_nil)) pe_int) (pe_ix ix_tup (pv 8) pe_int (fun _ _ => rfl)) (nomark _)))))
      (pss_one (ps_ret pe_str))
      pss_nil)
      (pss_one (ps_ret pe_str)))))))))))), ?_⟩
    show (_ : TS) _ [some (.ref m), some (.ref D), none, none, none, none, none, none, none] _
    obtain ⟨L, okm⟩ := ah.okm
    obtain ⟨⟨so, gg, tx, lng⟩, _⟩ := id okm
    have few4 : ns.length < 64 := by rw [lng]; exact few tx
    repeat walk_at "st"
    refine r_lcM ?_
    repeat walk_at "st"
    refine ⟨m, x, ns, L, rfl, ah.mq.mk, okm, fun G1 H1 s1 n1 e1 => ?_⟩
    refine lc_map (fun v => match v with | .str z => lookV tv z | _ => .non) (lstOf e1) (by rw [List.length_map]; omega) (fun _ => rfl) (fun i v H' hv g' R k => ?_) fun G H2 s2 n2 e2 => ?_
    · rw [List.getElem?_map] at hv
      obtain ⟨y, hy, rfl⟩ := Option.map_eq_some_iff.mp hv
      have a2 := ah.up (s1.trans g')
      refine r_dg ?_
      repeat walk_at "st"
      refine ⟨D, _, rfl, get_told a2.dD a2.tos (a2.inP y (List.mem_of_getElem? hy)), ?_⟩
      exact k _ (Same.refl _)
    have s12 := s1.trans s2
    have ah2 := ah.up s12
    have on31 := ah.on
    have nog := ah.on.nog
    rw [List.map_map] at e2
    replace e2 : H2 G = some (.lst (ns.map (lookV tv))) := e2
    have prT : Paired (Tq K H2) (ns.map (lookV tv)) (ns.map (lookT ps)) := paired_maps ns fun z hz => (ah2.tos.look (ah2.inP z hz)).2.1
    obtain ⟨xs, tm⟩ : ∃ xs, SqT K H2 m (.str x :: xs) := by obtain ⟨r, tm, _⟩ := ah2.mq; exact ⟨_, tm⟩
    have hG : SqL K H2 G (ns.map (lookV tv)) := lstOf e2
    have tl := ah2.mq
    have nr := ah.nr
    generalize hon : ns.map (lookT ps) = on at *
    generalize hgs : ns.map (lookV tv) = gs at *
    clear e1 e2 s1 s2 n1 n2 ah ah2
    repeat walk_at "st"
    cases on31 with
    | free =>
      refine r_seq ?_
      repeat walk_at "st"
      refine r_ixT0 tm ?_
      repeat walk_at "st"
      rw [if_neg (by decide)]
      repeat walk_at "st"
      refine r_ixT0 tm ?_
      repeat walk_at "st"
      rw [if_neg (by decide)]
      repeat walk_at "st"
      refine r_seq ?_
      repeat walk_at "st"
      refine r_ixT0 tm ?_
      repeat walk_at "st"
      rw [if_neg (by decide)]
      repeat walk_at "st"
      refine r_seq ?_
      repeat walk_at "st"
      refine r_ixT0 tm ?_
      repeat walk_at "st"
      refine r_neX ?_
      repeat walk_at "st"
      rw [if_pos (by decide)]
      repeat walk_at "st"
      exact q "" _ s12 fun ord z t h => .inl ⟨rfl, tel_stands nog (by decide) h⟩
    | @pp _ x1 y1 x2 y2 n m h j1 j2 l =>
      obtain ⟨v1, v2, rfl, p1, p2⟩ := two_list prT
      simp only [List.mem_cons, List.not_mem_nil, or_false] at h
      rcases h with rfl | rfl | rfl | rfl | rfl | rfl
      · skip
        refine r_seq ?_
        repeat walk_at "st"
        refine r_ixT0 tm ?_
        repeat walk_at "st"
        rw [if_neg (by decide)]
        repeat walk_at "st"
        refine r_ixT0 tm ?_
        repeat walk_at "st"
        rw [if_neg (by decide)]
        repeat walk_at "st"
        refine r_seq ?_
        repeat walk_at "st"
        refine r_ixT0 tm ?_
        repeat walk_at "st"
        rw [if_neg (by decide)]
        repeat walk_at "st"
        refine r_seq ?_
        repeat walk_at "st"
        refine r_ixT0 tm ?_
        repeat walk_at "st"
        refine r_neX ?_
        repeat walk_at "st"
        rw [if_pos (by decide)]
        repeat walk_at "st"
        exact q "" _ s12 fun ord z t h => .inl ⟨rfl, tel_stands nog (by decide) h⟩
      · skip
        refine r_seq ?_
        repeat walk_at "st"
        refine r_ixT0 tm ?_
        repeat walk_at "st"
        rw [if_neg (by decide)]
        repeat walk_at "st"
        refine r_ixT0 tm ?_
        repeat walk_at "st"
        rw [if_neg (by decide)]
        repeat walk_at "st"
        refine r_seq ?_
        repeat walk_at "st"
        refine r_ixT0 tm ?_
        repeat walk_at "st"
        rw [if_neg (by decide)]
        repeat walk_at "st"
        refine r_seq ?_
        repeat walk_at "st"
        refine r_ixT0 tm ?_
        repeat walk_at "st"
        refine r_neX ?_
        repeat walk_at "st"
        rw [if_pos (by decide)]
        repeat walk_at "st"
        exact q "" _ s12 fun ord z t h => .inl ⟨rfl, tel_stands nog (by decide) h⟩
      · skip
        refine r_seq ?_
        repeat walk_at "st"
        refine r_ixT0 tm ?_
        repeat walk_at "st"
        rw [if_neg (by decide)]
        repeat walk_at "st"
        refine r_ixT0 tm ?_
        repeat walk_at "st"
        rw [if_neg (by decide)]
        repeat walk_at "st"
        refine r_seq ?_
        repeat walk_at "st"
        refine r_ixT0 tm ?_
        repeat walk_at "st"
        rw [if_neg (by decide)]
        repeat walk_at "st"
        refine r_seq ?_
        repeat walk_at "st"
        refine r_ixT0 tm ?_
        repeat walk_at "st"
        refine r_neX ?_
        repeat walk_at "st"
        rw [if_pos (by decide)]
        repeat walk_at "st"
        exact q "" _ s12 fun ord z t h => .inl ⟨rfl, tel_stands nog (by decide) h⟩
      · skip
        refine r_seq ?_
        repeat walk_at "st"
        refine r_ixT0 tm ?_
        repeat walk_at "st"
        rw [if_neg (by decide)]
        repeat walk_at "st"
        refine r_ixT0 tm ?_
        repeat walk_at "st"
        rw [if_neg (by decide)]
        repeat walk_at "st"
        refine r_seq ?_
        repeat walk_at "st"
        refine r_ixT0 tm ?_
        repeat walk_at "st"
        rw [if_neg (by decide)]
        repeat walk_at "st"
        refine r_seq ?_
        repeat walk_at "st"
        refine r_ixT0 tm ?_
        repeat walk_at "st"
        refine r_neX ?_
        repeat walk_at "st"
        rw [if_pos (by decide)]
        repeat walk_at "st"
        exact q "" _ s12 fun ord z t h => .inl ⟨rfl, tel_stands nog (by decide) h⟩
      · skip
        refine r_seq ?_
        repeat walk_at "st"
        refine r_ixT0 tm ?_
        repeat walk_at "st"
        rw [if_pos (by decide)]
        repeat walk_at "st"
        refine ⟨sz rfl, fun o no => ?_⟩
        have gl := same_new no (.lst [V.str "", .str "same"])
        have el : SqL K (upd H2 o (.lst [V.str "", .str "same"])) o [.str "", .str "same"] := lstOf upd_same
        generalize upd H2 o (.lst [V.str "", .str "same"]) = H3 at *
        have hG3 := gl.seq hG
        repeat walk_at "st"
        refine r_eqTpt (p1.kp (Kp.same gl)) (p2.kp (Kp.same gl)) ?_
        repeat walk_at "st"
        refine .inr ⟨_, rfl, ?_⟩
        by_cases c : x1 = x2 ∧ y1 = y2
        · rw [decide_eq_true c]
          exact r_ixL (v := .str "same") el rfl (q "same" _ (s12.trans gl) fun ord z t h => .inr ⟨by decide, (tel_two (by decide) h).1 c⟩)
        · rw [decide_eq_false c]
          exact r_ixL (v := .str "") el rfl (q "" _ (s12.trans gl) fun ord z t h => .inl ⟨rfl, (tel_two (by decide) h).2 c⟩)
      · skip
        refine r_seq ?_
        repeat walk_at "st"
        refine r_ixT0 tm ?_
        repeat walk_at "st"
        rw [if_neg (by decide)]
        repeat walk_at "st"
        refine r_ixT0 tm ?_
        repeat walk_at "st"
        rw [if_pos (by decide)]
        repeat walk_at "st"
        refine ⟨sz rfl, fun o no => ?_⟩
        have gl := same_new no (.lst [V.str "", .str "same"])
        have el : SqL K (upd H2 o (.lst [V.str "", .str "same"])) o [.str "", .str "same"] := lstOf upd_same
        generalize upd H2 o (.lst [V.str "", .str "same"]) = H3 at *
        have hG3 := gl.seq hG
        repeat walk_at "st"
        refine r_eqTpt (p1.kp (Kp.same gl)) (p2.kp (Kp.same gl)) ?_
        repeat walk_at "st"
        refine .inr ⟨_, rfl, ?_⟩
        by_cases c : x1 = x2 ∧ y1 = y2
        · rw [decide_eq_true c]
          exact r_ixL (v := .str "same") el rfl (q "same" _ (s12.trans gl) fun ord z t h => .inr ⟨by decide, (tel_two (by decide) h).1 c⟩)
        · rw [decide_eq_false c]
          exact r_ixL (v := .str "") el rfl (q "" _ (s12.trans gl) fun ord z t h => .inl ⟨rfl, (tel_two (by decide) h).2 c⟩)
    | @pl _ x1 y1 a b c n m h j1 j2 l =>
      simp only [List.mem_cons, List.not_mem_nil, or_false] at h
      rcases h with rfl | rfl | rfl | rfl
      · skip
        refine r_seq ?_
        repeat walk_at "st"
        refine r_ixT0 tm ?_
        repeat walk_at "st"
        rw [if_neg (by decide)]
        repeat walk_at "st"
        refine r_ixT0 tm ?_
        repeat walk_at "st"
        rw [if_neg (by decide)]
        repeat walk_at "st"
        refine r_seq ?_
        repeat walk_at "st"
        refine r_ixT0 tm ?_
        repeat walk_at "st"
        rw [if_neg (by decide)]
        repeat walk_at "st"
        refine r_seq ?_
        repeat walk_at "st"
        refine r_ixT0 tm ?_
        repeat walk_at "st"
        refine r_neX ?_
        repeat walk_at "st"
        rw [if_pos (by decide)]
        repeat walk_at "st"
        exact q "" _ s12 fun ord z t h => .inl ⟨rfl, tel_stands nog (by decide) h⟩
      · skip
        refine r_seq ?_
        repeat walk_at "st"
        refine r_ixT0 tm ?_
        repeat walk_at "st"
        rw [if_neg (by decide)]
        repeat walk_at "st"
        refine r_ixT0 tm ?_
        repeat walk_at "st"
        rw [if_neg (by decide)]
        repeat walk_at "st"
        refine r_seq ?_
        repeat walk_at "st"
        refine r_ixT0 tm ?_
        repeat walk_at "st"
        rw [if_neg (by decide)]
        repeat walk_at "st"
        refine r_seq ?_
        repeat walk_at "st"
        refine r_ixT0 tm ?_
        repeat walk_at "st"
        refine r_neX ?_
        repeat walk_at "st"
        rw [if_pos (by decide)]
        repeat walk_at "st"
        exact q "" _ s12 fun ord z t h => .inl ⟨rfl, tel_stands nog (by decide) h⟩
      · skip
        refine r_seq ?_
        repeat walk_at "st"
        refine r_ixT0 tm ?_
        repeat walk_at "st"
        rw [if_neg (by decide)]
        repeat walk_at "st"
        refine r_ixT0 tm ?_
        repeat walk_at "st"
        rw [if_neg (by decide)]
        repeat walk_at "st"
        refine r_seq ?_
        repeat walk_at "st"
        refine r_ixT0 tm ?_
        repeat walk_at "st"
        rw [if_neg (by decide)]
        repeat walk_at "st"
        refine r_seq ?_
        repeat walk_at "st"
        refine r_ixT0 tm ?_
        repeat walk_at "st"
        refine r_neX ?_
        repeat walk_at "st"
        rw [if_pos (by decide)]
        repeat walk_at "st"
        exact q "" _ s12 fun ord z t h => .inl ⟨rfl, tel_stands nog (by decide) h⟩
      · skip
        refine r_seq ?_
        repeat walk_at "st"
        refine r_ixT0 tm ?_
        repeat walk_at "st"
        rw [if_neg (by decide)]
        repeat walk_at "st"
        refine r_ixT0 tm ?_
        repeat walk_at "st"
        rw [if_neg (by decide)]
        repeat walk_at "st"
        refine r_seq ?_
        repeat walk_at "st"
        refine r_ixT0 tm ?_
        repeat walk_at "st"
        rw [if_neg (by decide)]
        repeat walk_at "st"
        refine r_seq ?_
        repeat walk_at "st"
        refine r_ixT0 tm ?_
        repeat walk_at "st"
        refine r_neX ?_
        repeat walk_at "st"
        rw [if_pos (by decide)]
        repeat walk_at "st"
        exact q "" _ s12 fun ord z t h => .inl ⟨rfl, tel_stands nog (by decide) h⟩
    | @ll _ a b c a2 b2 c2 n m h t1 t2 l =>
      obtain ⟨v1, v2, rfl, p1, p2⟩ := two_list prT
      obtain ⟨L1, s1', s2', _⟩ := t1
      obtain ⟨L2, s4', s5', _⟩ := t2
      replace s1' := s1'.mono (show n ≤ 3000 by omega)
      replace s2' := s2'.mono (show n ≤ 3000 by omega)
      replace s4' := s4'.mono (show m ≤ 3000 by omega)
      replace s5' := s5'.mono (show m ≤ 3000 by omega)
      obtain ⟨a1, rfl, ta1⟩ := p1
      obtain ⟨a2', rfl, ta2⟩ := p2
      simp only [List.mem_cons, List.not_mem_nil, or_false] at h
      rcases h with rfl | rfl | rfl
      · skip
        refine r_seq ?_
        repeat walk_at "st"
        refine r_ixT0 tm ?_
        repeat walk_at "st"
        rw [if_neg (by decide)]
        repeat walk_at "st"
        refine r_ixT0 tm ?_
        repeat walk_at "st"
        rw [if_neg (by decide)]
        repeat walk_at "st"
        refine r_seq ?_
        repeat walk_at "st"
        refine r_ixT0 tm ?_
        repeat walk_at "st"
        rw [if_pos (by decide)]
        repeat walk_at "st"
        refine ⟨sz rfl, fun o no => ?_⟩
        have gl := same_new no (.lst [V.str "", .str "parallel"])
        have el : SqL K (upd H2 o (.lst [V.str "", .str "parallel"])) o [.str "", .str "parallel"] := lstOf upd_same
        generalize upd H2 o (.lst [V.str "", .str "parallel"]) = H3 at *
        have hG3 := gl.seq hG
        have ta13 := gl.tp ta1
        have ta23 := gl.tp ta2
        repeat walk_at "st"
        refine .inr ⟨_, rfl, ?_⟩
        by_cases c : a * b2 = b * a2
        · rw [decide_eq_true c]
          exact r_ixL (v := .str "parallel") el rfl (q "parallel" _ (s12.trans gl) fun ord z t h => .inr ⟨by decide, (tel_meet h).1 c⟩)
        · rw [decide_eq_false c]
          exact r_ixL (v := .str "") el rfl (q "" _ (s12.trans gl) fun ord z t h => .inl ⟨rfl, (tel_meet h).2 c⟩)
      · skip
        refine r_seq ?_
        repeat walk_at "st"
        refine r_ixT0 tm ?_
        repeat walk_at "st"
        rw [if_neg (by decide)]
        repeat walk_at "st"
        refine r_ixT0 tm ?_
        repeat walk_at "st"
        rw [if_neg (by decide)]
        repeat walk_at "st"
        refine r_seq ?_
        repeat walk_at "st"
        refine r_ixT0 tm ?_
        repeat walk_at "st"
        rw [if_neg (by decide)]
        repeat walk_at "st"
        refine r_seq ?_
        repeat walk_at "st"
        refine r_ixT0 tm ?_
        repeat walk_at "st"
        refine r_neX ?_
        repeat walk_at "st"
        rw [if_pos (by decide)]
        repeat walk_at "st"
        exact q "" _ s12 fun ord z t h => .inl ⟨rfl, tel_stands nog (by decide) h⟩
      · skip
        refine r_seq ?_
        repeat walk_at "st"
        refine r_ixT0 tm ?_
        repeat walk_at "st"
        rw [if_neg (by decide)]
        repeat walk_at "st"
        refine r_ixT0 tm ?_
        repeat walk_at "st"
        rw [if_neg (by decide)]
        repeat walk_at "st"
        refine r_seq ?_
        repeat walk_at "st"
        refine r_ixT0 tm ?_
        repeat walk_at "st"
        rw [if_neg (by decide)]
        repeat walk_at "st"
        refine r_seq ?_
        repeat walk_at "st"
        refine r_ixT0 tm ?_
        repeat walk_at "st"
        refine r_neX ?_
        repeat walk_at "st"
        rw [if_pos (by decide)]
        repeat walk_at "st"
        exact q "" _ s12 fun ord z t h => .inl ⟨rfl, tel_stands nog (by decide) h⟩
    | @p3 x1 y1 x2 y2 x3 y3 n m k j1 j2 j3 l =>
      refine r_seq ?_
      repeat walk_at "st"
      refine r_ixT0 tm ?_
      repeat walk_at "st"
      rw [if_neg (by decide)]
      repeat walk_at "st"
      refine r_ixT0 tm ?_
      repeat walk_at "st"
      rw [if_neg (by decide)]
      repeat walk_at "st"
      refine r_seq ?_
      repeat walk_at "st"
      refine r_ixT0 tm ?_
      repeat walk_at "st"
      rw [if_neg (by decide)]
      repeat walk_at "st"
      refine r_seq ?_
      repeat walk_at "st"
      refine r_ixT0 tm ?_
      repeat walk_at "st"
      refine r_neX ?_
      repeat walk_at "st"
      rw [if_pos (by decide)]
      repeat walk_at "st"
      exact q "" _ s12 fun ord z t h => .inl ⟨rfl, tel_stands nog (by decide) h⟩
    | @p4 _ x1 y1 x2 y2 x3 y3 x4 y4 n m k j h j1 j2 j3 j4 l l1 l2 l3 l4 =>
      simp only [List.mem_cons, List.not_mem_nil, or_false] at h
      rcases h with rfl | rfl
      · skip
        refine r_seq ?_
        repeat walk_at "st"
        refine r_ixT0 tm ?_
        repeat walk_at "st"
        rw [if_neg (by decide)]
        repeat walk_at "st"
        refine r_ixT0 tm ?_
        repeat walk_at "st"
        rw [if_neg (by decide)]
        repeat walk_at "st"
        refine r_seq ?_
        repeat walk_at "st"
        refine r_ixT0 tm ?_
        repeat walk_at "st"
        rw [if_neg (by decide)]
        repeat walk_at "st"
        refine r_seq ?_
        repeat walk_at "st"
        refine r_ixT0 tm ?_
        repeat walk_at "st"
        refine r_neX ?_
        repeat walk_at "st"
        rw [if_pos (by decide)]
        repeat walk_at "st"
        exact q "" _ s12 fun ord z t h => .inl ⟨rfl, tel_stands nog (by decide) h⟩
      · skip
        refine r_seq ?_
        repeat walk_at "st"
        refine r_ixT0 tm ?_
        repeat walk_at "st"
        rw [if_neg (by decide)]
        repeat walk_at "st"
        refine r_ixT0 tm ?_
        repeat walk_at "st"
        rw [if_neg (by decide)]
        repeat walk_at "st"
        refine r_seq ?_
        repeat walk_at "st"
        refine r_ixT0 tm ?_
        repeat walk_at "st"
        rw [if_neg (by decide)]
        repeat walk_at "st"
        refine r_seq ?_
        repeat walk_at "st"
        refine r_ixT0 tm ?_
        repeat walk_at "st"
        refine r_neX ?_
        repeat walk_at "st"
        rw [if_pos (by decide)]
        repeat walk_at "st"
        exact q "" _ s12 fun ord z t h => .inl ⟨rfl, tel_stands nog (by decide) h⟩
    | @cut c k m2 x0 y0 s0 cv =>
      obtain ⟨v1, v2, rfl, p1, p2⟩ := two_list prT
      have hcn : ∃ n, d = .ct n ∧ (n = 1 ∨ n = 2) := by
        obtain ⟨r, _, tl⟩ := tl
        cases d with
        | ct n => exact ⟨n, rfl, nr⟩
        | fr p q => exact absurd tl.1 (by decide)
        | sh t => exact absurd tl.1 (by decide)
        | no => exact absurd rfl tl.2.2.1
      obtain ⟨n, rfl, hn⟩ := hcn
      have p2' := p2
      obtain ⟨aw, fx, fy, fs, rfl, tw, hx, hy, hs⟩ := p2
      obtain ⟨ch, m3⟩ := cv.ch
      have cw : (∃ x2 y2 s2, c = .ci x2 y2 s2 ∧ x2 = x0 ∧ y2 = y0) ∨ ∀ ord z t, TelR ord z "cut" (.ct n) [c, .ci x0 y0 s0] t → ∀ A B C, Chd c x0 y0 s0 A B C → CutW z n c x0 y0 s0 A B C t := by
        cases cv with
        | ln l sa sb sc ch h =>
          refine .inr fun ord z t h A B C hc => ?_
          obtain ⟨n', e, k⟩ := tel_cut h nog
          cases e
          exact cutW_ln l hn k hc
        | @ci x2 y2 s2 _ _ _ _ _ c2 ch h =>
          by_cases e : x2 = x0 ∧ y2 = y0
          · exact .inl ⟨x2, y2, s2, rfl, e⟩
          · refine .inr fun ord z t h A B C hc => ?_
            obtain ⟨n', e', k⟩ := tel_cut h nog
            cases e'
            exact (cutW_ci hn k hc).2 e
      refine r_seq ?_
      repeat walk_at "st"
      refine r_ixT0 tm ?_
      repeat walk_at "st"
      rw [if_neg (by decide)]
      repeat walk_at "st"
      refine r_ixT0 tm ?_
      repeat walk_at "st"
      rw [if_neg (by decide)]
      repeat walk_at "st"
      refine r_seq ?_
      repeat walk_at "st"
      refine r_ixT0 tm ?_
      repeat walk_at "st"
      rw [if_neg (by decide)]
      repeat walk_at "st"
      refine r_seq ?_
      repeat walk_at "st"
      refine r_ixT0 tm ?_
      repeat walk_at "st"
      refine r_neX ?_
      repeat walk_at "st"
      rw [if_neg (by decide)]
      repeat walk_at "st"
      obtain ⟨av, rv, rfl, tav⟩ := p1.head
      with_reducible refine r_cut (fun σ H' => σ = [some (.ref m), some (.ref D), some (.ref G), none, none, none, none, none, none] ∧ Same H2 H' ∧ ∀ ord z t, TelR ord z "cut" (.ct n) [c, .ci x0 y0 s0] t → ∀ A B C, Chd c x0 y0 s0 A B C → CutW z n c x0 y0 s0 A B C t) ?U1 ?V1
      case V1 =>
        intro N J
        repeat walk_at "st"
        refine r_ixT0 tav ?_
        repeat walk_at "st"
        cases cv with
        | @ln a b c1 _ _ _ _ _ l sa sb sc ch' h =>
          rw [if_neg (fun z : decide (tagOf (.ln a b c1) = "circle") = true => absurd (show tagOf (.ln a b c1) = "circle" from of_decide_eq_true z) (show ¬ (("line" : Str) = "circle") by decide))]
          repeat walk_at "st"
          exact J _ _ ⟨rfl, Same.refl _, cw.resolve_left (by rintro ⟨_, _, _, e, _⟩; cases e)⟩
        | @ci x2 y2 s2 _ _ _ _ _ c2 ch' h =>
          rw [if_pos (decide_eq_true (show tagOf (.ci x2 y2 s2) = "circle" from rfl))]
          obtain ⟨av', ux, uy, us, e, ta, ex, ey, es⟩ := p1
          cases e
          repeat walk_at "st"
          refine r_slR ?_
          repeat walk_at "st"
          refine r_partR ?_
          repeat walk_at "st"
          refine r_partR ?_
          repeat walk_at "st"
          refine r_slMid ta fun pa Ha sa ka => ?_
          have hGa := sa.seq hG
          have twa := sa.tp tw
          repeat walk_at "st"
          refine r_slR ?_
          repeat walk_at "st"
          refine r_partR ?_
          repeat walk_at "st"
          refine r_partR ?_
          repeat walk_at "st"
          refine r_slMid twa fun pb Hb sb kb => ?_
          have sab := sa.trans sb
          repeat walk_at "st"
          refine r_eqPd (x := x2) (y := y2) (x' := x0) (y' := y0) ⟨pa, ux, uy, rfl, sb.tp ka, ex.up sab, ey.up sab⟩ ⟨pb, fx, fy, rfl, kb, hx.up sab, hy.up sab⟩ ?_
          by_cases e : x2 = x0 ∧ y2 = y0
          · rw [decide_eq_true e]
            repeat walk_at "st"
            refine q "centre" _ (s12.trans sab) fun ord z t h => .inr ⟨by decide, ?_⟩
            obtain ⟨n', e', k⟩ := tel_cut h nog
            cases e'
            exact (cutW_ci hn k ⟨rfl, rfl, rfl⟩).1 e
          · rw [decide_eq_false e]
            repeat walk_at "st"
            refine J _ _ ⟨rfl, sab, cw.resolve_left ?_⟩
            rintro ⟨_, _, _, e1, e2⟩
            cases e1
            exact e e2
      clear cw
      rintro σ H3 ⟨rfl, g3, cw⟩
      have hG3 := g3.seq hG
      have p13 := p1.kp (Kp.same (K := K) g3)
      have p23 := p2'.kp (Kp.same (K := K) g3)
      have tw3 := g3.tp tw
      repeat walk_at "st"
      refine ⟨.ref av, .ref aw, c, x0, y0, s0, k, m2, rfl, p13, p23, cv, fun pp fa fb fe fn A B C H4 g4 el ea eb ee en hc => ?_⟩
      obtain ⟨zA, zB, zC, ne, nn, ze, zn, l1, l2, l3⟩ := cv.sizes hc
      have zs := ch.szs
      refine r_gT el rfl ?_
      refine r_gq4 ?_
      have hG4 := g4.seq hG3
      have tw4 := g4.tp tw3
      have g34 := g3.trans g4
      repeat walk_at "st"
      refine ⟨fs, fn, _, _, _, _, rfl, (hs.up g34).rq zs, en.rq zn, by omega, by omega, fun r1 H5 g5 e5 => ?_⟩
      repeat walk_at "st"
      refine ⟨fe, fe, _, _, _, _, rfl, (ee.up g5).rq ze, (ee.up g5).rq ze, by omega, by omega, fun r2 H6 g6 e6 => ?_⟩
      repeat walk_at "st"
      refine ⟨r1, r2, _, _, _, _, rfl, e5.up g6, e6, by omega, by omega, fun r3 H7 g7 e7 => ?_⟩
      have zd := Sz.sub (Sz.mul zs zn) (Sz.mul ze ze)
      obtain ⟨b1, t1, d1, rfl, tb1, nz1, q1, st1, sd1⟩ := e7
      repeat walk_at "st"
      refine ⟨_, _, rfl, nz1, .inr ⟨st1.mono (by omega), sd1.mono (by omega)⟩, fun o1 H8 g8 n8 e8 => ?_⟩
      have fd : Fq K H8 (.ref o1) (s0 * (A * A + B * B) - (C - (A * x0 + B * y0)) * (C - (A * x0 + B * y0))) := Fq.of _ nz1 q1 e8
      have g28 := g34.trans (g5.trans (g6.trans (g7.trans g8)))
      clear e5 e6 ee en ea eb hG4 tw4 hG3 tw3 p13 p23 tb1 e8 q1 st1 sd1
      obtain ⟨_, e9, t9⟩ := fd
      cases e9
      have res : ∀ ord z t, TelR ord z "cut" (.ct n) [c, .ci x0 y0 s0] t → CutW z n c x0 y0 s0 A B C t := fun ord z t h => cw ord z t h A B C hc
      clear cw
      generalize hd : s0 * (A * A + B * B) - (C - (A * x0 + B * y0)) * (C - (A * x0 + B * y0)) = dd at *
      repeat walk_at "st"
      refine r_seq ?_
      repeat walk_at "st"
      refine r_ite (fun c1 => ?_) (fun c1 => ?_)
      · repeat walk_at "st"
        exact q "miss" _ (s12.trans g28) fun ord z t h => .inr ⟨by decide, (res ord z t h).miss (by rw [hd]; exact num_lt.mp c1)⟩
      have d0 : 0 ≤ dd := Rat.not_lt.mp fun z => c1 (num_lt.mpr z)
      repeat walk_at "st"
      have nofail : Sq dd.num ∧ Sq (dd.den : Int) → ∀ ord z t, TelR ord z "cut" (.ct n) [c, .ci x0 y0 s0] t → tagOf t ≠ "gone" := fun k ord z t h => by
        obtain ⟨p, q', e, _⟩ := (res ord z t h).at_ (by rw [hd]; exact rat_sq.mpr k)
        rw [e]
        exact ng_pt
      have isroot : ¬ (Sq dd.num ∧ Sq (dd.den : Int)) → ∀ ord z t, TelR ord z "cut" (.ct n) [c, .ci x0 y0 s0] t → t = .gone z "root" := fun k ord z t h => (res ord z t h).root (by rw [hd]; exact d0) (by rw [hd]; exact fun z => k (rat_sq.mp z))
      refine r_seq ?_
      repeat walk_at "st"
      refine ⟨dd.num, rfl, by omega, zd.t.mono (by omega), fun gn gn0 hgn mxn => ?_⟩
      have sgn : Sm 100000 gn := (zd.t.mono (show _ ≤ 100000 by omega)).le (by have := le_mul_self gn0; omega)
      repeat walk_at "st"
      refine r_i (⟨rfl, sgn⟩ : CPowX gn 2) ?_
      repeat walk_at "st"
      have i1 := isq2 gn0 hgn mxn
      by_cases k1 : Sq dd.num
      · rw [i1.mpr k1]
        repeat walk_at "st"
        refine ⟨(dd.den : Int), rfl, by omega, zd.b.mono (by omega), fun gd gd0 hgd mxd => ?_⟩
        have sgd : Sm 100000 gd := (zd.b.mono (show _ ≤ 100000 by omega)).le (by have := le_mul_self gd0; omega)
        repeat walk_at "st"
        refine r_i (⟨rfl, sgd⟩ : CPowX gd 2) ?_
        repeat walk_at "st"
        have i2 := isq2 gd0 hgd mxd
        by_cases k2 : Sq (dd.den : Int)
        · rw [i2.mpr k2]
          repeat walk_at "st"
          exact q "" _ (s12.trans g28) fun ord z t h => .inl ⟨rfl, nofail ⟨k1, k2⟩ ord z t h⟩
        · rw [Bool.eq_false_iff.mpr fun z => k2 (i2.mp z)]
          repeat walk_at "st"
          exact q "root" _ (s12.trans g28) fun ord z t h => .inr ⟨by decide, isroot (fun z => k2 z.2) ord z t h⟩
      · rw [Bool.eq_false_iff.mpr fun z => k1 (i1.mp z)]
        repeat walk_at "st"
        exact q "root" _ (s12.trans g28) fun ord z t h => .inr ⟨by decide, isroot (fun z => k1 z.1) ord z t h⟩
  ) only [↓Mb.dischW]
theorem ok_on_way (F : Fn K mg "_law_on_way" s_on_way) (G_l_less : Kn P w K mg base 1 "_law_less" ["_law_one", "_law_other"] (spR2 K (· - ·))) (G_l_times : Kn P w K mg base 1 "_law_times" ["_law_one", "_law_other"] (spR2 K (· * ·))) (G_even : Kn P w K mg base 1 "_law_even" ["_law_one", "_law_other"] (spS2 K)) (z_range : mg "range" = none) : Kn P w K mg base 2 "_law_on_way" ["_law_m", "_law_p", "_law_q", "_law_part"] (spOnWay31 K) := by
  refine Mb.ofW ?_
  simp (discharger := with_unfolding_all
    refine F.kn sc_on_way (fun vs H Q E h => ?_) (fun f cdv A outer s H vs Q E hr h => ?_) (fun _ _ _ _ _ _ us hl => match us, hl with | [_, _, _, _], _ => rfl)
    · obtain ⟨v, w1, u, r, X, Y, x1, y1, x2, y2, t, rfl, _⟩ := h
      rfl
    obtain ⟨v, w1, u, r, X, Y, x1, y1, x2, y2, t, rfl, ⟨a1, f1, g1, rfl, ta1, hf1, hg1⟩, ⟨a2, f2, g2, rfl, ta2, hf2, hg2⟩, ⟨a3, f3, g3, rfl, ta3, hf3, hg3⟩, hr', zX, zY, zx1, zy1, zx2, zy2, eX, eY, q⟩ := h
    refine ⟨_, (pss_cons (ps_for PassesOwn.never rfl (pi_range1 (by rfl) z_range (pa_cons pe_int pa_nil)) (pg_name (i := 4) sc_on_way.nd rfl (.inl rfl))
      (pss_cons (ps_set (i := 5) sc_on_way.nd rfl (.inl rfl) (pe_kn G_l_times (hr.mono (by decide)) (by rfl) (pa_cons (pv 3) (pa_cons (pe_kn G_l_less (hr.mono (by decide)) (by rfl) (pa_cons (pe_ix ix_tup (pv 2) (pv 4) (fun _ _ => rfl)) (pa_cons (pe_ix ix_tup (pv 1) (pv 4) (fun _ _ => rfl)) pa_nil))) pa_nil))))
      (pss_one (ps_if (pt_not (pt_val (pe_kn G_even (hr.mono (by decide)) (by rfl) (pa_cons (pe_kn G_l_less (hr.mono (by decide)) (by rfl) (pa_cons (pe_ix ix_tup (pv 0) (pv 4) (fun _ _ => rfl)) (pa_cons (pe_ix ix_tup (pv 1) (pv 4) (fun _ _ => rfl)) pa_nil))) (pa_cons (pv 5) pa_nil)))))
      (pss_one (ps_ret pe_bl))
      pss_nil))))
      (pss_one (ps_ret pe_bl))), ?_⟩
    show (_ : TS) _ [some (.ref a1), some (.ref a2), some (.ref a3), some r, none, none] _
    refine r_seq ?_
    refine ⟨_, rfl, by decide, by decide, for_range (n := 2) (fun i σ H' => Same H H' ∧ ∃ y4 y5, σ = [some (.ref a1), some (.ref a2), some (.ref a3), some r, y4, y5]) ⟨Same.refl _, none, none, rfl⟩ ?_ ?_⟩
    · rintro i σ H1 hi ⟨g, y4, y5, rfl⟩
      have t1 := g.tp ta1
      have t2 := g.tp ta2
      have t3 := g.tp ta3
      rcases (show i = 0 ∨ i = 1 by omega) with rfl | rfl
      · repeat walk_at "st"
        refine ⟨f3, f2, _, _, _, _, rfl, (hf3.up g).rq zx2, (hf2.up g).rq zx1, by omega, by omega, fun r1 H2 s1 e1 => ?_⟩
        repeat walk_at "st"
        refine ⟨r, r1, _, _, _, _, rfl, (hr'.up g).up s1, e1, by omega, by omega, fun r2 H3 s2 e2 => ?_⟩
        have s13 := s1.trans s2
        have t1 := s13.tp t1
        have t2 := s13.tp t2
        have gg := g.trans s13
        repeat walk_at "st"
        refine ⟨f1, f2, _, _, _, _, rfl, (hf1.up gg).rq zX, (hf2.up gg).rq zx1, by omega, by omega, fun r3 H4 s3 e3 => ?_⟩
        repeat walk_at "st"
        refine ⟨r3, r2, _, _, _, _, rfl, e3, e2.up s3, by omega, by omega, ?_⟩
        rw [decide_eq_true (show X - x1 = t * (x2 - x1) by grind)]
        repeat walk_at "st"
        exact ⟨gg.trans s3, _, _, rfl⟩
      · repeat walk_at "st"
        refine ⟨g3, g2, _, _, _, _, rfl, (hg3.up g).rq zy2, (hg2.up g).rq zy1, by omega, by omega, fun r1 H2 s1 e1 => ?_⟩
        repeat walk_at "st"
        refine ⟨r, r1, _, _, _, _, rfl, (hr'.up g).up s1, e1, by omega, by omega, fun r2 H3 s2 e2 => ?_⟩
        have s13 := s1.trans s2
        have t1 := s13.tp t1
        have t2 := s13.tp t2
        have gg := g.trans s13
        repeat walk_at "st"
        refine ⟨g1, g2, _, _, _, _, rfl, (hg1.up gg).rq zY, (hg2.up gg).rq zy1, by omega, by omega, fun r3 H4 s3 e3 => ?_⟩
        repeat walk_at "st"
        refine ⟨r3, r2, _, _, _, _, rfl, e3, e2.up s3, by omega, by omega, ?_⟩
        rw [decide_eq_true (show Y - y1 = t * (y2 - y1) by grind)]
        repeat walk_at "st"
        exact ⟨gg.trans s3, _, _, rfl⟩
    · rintro σ H1 ⟨g, y4, y5, rfl⟩
      repeat walk_at "st"
      exact q _ g
  ) only [↓Mb.dischW]
theorem ok_point (F : Fn K mg "_law_point" s_point) (G_l_plus : Kn P w K mg base 1 "_law_plus" ["_law_one", "_law_other"] (spR2 K (· + ·))) (G_l_less : Kn P w K mg base 1 "_law_less" ["_law_one", "_law_other"] (spR2 K (· - ·))) (G_l_times : Kn P w K mg base 1 "_law_times" ["_law_one", "_law_other"] (spR2 K (· * ·))) (G_even : Kn P w K mg base 1 "_law_even" ["_law_one", "_law_other"] (spS2 K)) (G_off : Kn P w K mg base 2 "_law_off" ["_law_place_here", "_law_line"] (spOff31 K)) (G_on_way : Kn P w K mg base 2 "_law_on_way" ["_law_m", "_law_p", "_law_q", "_law_part"] (spOnWay31 K)) : Kn P w K mg base 3 "_law_point" ["_law_making_here", "_law_m", "_law_g"] (spPoint31 K) := by
  refine Mb.ofW ?_
  simp (discharger := with_unfolding_all
    refine F.kn sc_point (fun vs H Q E h => ?_) (fun f cdv A outer s H vs Q E hr h => ?_) (fun _ _ _ _ _ _ us hl => match us, hl with | [_, _, _], _ => rfl)
    · obtain ⟨m, l, v, x, ns, d, us, on, X, Y, rfl, _⟩ := h
      rfl
    obtain ⟨m, l, v, x, ns, d, us, on, X, Y, rfl, ⟨r, tm, tl⟩, ln, hv, zX, zY, hl, pr, on31, nr, fg, nf, q⟩ := h
    refine ⟨_, (pss_cons (ps_asg (pv 2) (pg_lst (by rfl) (pgs_cons (pg_name (i := 3) sc_point.nd rfl (.inl rfl)) (pgs_cons (pg_name (i := 4) sc_point.nd rfl (.inl rfl)) pgs_nil))))
      (pss_cons (ps_set (i := 5) sc_point.nd rfl (.inl rfl) (pe_ix ix_tup (pv 0) pe_int (fun _ _ => rfl)))
      (pss_cons (ps_if (pt_cmpR op_eq (pv 5) pe_str (nomark _))
      (pss_one (ps_ret (pe_kn G_on_way (hr.mono (by decide)) (by rfl) (pa_cons (pv 1) (pa_cons (pv 3) (pa_cons (pv 4) (pa_cons (pe_tup (pa_cons pe_int (pa_cons pe_int pa_nil))) pa_nil)))))))
      pss_nil)
      (pss_cons (ps_if (pt_cmpR op_eq (pv 5) pe_str (nomark _))
      (pss_one (ps_ret (pe_kn G_on_way (hr.mono (by decide)) (by rfl) (pa_cons (pv 1) (pa_cons (pv 3) (pa_cons (pv 4) (pa_cons (pe_tup (pa_cons pe_int (pa_cons pe_int pa_nil))) pa_nil)))))))
      pss_nil)
      (pss_cons (ps_if (pt_cmpR op_eq (pv 5) pe_str (nomark _))
      (pss_one (ps_ret (pe_kn G_on_way (hr.mono (by decide)) (by rfl) (pa_cons (pv 1) (pa_cons (pv 3) (pa_cons (pv 4) (pa_cons (pe_ix ix_tup (pv 0) pe_int (fun _ _ => rfl)) pa_nil)))))))
      pss_nil)
      (pss_cons (ps_if (pt_cmpR op_eq (pv 5) pe_str (nomark _))
      (pss_cons (ps_if (pt_not (pt_val (pe_kn G_even (hr.mono (by decide)) (by rfl) (pa_cons (pe_kn G_l_plus (hr.mono (by decide)) (by rfl) (pa_cons (pe_ix ix_tup (pv 1) pe_int (fun _ _ => rfl)) (pa_cons (pe_ix ix_tup (pv 3) pe_int (fun _ _ => rfl)) pa_nil))) (pa_cons (pe_kn G_l_plus (hr.mono (by decide)) (by rfl) (pa_cons (pe_ix ix_tup (pv 4) pe_int (fun _ _ => rfl)) (pa_cons (pe_ix ix_tup (pv 4) pe_int (fun _ _ => rfl)) pa_nil))) pa_nil)))))
      (pss_one (ps_ret pe_bl))
      pss_nil)
      (pss_one (ps_ret (pe_kn G_even (hr.mono (by decide)) (by rfl) (pa_cons (pe_kn G_l_plus (hr.mono (by decide)) (by rfl) (pa_cons (pe_ix ix_tup (pv 1) pe_int (fun _ _ => rfl)) (pa_cons (pe_ix ix_tup (pv 4) pe_int (fun _ _ => rfl)) pa_nil))) (pa_cons (pe_kn G_l_plus (hr.mono (by decide)) (by rfl) (pa_cons (pe_ix ix_tup (pv 4) pe_int (fun _ _ => rfl)) (pa_cons (pe_ix ix_tup (pv 3) pe_int (fun _ _ => rfl)) pa_nil))) pa_nil))))))
      pss_nil)
      (pss_cons (ps_if (pt_cmpR op_eq (pv 5) pe_str (nomark _))
      (pss_one (ps_ret (pe_and (pe_cmpR op_eq (pe_ix ix_tup (pe_kn G_off (hr.mono (by decide)) (by rfl) (pa_cons (pv 1) (pa_cons (pv 3) pa_nil))) pe_int (fun _ _ => rfl)) pe_int (nomark _)) (pe_one (pe_cmpR op_eq (pe_ix ix_tup (pe_kn G_off (hr.mono (by decide)) (by rfl) (pa_cons (pv 1) (pa_cons (pv 4) pa_nil))) pe_int (fun _ _ => rfl)) pe_int (nomark _))))))
      pss_nil)
      (pss_cons (ps_set (i := 6) sc_point.nd rfl (.inl rfl) (pe_kn G_l_less (hr.mono (by decide)) (by rfl) (pa_cons (pe_ix ix_tup (pv 3) pe_int (fun _ _ => rfl)) (pa_cons (pe_ix ix_tup (pv 1) pe_int (fun _ _ => rfl)) pa_nil))))
      (pss_cons (ps_set (i := 7) sc_point.nd rfl (.inl rfl) (pe_kn G_l_less (hr.mono (by decide)) (by rfl) (pa_cons (pe_ix ix_tup (pv 3) pe_int (fun _ _ => rfl)) (pa_cons (pe_ix ix_tup (pv 1) pe_int (fun _ _ => rfl)) pa_nil))))
      (pss_cons (ps_if (pt_not (pt_val (pe_kn G_even (hr.mono (by decide)) (by rfl) (pa_cons (pe_kn G_l_times (hr.mono (by decide)) (by rfl) (pa_cons (pv 6) (pa_cons (pe_tup (pa_cons (pe_ix ix_tup (pv 4) pe_int (fun _ _ => rfl)) (pa_cons pe_int pa_nil))) pa_nil))) (pa_cons (pe_kn G_l_times (hr.mono (by decide)) (by rfl) (pa_cons (pv 7) (pa_cons (pe_tup (pa_cons (pe_ix ix_tup (pv 4) pe_int (fun _ _ => rfl)) (pa_cons pe_int pa_nil))) pa_nil))) pa_nil)))))
      (pss_one (ps_ret pe_bl))
      pss_nil)
      (pss_cons (ps_if (pt_cmpR op_eq (pv 5) pe_str (nomark _))
      (pss_one (ps_ret (pe_cmpR op_eq (pe_ix ix_tup (pe_kn G_off (hr.mono (by decide)) (by rfl) (pa_cons (pv 1) (pa_cons (pv 4) pa_nil))) pe_int (fun _ _ => rfl)) pe_int (nomark _))))
      pss_nil)
      (pss_cons (ps_set (i := 6) sc_point.nd rfl (.inl rfl) (pe_kn G_l_plus (hr.mono (by decide)) (by rfl) (pa_cons (pe_ix ix_tup (pv 3) pe_int (fun _ _ => rfl)) (pa_cons (pe_ix ix_tup (pv 1) pe_int (fun _ _ => rfl)) pa_nil))))
      (pss_cons (ps_set (i := 7) sc_point.nd rfl (.inl rfl) (pe_kn G_l_plus (hr.mono (by decide)) (by rfl) (pa_cons (pe_ix ix_tup (pv 3) pe_int (fun _ _ => rfl)) (pa_cons (pe_ix ix_tup (pv 1) pe_int (fun _ _ => rfl)) pa_nil))))
      (pss_one (ps_ret (pe_cmpR op_eq (pe_ix ix_tup (pe_kn G_off (hr.mono (by decide)) (by rfl) (pa_cons (pe_tup (pa_cons (pv 6) (pa_cons (pv 7) pa_nil))) (pa_cons (pe_tup (pa_cons (pe_ix ix_tup (pv 4) pe_int (fun _ _ => rfl)) (pa_cons (pe_ix ix_tup (pv 4) pe_int (fun _ _ => rfl)) (pa_cons (pe_op op_mulW pe_int (pe_ix ix_tup (pv 4) pe_int (fun _ _ => rfl))) pa_nil)))) pa_nil))) pe_int (fun _ _ => rfl)) pe_int (nomark _))))))))))))))))), ?_⟩
    have hv0 := hv
    obtain ⟨av, fv, gv, rfl, tv, hfv, hgv⟩ := hv
    show (_ : TS) _ [some (.ref m), some (.ref av), some (.ref l), none, none, none, none, none] _
    cases fg with
    | free => exact absurd rfl nf
    | @middle x1 y1 x2 y2 =>
      have z12 : ∃ n m, Jh n x1 y1 ∧ Jh m x2 y2 ∧ n ≤ 3000 ∧ m ≤ 3000 := by cases on31 with | pp h j1 j2 l => exact ⟨_, _, j1, j2, by omega, by omega⟩
      obtain ⟨k1, k2, j1, j2, l1, l2⟩ := z12
      have zx1 := j1.x.mono l1
      have zy1 := j1.y.mono l1
      have zx2 := j2.x.mono l2
      have zy2 := j2.y.mono l2
      obtain ⟨u1, u2, rfl, p1, p2⟩ := two_list pr
      have p1 : Pq K H u1 x1 y1 := p1
      have p2 : Pq K H u2 x2 y2 := p2
      obtain ⟨w1, w2, rfl⟩ : ∃ w1 w2, ns = [w1, w2] := by match ns, ln with | [w1, w2], _ => exact ⟨w1, w2, rfl⟩
      obtain ⟨_, _, _, rfl⟩ := tl
      replace tm : SqT K H m [.str "middle", .str w1, .str w2] := tm
      repeat walk_at "st"
      refine r_gLst hl rfl ?_
      refine r_g2 ?_
      repeat walk_at "st"
      refine r_seq ?_
      repeat walk_at "st"
      rw [if_pos (by decide)]
      repeat walk_at "st"
      refine ⟨sz rfl, fun o no => ?_⟩
      have g1 := same_new no (.tup [.int 1, .int 2])
      have k1' : Rq K (upd H o (.tup [.int 1, .int 2])) (.ref o) (1 / 2) 100 := ⟨o, 1, 2, rfl, tupOf upd_same, by decide, by decide +kernel, (show Sm 2 (1 : Int) by decide).mono (by decide), (show Sm 2 (2 : Int) by decide).mono (by decide)⟩
      generalize upd H o (.tup [.int 1, .int 2]) = H1 at *
      repeat walk_at "st"
      exact ⟨_, _, _, _, _, _, x1, y1, x2, y2, 1 / 2, rfl, hv0.up g1, p1.up g1, p2.up g1, k1', zX, zY, zx1, zy1, zx2, zy2, by grind, by grind, fun H' s' => q _ (g1.trans s')⟩
    | @next x1 y1 x2 y2 =>
      have z12 : ∃ n m, Jh n x1 y1 ∧ Jh m x2 y2 ∧ n ≤ 3000 ∧ m ≤ 3000 := by cases on31 with | pp h j1 j2 l => exact ⟨_, _, j1, j2, by omega, by omega⟩
      obtain ⟨k1, k2, j1, j2, l1, l2⟩ := z12
      have zx1 := j1.x.mono l1
      have zy1 := j1.y.mono l1
      have zx2 := j2.x.mono l2
      have zy2 := j2.y.mono l2
      obtain ⟨u1, u2, rfl, p1, p2⟩ := two_list pr
      have p1 : Pq K H u1 x1 y1 := p1
      have p2 : Pq K H u2 x2 y2 := p2
      obtain ⟨w1, w2, rfl⟩ : ∃ w1 w2, ns = [w1, w2] := by match ns, ln with | [w1, w2], _ => exact ⟨w1, w2, rfl⟩
      obtain ⟨_, _, _, rfl⟩ := tl
      replace tm : SqT K H m [.str "next", .str w1, .str w2] := tm
      repeat walk_at "st"
      refine r_gLst hl rfl ?_
      refine r_g2 ?_
      repeat walk_at "st"
      refine r_seq ?_
      repeat walk_at "st"
      rw [if_neg (by decide)]
      repeat walk_at "st"
      refine r_seq ?_
      repeat walk_at "st"
      rw [if_pos (by decide)]
      repeat walk_at "st"
      refine ⟨sz rfl, fun o no => ?_⟩
      have g1 := same_new no (.tup [.int 2, .int 1])
      have k1' : Rq K (upd H o (.tup [.int 2, .int 1])) (.ref o) 2 100 := ⟨o, 2, 1, rfl, tupOf upd_same, by decide, by decide +kernel, (show Sm 2 (2 : Int) by decide).mono (by decide), (show Sm 2 (1 : Int) by decide).mono (by decide)⟩
      generalize upd H o (.tup [.int 2, .int 1]) = H1 at *
      repeat walk_at "st"
      exact ⟨_, _, _, _, _, _, x1, y1, x2, y2, 2, rfl, hv0.up g1, p1.up g1, p2.up g1, k1', zX, zY, zx1, zy1, zx2, zy2, by grind, by grind, fun H' s' => q _ (g1.trans s')⟩
    | @turn x1 y1 x2 y2 =>
      have z12 : ∃ n m, Jh n x1 y1 ∧ Jh m x2 y2 ∧ n ≤ 3000 ∧ m ≤ 3000 := by cases on31 with | pp h j1 j2 l => exact ⟨_, _, j1, j2, by omega, by omega⟩
      obtain ⟨k1, k2, j1, j2, l1, l2⟩ := z12
      have zx1 := j1.x.mono l1
      have zy1 := j1.y.mono l1
      have zx2 := j2.x.mono l2
      have zy2 := j2.y.mono l2
      obtain ⟨u1, u2, rfl, p1, p2⟩ := two_list pr
      have p1 : Pq K H u1 x1 y1 := p1
      have p2 : Pq K H u2 x2 y2 := p2
      obtain ⟨w1, w2, rfl⟩ : ∃ w1 w2, ns = [w1, w2] := by match ns, ln with | [w1, w2], _ => exact ⟨w1, w2, rfl⟩
      obtain ⟨_, _, _, rfl⟩ := tl
      replace tm : SqT K H m [.str "turn", .str w1, .str w2] := tm
      obtain ⟨a1, f1, g1, rfl, t1, hf1, hg1⟩ := p1
      obtain ⟨a2, f2, g2, rfl, t2, hf2, hg2⟩ := p2
      repeat walk_at "st"
      refine r_gLst hl rfl ?_
      refine r_g2 ?_
      repeat walk_at "st"
      refine r_seq ?_
      repeat walk_at "st"
      rw [if_neg (by decide)]
      repeat walk_at "st"
      refine r_seq ?_
      repeat walk_at "st"
      rw [if_neg (by decide)]
      repeat walk_at "st"
      refine r_seq ?_
      repeat walk_at "st"
      rw [if_neg (by decide)]
      repeat walk_at "st"
      refine r_seq ?_
      repeat walk_at "st"
      rw [if_pos (by decide)]
      repeat walk_at "st"
      refine r_seq ?_
      repeat walk_at "st"
      refine ⟨fv, g1, _, _, _, _, rfl, hfv.rq zX, hg1.rq zy1, by omega, by omega, fun r1 H1 s1 e1 => ?_⟩
      have t21 := s1.tp t2
      repeat walk_at "st"
      refine ⟨f2, g2, _, _, _, _, rfl, (hf2.up s1).rq zx2, (hg2.up s1).rq zy2, by omega, by omega, fun r2 H2 s2 e2 => ?_⟩
      have s12 := s1.trans s2
      repeat walk_at "st"
      refine ⟨r1, r2, _, _, _, _, rfl, e1.up s2, e2, by omega, by omega, ?_⟩
      rw [decide_eq_true (show x2 - (y1 - y2) + y1 = x2 + y2 by grind)]
      have tv2 := s12.tp tv
      have t12 := s12.tp t1
      have t22 := s12.tp t2
      repeat walk_at "st"
      refine ⟨gv, f2, _, _, _, _, rfl, (hgv.up s12).rq zY, (hf2.up s12).rq zx2, by omega, by omega, fun r3 H3 s3 e3 => ?_⟩
      have s13 := s12.trans s3
      have t13 := s13.tp t1
      have t23 := s13.tp t2
      repeat walk_at "st"
      refine ⟨g2, f1, _, _, _, _, rfl, (hg2.up s13).rq zy2, (hf1.up s13).rq zx1, by omega, by omega, fun r4 H4 s4 e4 => ?_⟩
      repeat walk_at "st"
      refine ⟨r3, r4, _, _, _, _, rfl, e3.up s4, e4, by omega, by omega, ?_⟩
      rw [decide_eq_true (show y2 + (x1 - x2) + x2 = y2 + x1 by grind)]
      exact q _ (s13.trans s4)
    | @share t x1 y1 x2 y2 =>
      have z12 : ∃ n m, Jh n x1 y1 ∧ Jh m x2 y2 ∧ n ≤ 3000 ∧ m ≤ 3000 := by cases on31 with | pp h j1 j2 l => exact ⟨_, _, j1, j2, by omega, by omega⟩
      obtain ⟨k1, k2, j1, j2, l1, l2⟩ := z12
      have zx1 := j1.x.mono l1
      have zy1 := j1.y.mono l1
      have zx2 := j2.x.mono l2
      have zy2 := j2.y.mono l2
      obtain ⟨u1, u2, rfl, p1, p2⟩ := two_list pr
      have p1 : Pq K H u1 x1 y1 := p1
      have p2 : Pq K H u2 x2 y2 := p2
      obtain ⟨w1, w2, rfl⟩ : ∃ w1 w2, ns = [w1, w2] := by match ns, ln with | [w1, w2], _ => exact ⟨w1, w2, rfl⟩
      obtain ⟨_, u3, rfl, hu3⟩ := tl
      have zt := nr_sz31 nr
      replace tm : SqT K H m [.str "share", .str w1, .str w2, u3] := tm
      repeat walk_at "st"
      refine r_gLst hl rfl ?_
      refine r_g2 ?_
      repeat walk_at "st"
      refine r_seq ?_
      repeat walk_at "st"
      rw [if_neg (by decide)]
      repeat walk_at "st"
      refine r_seq ?_
      repeat walk_at "st"
      rw [if_neg (by decide)]
      repeat walk_at "st"
      refine r_seq ?_
      repeat walk_at "st"
      rw [if_pos (by decide)]
      repeat walk_at "st"
      exact ⟨_, _, _, _, _, _, x1, y1, x2, y2, t, rfl, hv0, p1, p2, hu3.rq (zt.mono (by decide)), zX, zY, zx1, zy1, zx2, zy2, rfl, rfl, fun H' s' => q _ s'⟩
    | @meet a b c a2 b2 c2 _ _ e o o2 =>
      have z12 : ∃ n m, Tb n (.ln a b c) ∧ Tb m (.ln a2 b2 c2) ∧ n ≤ 3000 ∧ m ≤ 3000 := by cases on31 with | ll h j1 j2 l => exact ⟨_, _, j1, j2, by omega, by omega⟩
      obtain ⟨k1, k2, ⟨L1, s1, s2, s3⟩, ⟨L2, s4, s5, s6⟩, l1, l2⟩ := z12
      obtain ⟨u1, u2, rfl, p1, p2⟩ := two_list pr
      have p1 : Lq K H u1 a b c := p1
      have p2 : Lq K H u2 a2 b2 c2 := p2
      obtain ⟨w1, w2, rfl⟩ : ∃ w1 w2, ns = [w1, w2] := by match ns, ln with | [w1, w2], _ => exact ⟨w1, w2, rfl⟩
      obtain ⟨_, _, _, rfl⟩ := tl
      replace tm : SqT K H m [.str "meet", .str w1, .str w2] := tm
      repeat walk_at "st"
      refine r_gLst hl rfl ?_
      refine r_g2 ?_
      repeat walk_at "st"
      refine r_seq ?_
      repeat walk_at "st"
      rw [if_neg (by decide)]
      repeat walk_at "st"
      refine r_seq ?_
      repeat walk_at "st"
      rw [if_neg (by decide)]
      repeat walk_at "st"
      refine r_seq ?_
      repeat walk_at "st"
      rw [if_neg (by decide)]
      repeat walk_at "st"
      refine r_seq ?_
      repeat walk_at "st"
      rw [if_neg (by decide)]
      repeat walk_at "st"
      refine r_seq ?_
      repeat walk_at "st"
      rw [if_pos (by decide)]
      repeat walk_at "st"
      refine ⟨av, fv, gv, _, X, Y, a, b, c, rfl, tv, hfv.rq (zX.mono (by decide)), hgv.rq (zY.mono (by decide)), p1, s1.mono (by omega), s2.mono (by omega), s3.mono (by omega), fun r1 H1 g1 e1 => ?_⟩
      have e1' := e1.cast (show (a : Rat) * X + b * Y - c = 0 by grind)
      repeat walk_at "st"
      refine r_ixR0 e1' fun tt hz => ?_
      repeat walk_at "st"
      rw [decide_eq_true (hz.mpr rfl)]
      repeat walk_at "st"
      refine ⟨av, fv, gv, _, X, Y, a2, b2, c2, rfl, g1.tp tv, (hfv.up g1).rq (zX.mono (by decide)), (hgv.up g1).rq (zY.mono (by decide)), p2.up g1, s4.mono (by omega), s5.mono (by omega), s6.mono (by omega), fun r2 H2 g2 e2 => ?_⟩
      have e2' := e2.cast (show (a2 : Rat) * X + b2 * Y - c2 = 0 by grind)
      repeat walk_at "st"
      refine r_ixR0 e2' fun tt2 hz2 => ?_
      repeat walk_at "st"
      rw [decide_eq_true (hz2.mpr rfl)]
      exact q _ (g1.trans g2)
    | @foot x1 y1 fx fy a b c o u =>
      have z12 : ∃ n m, Jh n x1 y1 ∧ Tb m (.ln a b c) ∧ n ≤ 3000 ∧ m ≤ 3000 := by cases on31 with | pl h j1 j2 l => exact ⟨_, _, j1, j2, by omega, by omega⟩
      obtain ⟨k1, k2, j1, ⟨L2, ssa, ssb, ssc⟩, l1, l2⟩ := z12
      have zx1 := j1.x.mono l1
      have zy1 := j1.y.mono l1
      replace ssa := ssa.mono l2
      replace ssb := ssb.mono l2
      replace ssc := ssc.mono l2
      obtain ⟨u1, u2, rfl, p1, p2⟩ := two_list pr
      have p2' : Lq K H u2 a b c := p2
      obtain ⟨a1, f1, g1, rfl, t1, hf1, hg1⟩ : Pq K H u1 x1 y1 := p1
      obtain ⟨a2, rfl, t2⟩ : Lq K H u2 a b c := p2
      obtain ⟨w1, w2, rfl⟩ : ∃ w1 w2, ns = [w1, w2] := by match ns, ln with | [w1, w2], _ => exact ⟨w1, w2, rfl⟩
      obtain ⟨_, _, _, rfl⟩ := tl
      replace tm : SqT K H m [.str "foot", .str w1, .str w2] := tm
      repeat walk_at "st"
      refine r_gLst hl rfl ?_
      refine r_g2 ?_
      repeat walk_at "st"
      refine r_seq ?_
      repeat walk_at "st"
      rw [if_neg (by decide)]
      repeat walk_at "st"
      refine r_seq ?_
      repeat walk_at "st"
      rw [if_neg (by decide)]
      repeat walk_at "st"
      refine r_seq ?_
      repeat walk_at "st"
      rw [if_neg (by decide)]
      repeat walk_at "st"
      refine r_seq ?_
      repeat walk_at "st"
      rw [if_neg (by decide)]
      repeat walk_at "st"
      refine r_seq ?_
      repeat walk_at "st"
      rw [if_neg (by decide)]
      repeat walk_at "st"
      repeat walk_at "st"
      refine ⟨f1, fv, _, _, _, _, rfl, hf1.rq zx1, hfv.rq zX, by omega, by omega, fun r1 H1 s1 e1 => ?_⟩
      have tv1 := s1.tp tv
      have t11 := s1.tp t1
      repeat walk_at "st"
      refine ⟨g1, gv, _, _, _, _, rfl, (hg1.up s1).rq zy1, (hgv.up s1).rq zY, by omega, by omega, fun r2 H2 s2 e2 => ?_⟩
      have s12 := s1.trans s2
      have t22 := s12.tp t2
      have e12 := e1.up s2
      clear tv1 t11
      repeat walk_at "st"
      refine r_seq ?_
      repeat walk_at "st"
      refine ⟨sz rfl, fun o1 n1 => ?_⟩
      have s3 := same_new n1 (.tup [.int b, .int 1])
      have k3 : Rq K (upd H2 o1 (.tup [.int b, .int 1])) (.ref o1) (b : Rat) 3000 := .int (tupOf upd_same) ssb (by decide)
      generalize upd H2 o1 (.tup [.int b, .int 1]) = H3 at *
      repeat walk_at "st"
      refine ⟨r1, .ref o1, _, _, _, _, rfl, e12.up s3, k3, by omega, by omega, fun r3 H4 s4 e3 => ?_⟩
      have s14 := s12.trans (s3.trans s4)
      have t24 := s14.tp t2
      clear t22
      repeat walk_at "st"
      refine ⟨sz rfl, fun o2 n2 => ?_⟩
      have s5 := same_new n2 (.tup [.int a, .int 1])
      have k5 : Rq K (upd H4 o2 (.tup [.int a, .int 1])) (.ref o2) (a : Rat) 3000 := .int (tupOf upd_same) ssa (by decide)
      generalize upd H4 o2 (.tup [.int a, .int 1]) = H5 at *
      repeat walk_at "st"
      refine ⟨r2, .ref o2, _, _, _, _, rfl, e2.up (s3.trans (s4.trans s5)), k5, by omega, by omega, fun r4 H6 s6 e4 => ?_⟩
      have s16 := s14.trans (s5.trans s6)
      repeat walk_at "st"
      refine ⟨r3, r4, _, _, _, _, rfl, e3.up (s5.trans s6), e4, by omega, by omega, ?_⟩
      rw [decide_eq_true (show (x1 - X) * (b : Rat) = (y1 - Y) * a by grind)]
      have tv6 := s16.tp tv
      have t16 := s16.tp t1
      have t26 := s16.tp t2
      clear e12 e2 e3 e4 k3 k5 t24
      repeat walk_at "st"
      refine r_seq ?_
      repeat walk_at "st"
      rw [if_pos (by decide)]
      repeat walk_at "st"
      refine ⟨av, fv, gv, _, X, Y, a, b, c, rfl, tv6, (hfv.up s16).rq (zX.mono (by decide)), (hgv.up s16).rq (zY.mono (by decide)), p2'.up s16, ssa.mono (by decide), ssb.mono (by decide), ssc.mono (by decide), fun r5 H7 s7 e5 => ?_⟩
      have e5' := e5.cast (show (a : Rat) * X + b * Y - c = 0 by grind)
      repeat walk_at "st"
      refine r_ixR0 e5' fun tt hz => ?_
      repeat walk_at "st"
      rw [decide_eq_true (hz.mpr rfl)]
      exact q _ (s16.trans s7)
    | @mirror x1 y1 fx fy a b c o u =>
      have z12 : ∃ n m, Jh n x1 y1 ∧ Tb m (.ln a b c) ∧ n ≤ 3000 ∧ m ≤ 3000 := by cases on31 with | pl h j1 j2 l => exact ⟨_, _, j1, j2, by omega, by omega⟩
      obtain ⟨k1, k2, j1, ⟨L2, ssa, ssb, ssc⟩, l1, l2⟩ := z12
      have zx1 := j1.x.mono l1
      have zy1 := j1.y.mono l1
      replace ssa := ssa.mono l2
      replace ssb := ssb.mono l2
      replace ssc := ssc.mono l2
      obtain ⟨u1, u2, rfl, p1, p2⟩ := two_list pr
      have p2' : Lq K H u2 a b c := p2
      obtain ⟨a1, f1, g1, rfl, t1, hf1, hg1⟩ : Pq K H u1 x1 y1 := p1
      obtain ⟨a2, rfl, t2⟩ : Lq K H u2 a b c := p2
      obtain ⟨w1, w2, rfl⟩ : ∃ w1 w2, ns = [w1, w2] := by match ns, ln with | [w1, w2], _ => exact ⟨w1, w2, rfl⟩
      obtain ⟨_, _, _, rfl⟩ := tl
      replace tm : SqT K H m [.str "mirror", .str w1, .str w2] := tm
      repeat walk_at "st"
      refine r_gLst hl rfl ?_
      refine r_g2 ?_
      repeat walk_at "st"
      refine r_seq ?_
      repeat walk_at "st"
      rw [if_neg (by decide)]
      repeat walk_at "st"
      refine r_seq ?_
      repeat walk_at "st"
      rw [if_neg (by decide)]
      repeat walk_at "st"
      refine r_seq ?_
      repeat walk_at "st"
      rw [if_neg (by decide)]
      repeat walk_at "st"
      refine r_seq ?_
      repeat walk_at "st"
      rw [if_neg (by decide)]
      repeat walk_at "st"
      refine r_seq ?_
      repeat walk_at "st"
      rw [if_neg (by decide)]
      repeat walk_at "st"
      repeat walk_at "st"
      refine ⟨f1, fv, _, _, _, _, rfl, hf1.rq zx1, hfv.rq zX, by omega, by omega, fun r1 H1 s1 e1 => ?_⟩
      have tv1 := s1.tp tv
      have t11 := s1.tp t1
      repeat walk_at "st"
      refine ⟨g1, gv, _, _, _, _, rfl, (hg1.up s1).rq zy1, (hgv.up s1).rq zY, by omega, by omega, fun r2 H2 s2 e2 => ?_⟩
      have s12 := s1.trans s2
      have t22 := s12.tp t2
      have e12 := e1.up s2
      clear tv1 t11
      repeat walk_at "st"
      refine r_seq ?_
      repeat walk_at "st"
      refine ⟨sz rfl, fun o1 n1 => ?_⟩
      have s3 := same_new n1 (.tup [.int b, .int 1])
      have k3 : Rq K (upd H2 o1 (.tup [.int b, .int 1])) (.ref o1) (b : Rat) 3000 := .int (tupOf upd_same) ssb (by decide)
      generalize upd H2 o1 (.tup [.int b, .int 1]) = H3 at *
      repeat walk_at "st"
      refine ⟨r1, .ref o1, _, _, _, _, rfl, e12.up s3, k3, by omega, by omega, fun r3 H4 s4 e3 => ?_⟩
      have s14 := s12.trans (s3.trans s4)
      have t24 := s14.tp t2
      clear t22
      repeat walk_at "st"
      refine ⟨sz rfl, fun o2 n2 => ?_⟩
      have s5 := same_new n2 (.tup [.int a, .int 1])
      have k5 : Rq K (upd H4 o2 (.tup [.int a, .int 1])) (.ref o2) (a : Rat) 3000 := .int (tupOf upd_same) ssa (by decide)
      generalize upd H4 o2 (.tup [.int a, .int 1]) = H5 at *
      repeat walk_at "st"
      refine ⟨r2, .ref o2, _, _, _, _, rfl, e2.up (s3.trans (s4.trans s5)), k5, by omega, by omega, fun r4 H6 s6 e4 => ?_⟩
      have s16 := s14.trans (s5.trans s6)
      repeat walk_at "st"
      refine ⟨r3, r4, _, _, _, _, rfl, e3.up (s5.trans s6), e4, by omega, by omega, ?_⟩
      rw [decide_eq_true (show (x1 - (fx + fx - x1)) * (b : Rat) = (y1 - (fy + fy - y1)) * a by grind)]
      have tv6 := s16.tp tv
      have t16 := s16.tp t1
      have t26 := s16.tp t2
      clear e12 e2 e3 e4 k3 k5 t24
      repeat walk_at "st"
      refine r_seq ?_
      repeat walk_at "st"
      rw [if_neg (by decide)]
      repeat walk_at "st"
      refine ⟨f1, fv, _, _, _, _, rfl, (hf1.up s16).rq zx1, (hfv.up s16).rq zX, by omega, by omega, fun r5 H7 s7 e5 => ?_⟩
      have s17 := s16.trans s7
      have tv7 := s17.tp tv
      have t17 := s17.tp t1
      clear tv6 t16 t26
      repeat walk_at "st"
      refine ⟨g1, gv, _, _, _, _, rfl, (hg1.up s17).rq zy1, (hgv.up s17).rq zY, by omega, by omega, fun r6 H8 s8 e6 => ?_⟩
      have s18 := s17.trans s8
      have t28 := s18.tp t2
      clear tv7 t17
      repeat walk_at "st"
      refine ⟨sz rfl, fun o3 n3 => ?_⟩
      have s9 := same_new n3 (.tup [r5, r6])
      have k9 : SqT K (upd H8 o3 (.tup [r5, r6])) o3 [r5, r6] := tupOf upd_same
      generalize upd H8 o3 (.tup [r5, r6]) = H9 at *
      have t29 := s9.tp t28
      clear t28
      repeat walk_at "st"
      refine ⟨sz rfl, fun o4 n4 => ?_⟩
      have s10 := same_new n4 (.tup [.int a, .int b, .int (2 * c)])
      have k10 : Lq K (upd H9 o4 (.tup [.int a, .int b, .int (2 * c)])) (.ref o4) a b (2 * c) := ⟨o4, rfl, tupOf upd_same⟩
      generalize upd H9 o4 (.tup [.int a, .int b, .int (2 * c)]) = H10 at *
      repeat walk_at "st"
      refine ⟨o3, r5, r6, _, _, _, a, b, 2 * c, rfl, s10.tp k9, (e5.up (s8.trans (s9.trans s10))).mono (by decide), (e6.up (s9.trans s10)).mono (by decide), k10, ssa.mono (by decide), ssb.mono (by decide), (two_sm.mul ssc).mono (by decide), fun r7 H11 s11 e7 => ?_⟩
      have e7' := e7.cast (show (a : Rat) * (x1 + (fx + fx - x1)) + b * (y1 + (fy + fy - y1)) - ((2 * c : Int) : Rat) = 0 by rw [Rat.intCast_mul, show ((2 : Int) : Rat) = 2 from rfl]; grind)
      repeat walk_at "st"
      refine r_ixR0 e7' fun tt hz => ?_
      repeat walk_at "st"
      rw [decide_eq_true (hz.mpr rfl)]
      exact q _ (s18.trans (s9.trans (s10.trans s11)))
  ) only [↓Mb.dischW]
theorem ok_line_fits (F : Fn K mg "_law_line_fits" s_line_fits) (G_is_line : Kn P w K mg base 2 "_law_is_line" ["_law_found"] (spIsLn K)) (G_off : Kn P w K mg base 2 "_law_off" ["_law_place_here", "_law_line"] (spOff31 K)) : Kn P w K mg base 3 "_law_line_fits" ["_law_making_here", "_law_line", "_law_g"] (spLineFits31 K) := by
  refine Mb.ofW ?_
  simp (discharger := with_unfolding_all
    refine F.kn sc_line_fits (fun vs H Q E h => ?_) (fun f cdv A outer s H vs Q E hr h => ?_) (fun _ _ _ _ _ _ us hl => match us, hl with | [_, _, _], _ => rfl)
    · obtain ⟨m, l, v, x, ns, d, us, on, a, b, c, rfl, _⟩ := h
      rfl
    obtain ⟨m, l, v, x, ns, d, us, on, a, b, c, rfl, ⟨r, tm, tl⟩, ln, hv, sa, sb, sc, hl, pr, on31, fg, q⟩ := h
    refine ⟨_, (pss_cons (ps_if (PW.pt (pw_or (pt_not (pt_val (pe_kn G_is_line (hr.mono (by decide)) (by rfl) (pa_cons (pv 1) pa_nil)))) (pw_or1 (pt_cmpR op_ne (pe_ix ix_tup (pe_kn G_off (hr.mono (by decide)) (by rfl) (pa_cons (pe_ix ix_list (pv 2) pe_int (fun _ _ => rfl)) (pa_cons (pv 1) pa_nil))) pe_int (fun _ _ => rfl)) pe_int (nomark _)))))
      (pss_one (ps_ret pe_bl))
      pss_nil)
      (pss_cons (ps_if (pt_cmpR op_eq (pe_ix ix_tup (pv 0) pe_int (fun _ _ => rfl)) pe_str (nomark _))
      (pss_one (ps_ret (pe_cmpR op_eq (pe_ix ix_tup (pe_kn G_off (hr.mono (by decide)) (by rfl) (pa_cons (pe_ix ix_list (pv 2) pe_int (fun _ _ => rfl)) (pa_cons (pv 1) pa_nil))) pe_int (fun _ _ => rfl)) pe_int (nomark _))))
      pss_nil)
      (pss_cons (ps_if (pt_cmpR op_eq (pe_ix ix_tup (pv 0) pe_int (fun _ _ => rfl)) pe_str (nomark _))
      (pss_one (ps_ret (pe_cmpR op_eq (pe_op op_mulW (pe_ix ix_tup (pv 1) pe_int (fun _ _ => rfl)) (pe_ix ix_tup (pe_ix ix_list (pv 2) pe_int (fun _ _ => rfl)) pe_int (fun _ _ => rfl))) (pe_op op_mulW (pe_ix ix_tup (pv 1) pe_int (fun _ _ => rfl)) (pe_ix ix_tup (pe_ix ix_list (pv 2) pe_int (fun _ _ => rfl)) pe_int (fun _ _ => rfl))) (nomark _))))
      pss_nil)
      (pss_one (ps_ret (pe_cmpR op_eq (pe_op op_add (pe_op op_mulW (pe_ix ix_tup (pv 1) pe_int (fun _ _ => rfl)) (pe_ix ix_tup (pe_ix ix_list (pv 2) pe_int (fun _ _ => rfl)) pe_int (fun _ _ => rfl))) (pe_op op_mulW (pe_ix ix_tup (pv 1) pe_int (fun _ _ => rfl)) (pe_ix ix_tup (pe_ix ix_list (pv 2) pe_int (fun _ _ => rfl)) pe_int (fun _ _ => rfl)))) pe_int (nomark _))))))), ?_⟩
    have sa' : Sm 3100 a := sa.mono (by omega)
    have sb' : Sm 3100 b := sb.mono (by omega)
    have sc' : Sm 3100 c := sc.mono (by omega)
    have hv0 := hv
    obtain ⟨av, rfl, tv⟩ := hv
    cases fg with
    | @line x1 y1 x2 y2 _ _ _ ne L o o' =>
      have z12 : ∃ n m, Jh n x1 y1 ∧ Jh m x2 y2 ∧ n ≤ 3000 ∧ m ≤ 3000 := by cases on31 with | pp h j1 j2 l => exact ⟨_, _, j1, j2, by omega, by omega⟩
      obtain ⟨k1, k2, j1, j2, l1, l2⟩ := z12
      obtain ⟨u1, u2, rfl, p1, p2⟩ := two_list pr
      obtain ⟨w1, w2, rfl⟩ : ∃ w1 w2, ns = [w1, w2] := by match ns, ln with | [w1, w2], _ => exact ⟨w1, w2, rfl⟩
      obtain ⟨_, _, _, rfl⟩ := tl
      replace tm : SqT K H m [.str "line", .str w1, .str w2] := tm
      obtain ⟨a1, f1, g1, rfl, t1, hf1, hg1⟩ : Pq K H u1 x1 y1 := p1
      obtain ⟨a2, f2, g2, rfl, t2, hf2, hg2⟩ : Pq K H u2 x2 y2 := p2
      show (_ : TS) _ [some (.ref m), some (.ref av), some (.ref l)] _
      refine r_seq ?_
      repeat walk_at "st"
      refine ⟨_, a, b, c, rfl, hv0, L, ?_⟩
      repeat walk_at "st"
      refine ⟨a1, f1, g1, _, x1, y1, a, b, c, rfl, t1, hf1.rq (j1.x.mono (by omega)), hg1.rq (j1.y.mono (by omega)), hv0, sa', sb', sc', fun r1 H1 s1 e1 => ?_⟩
      have e1' := e1.cast (show (a : Rat) * x1 + b * y1 - c = 0 by grind)
      have hl1 := s1.seq hl
      have tm1 := s1.tp tm
      repeat walk_at "st"
      refine r_ixR0 e1' fun tt hz => ?_
      repeat walk_at "st"
      rw [decide_eq_true (hz.mpr rfl)]
      repeat walk_at "st"
      refine r_seq ?_
      repeat walk_at "st"
      rw [if_pos (by decide)]
      repeat walk_at "st"
      refine ⟨a2, f2, g2, _, x2, y2, a, b, c, rfl, s1.tp t2, (hf2.up s1).rq (j2.x.mono (by omega)), (hg2.up s1).rq (j2.y.mono (by omega)), hv0.up s1, sa', sb', sc', fun r2 H2 s2 e2 => ?_⟩
      have e2' := e2.cast (show (a : Rat) * x2 + b * y2 - c = 0 by grind)
      repeat walk_at "st"
      refine r_ixR0 e2' fun tt2 hz2 => ?_
      repeat walk_at "st"
      rw [decide_eq_true (hz2.mpr rfl)]
      exact q _ (s1.trans s2)
    | @along x1 y1 a2 b2 c2 _ _ _ L o rr =>
      have z12 : ∃ n m, Jh n x1 y1 ∧ Tb m (.ln a2 b2 c2) ∧ n ≤ 3000 ∧ m ≤ 3000 := by cases on31 with | pl h j1 j2 l => exact ⟨_, _, j1, j2, by omega, by omega⟩
      obtain ⟨k1, k2, j1, ⟨L2, ssa, ssb, _⟩, l1, l2⟩ := z12
      obtain ⟨u1, u2, rfl, p1, p2⟩ := two_list pr
      obtain ⟨w1, w2, rfl⟩ : ∃ w1 w2, ns = [w1, w2] := by match ns, ln with | [w1, w2], _ => exact ⟨w1, w2, rfl⟩
      obtain ⟨_, _, _, rfl⟩ := tl
      replace tm : SqT K H m [.str "along", .str w1, .str w2] := tm
      obtain ⟨a1, f1, g1, rfl, t1, hf1, hg1⟩ : Pq K H u1 x1 y1 := p1
      obtain ⟨a3, rfl, t2⟩ : Lq K H u2 a2 b2 c2 := p2
      show (_ : TS) _ [some (.ref m), some (.ref av), some (.ref l)] _
      refine r_seq ?_
      repeat walk_at "st"
      refine ⟨_, a, b, c, rfl, hv0, L, ?_⟩
      repeat walk_at "st"
      refine ⟨a1, f1, g1, _, x1, y1, a, b, c, rfl, t1, hf1.rq (j1.x.mono (by omega)), hg1.rq (j1.y.mono (by omega)), hv0, sa', sb', sc', fun r1 H1 s1 e1 => ?_⟩
      have e1' := e1.cast (show (a : Rat) * x1 + b * y1 - c = 0 by grind)
      have hl1 := s1.seq hl
      have tm1 := s1.tp tm
      have tv1 := s1.tp tv
      have t21 := s1.tp t2
      repeat walk_at "st"
      refine r_ixR0 e1' fun tt hz => ?_
      repeat walk_at "st"
      rw [decide_eq_true (hz.mpr rfl)]
      repeat walk_at "st"
      refine r_seq ?_
      repeat walk_at "st"
      rw [if_neg (by decide)]
      repeat walk_at "st"
      refine r_seq ?_
      repeat walk_at "st"
      rw [if_pos (by decide)]
      repeat walk_at "st"
      refine r_i (sa.cmul (ssb.mono l2) (by decide) (by decide) (by decide)) ?_
      repeat walk_at "st"
      refine r_i (sb.cmul (ssa.mono l2) (by decide) (by decide) (by decide)) ?_
      repeat walk_at "st"
      rw [decide_eq_true (show a * b2 = b * a2 from cast_inj (by simp only [Rat.intCast_mul]; exact rr))]
      exact q _ s1
    | @upright x1 y1 a2 b2 c2 _ _ _ L o rr =>
      have z12 : ∃ n m, Jh n x1 y1 ∧ Tb m (.ln a2 b2 c2) ∧ n ≤ 3000 ∧ m ≤ 3000 := by cases on31 with | pl h j1 j2 l => exact ⟨_, _, j1, j2, by omega, by omega⟩
      obtain ⟨k1, k2, j1, ⟨L2, ssa, ssb, _⟩, l1, l2⟩ := z12
      obtain ⟨u1, u2, rfl, p1, p2⟩ := two_list pr
      obtain ⟨w1, w2, rfl⟩ : ∃ w1 w2, ns = [w1, w2] := by match ns, ln with | [w1, w2], _ => exact ⟨w1, w2, rfl⟩
      obtain ⟨_, _, _, rfl⟩ := tl
      replace tm : SqT K H m [.str "upright", .str w1, .str w2] := tm
      obtain ⟨a1, f1, g1, rfl, t1, hf1, hg1⟩ : Pq K H u1 x1 y1 := p1
      obtain ⟨a3, rfl, t2⟩ : Lq K H u2 a2 b2 c2 := p2
      show (_ : TS) _ [some (.ref m), some (.ref av), some (.ref l)] _
      refine r_seq ?_
      repeat walk_at "st"
      refine ⟨_, a, b, c, rfl, hv0, L, ?_⟩
      repeat walk_at "st"
      refine ⟨a1, f1, g1, _, x1, y1, a, b, c, rfl, t1, hf1.rq (j1.x.mono (by omega)), hg1.rq (j1.y.mono (by omega)), hv0, sa', sb', sc', fun r1 H1 s1 e1 => ?_⟩
      have e1' := e1.cast (show (a : Rat) * x1 + b * y1 - c = 0 by grind)
      have hl1 := s1.seq hl
      have tm1 := s1.tp tm
      have tv1 := s1.tp tv
      have t21 := s1.tp t2
      repeat walk_at "st"
      refine r_ixR0 e1' fun tt hz => ?_
      repeat walk_at "st"
      rw [decide_eq_true (hz.mpr rfl)]
      repeat walk_at "st"
      refine r_seq ?_
      repeat walk_at "st"
      rw [if_neg (by decide)]
      repeat walk_at "st"
      refine r_seq ?_
      repeat walk_at "st"
      rw [if_neg (by decide)]
      repeat walk_at "st"
      refine r_i (sa.cmul (ssa.mono l2) (by decide) (by decide) (by decide)) ?_
      repeat walk_at "st"
      refine r_i (sb.cmul (ssb.mono l2) (by decide) (by decide) (by decide)) ?_
      repeat walk_at "st"
      rw [decide_eq_true (show a * a2 + b * b2 = 0 from cast_inj (by simp only [Rat.intCast_mul, Rat.intCast_add, Rat.intCast_zero]; exact rr))]
      exact q _ s1
  ) only [↓Mb.dischW]
theorem ok_l_fits (F : Fn K mg "_law_fits" s_l_fits) (G_even : Kn P w K mg base 1 "_law_even" ["_law_one", "_law_other"] (spS2 K)) (G_is_frac : Kn P w K mg base 2 "_law_is_frac" ["_law_found"] (spIsF K)) (G_is_place : Kn P w K mg base 3 "_law_is_place" ["_law_found"] (spIsP K)) (G_sort : Kn P w K mg base 1 "_law_sort" ["_law_making_here"] (spSortL K)) (G_l_grounds : Kn P w K mg base 1 "_law_grounds" ["_law_making_here"] (spGroundsL K)) (G_off : Kn P w K mg base 2 "_law_off" ["_law_place_here", "_law_line"] (spOff31 K)) (G_l_near : Kn P w K mg base 2 "_law_near" ["_law_one", "_law_other"] (spNear31 K)) (G_so : Kn P w K mg base 8 "_law_so" ["_law_making_here", "_law_at"] (spSo31 K)) (G_first : Kn P w K mg base 5 "_law_first" ["_law_m", "_law_u", "_law_ring"] (spFirst31 K)) (G_point : Kn P w K mg base 3 "_law_point" ["_law_making_here", "_law_m", "_law_g"] (spPoint31 K)) (G_line_fits : Kn P w K mg base 3 "_law_line_fits" ["_law_making_here", "_law_line", "_law_g"] (spLineFits31 K)) (z_isinstance : mg "isinstance" = none) (z_tuple : mg "tuple" = none) (z_len : mg "len" = none) (z_int : mg "int" = none) : Kn P w K mg base 9 "_law_fits" ["_law_making_here", "_law_told", "_law_at"] (spFits31 K) := by
  refine Mb.ofW ?_
  simp (discharger := with_unfolding_all
    refine F.kn sc_l_fits (fun vs H Q E h => ?_) (fun f cdv A outer s H vs Q E hr h => ?_) (fun _ _ _ _ _ _ us hl => match us, hl with | [_, _, _], _ => rfl)
    · obtain ⟨m, D, v, z, x, ns, d, tv, ps, t, ord, rfl, _⟩ := h
      rfl
    obtain ⟨m, D, v, z, x, ns, d, tv, ps, t, ord, rfl, ah, tq, tel, nt, tb, q⟩ := h
    refine ⟨_, (pss_cons (ps_if (PW.pt (pw_or (pt_not (pt_val (pe_callB call_isi (by rfl) z_isinstance (by decide +kernel) (pa_cons (pv 1) (pa_cons (pe_bltn (v := .ty "tuple") (by rfl) z_tuple (by decide +kernel) rfl) pa_nil))))) (pw_or1 (pt_cmpR op_eq (pe_callB call_len_seq (by rfl) z_len (by decide +kernel) (pa_cons (pv 1) pa_nil)) pe_int (nomark _)))))
      (pss_one (ps_ret pe_bl))
      pss_nil)
      (pss_cons (ps_set (i := 3) sc_l_fits.nd rfl (.inl rfl) (pe_kn G_sort (hr.mono (by decide)) (by rfl) (pa_cons (pv 0) pa_nil)))
      (pss_cons (ps_if (pt_cmpR op_eq (pv 3) pe_str (nomark _))
      (pss_one (ps_ret (pe_cmpR (op_eqD hr.units) (pv 1) (pe_tup (pa_cons (pe_ix ix_list (pe_lst (pa_cons pe_str (pa_cons pe_str pa_nil))) (pe_callTy call_int1 (by rfl) z_int (by decide +kernel) (pa_cons (pe_kn G_so (hr.mono (by decide)) (by rfl) (pa_cons (pv 0) (pa_cons (pv 2) pa_nil))) pa_nil)) (fun _ _ => rfl)) pa_nil)) (nomark _))))
      pss_nil)
      (pss_cons (ps_setLc (i := 4) (own := [("_law_name", 5)]) (g := gName 5) (by rfl) sc_l_fits.nd rfl rfl (sw_true rfl rfl rfl (by decide +kernel)) (pi_list (pe_kn G_l_grounds (hr.mono (by decide)) (by rfl) (pa_cons (pv 0) pa_nil))) (blkOk_by (own := [("_law_name", 5)]) (N := ["_law_making_here", "_law_told", "_law_at", "_law_sort_here", "_law_g", "_law_name", "_law_u", "_law_ring"]) (sc := (defScope s_l_fits)) (by decide +kernel)) (fun _ _ _ _ _ => pg_name (i := 5) sc_l_fits.nd rfl (.inl rfl)) (fun _ _ _ _ _ => pts_nil) (fun _ _ _ _ _ => (pe_slice (show SlR _ (rSlT K) from sl_tup) (pe_dget (u1 hr.units) (pv 2) (pv 5) (fun _ _ => rfl)) (po_some pe_int) po_none)))
      (pss_cons (ps_if (pt_cmpR op_eq (pv 3) pe_str (nomark _))
      (pss_one (ps_ret (pe_and (pe_cmpR op_eq (pe_ix ix_tup (pv 1) pe_int (fun _ _ => rfl)) pe_str (nomark _)) (pe_one (pe_kn G_line_fits (hr.mono (by decide)) (by rfl) (pa_cons (pv 0) (pa_cons (pe_slice sl_tup (pv 1) (po_some pe_int) po_none) (pa_cons (pv 4) pa_nil))))))))
      pss_nil)
      (pss_cons (ps_if (pt_not (pt_val (pe_kn G_is_place (hr.mono (by decide)) (by rfl) (pa_cons (pe_slice sl_tup (pv 1) (po_some pe_int) (po_some pe_int)) pa_nil))))
      (pss_one (ps_ret pe_bl))
      pss_nil)
      (pss_cons (ps_if (pt_cmpR op_eq (pv 3) pe_str (nomark _))
      (pss_cons (ps_if (PW.pt (pw_or (pt_cmpR op_ne (pe_ix ix_tup (pv 1) pe_int (fun _ _ => rfl)) pe_str (nomark _)) (pw_or (pt_cmpR op_ne (pe_callB call_len_seq (by rfl) z_len (by decide +kernel) (pa_cons (pv 1) pa_nil)) pe_int (nomark _)) (pw_or1 (pt_cmpR (op_neD hr.units) (pe_slice sl_tup (pv 1) (po_some pe_int) (po_some pe_int)) (pe_ix ix_list (pv 4) pe_int (fun _ _ => rfl)) (nomark _))))))
      (pss_one (ps_ret pe_bl))
      pss_nil)
      (pss_one (ps_ret (pe_and (pe_kn G_is_frac (hr.mono (by decide)) (by rfl) (pa_cons (pe_ix ix_tup (pv 1) pe_int (fun _ _ => rfl)) pa_nil)) (pe_one (pe_kn G_even (hr.mono (by decide)) (by rfl) (pa_cons (pe_ix ix_tup (pv 1) pe_int (fun _ _ => rfl)) (pa_cons (pe_kn G_l_near (hr.mono (by decide)) (by rfl) (pa_cons (pe_ix ix_list (pv 4) pe_int (fun _ _ => rfl)) (pa_cons (pe_ix ix_list (pv 4) pe_int (fun _ _ => rfl)) pa_nil))) pa_nil))))))))
      pss_nil)
      (pss_cons (ps_if (PW.pt (pw_or (pt_cmpR op_ne (pe_ix ix_tup (pv 1) pe_int (fun _ _ => rfl)) pe_str (nomark _)) (pw_or1 (pt_cmpR op_ne (pe_callB call_len_seq (by rfl) z_len (by decide +kernel) (pa_cons (pv 1) pa_nil)) pe_int (nomark _)))))
      (pss_one (ps_ret pe_bl))
      pss_nil)
      (pss_cons (ps_if (pt_cmpR op_eq (pe_ix ix_tup (pv 0) pe_int (fun _ _ => rfl)) pe_str (nomark _))
      (pss_one (ps_ret (pe_cmpR (op_eqD hr.units) (pe_slice sl_tup (pv 1) (po_some pe_int) po_none) (pe_slice sl_tup (pv 0) (po_some pe_int) po_none) (nomark _))))
      pss_nil)
      (pss_cons (ps_if (pt_cmpR op_ne (pe_ix ix_tup (pv 0) pe_int (fun _ _ => rfl)) pe_str (nomark _))
      (pss_one (ps_ret (pe_kn G_point (hr.mono (by decide)) (by rfl) (pa_cons (pv 0) (pa_cons (pe_slice sl_tup (pv 1) (po_some pe_int) po_none) (pa_cons (pv 4) pa_nil))))))
      pss_nil)
      (pss_cons (ps_set (i := 6) sc_l_fits.nd rfl (.inl rfl) (pe_dget (u1 hr.units) (pv 2) (pe_ix ix_tup (pv 0) pe_int (fun _ _ => rfl)) (fun _ _ => rfl)))
      (pss_cons (ps_set (i := 7) sc_l_fits.nd rfl (.inl rfl) (pe_dget (u1 hr.units) (pv 2) (pe_ix ix_tup (pv 0) pe_int (fun _ _ => rfl)) (fun _ _ => rfl)))
      (pss_cons (ps_if (PW.pt (pw_and (pt_cmpR op_eq (pe_ix ix_tup (pv 6) pe_int (fun _ _ => rfl)) pe_str (nomark _)) (pw_and1 (pt_cmpR op_ne (pe_ix ix_tup (pe_kn G_off (hr.mono (by decide)) (by rfl) (pa_cons (pe_slice sl_tup (pv 1) (po_some pe_int) po_none) (pa_cons (pe_slice sl_tup (pv 6) (po_some pe_int) po_none) pa_nil))) pe_int (fun _ _ => rfl)) pe_int (nomark _)))))
      (pss_one (ps_ret pe_bl))
      pss_nil)
      (pss_cons (ps_if (PW.pt (pw_and (pt_cmpR op_eq (pe_ix ix_tup (pv 6) pe_int (fun _ _ => rfl)) pe_str (nomark _)) (pw_and1 (pt_not (pt_val (pe_kn G_even (hr.mono (by decide)) (by rfl) (pa_cons (pe_kn G_l_near (hr.mono (by decide)) (by rfl) (pa_cons (pe_slice sl_tup (pv 1) (po_some pe_int) po_none) (pa_cons (pe_slice sl_tup (pv 6) (po_some pe_int) (po_some pe_int)) pa_nil))) (pa_cons (pe_ix ix_tup (pv 6) pe_int (fun _ _ => rfl)) pa_nil))))))))
      (pss_one (ps_ret pe_bl))
      pss_nil)
      (pss_cons (ps_if (pt_not (pt_val (pe_kn G_even (hr.mono (by decide)) (by rfl) (pa_cons (pe_kn G_l_near (hr.mono (by decide)) (by rfl) (pa_cons (pe_slice sl_tup (pv 1) (po_some pe_int) po_none) (pa_cons (pe_slice sl_tup (pv 7) (po_some pe_int) (po_some pe_int)) pa_nil))) (pa_cons (pe_ix ix_tup (pv 7) pe_int (fun _ _ => rfl)) pa_nil)))))
      (pss_one (ps_ret pe_bl))
      pss_nil)
      (pss_one (ps_ret (pe_cmpR op_in_seq (pe_kn G_first (hr.mono (by decide)) (by rfl) (pa_cons (pe_slice sl_tup (pv 1) (po_some pe_int) po_none) (pa_cons (pv 6) (pa_cons (pv 7) pa_nil)))) (pe_tup (pa_cons pe_int (pa_cons (pe_ix ix_tup (pv 0) pe_int (fun _ _ => rfl)) pa_nil))) (by rfl))))))))))))))))))), ?_⟩
    obtain ⟨at_, rt, rfl, tah⟩ := tq.head
    show (_ : TS) _ [some (.ref m), some (.ref at_), some (.ref D), none, none, none, none, none] _
    obtain ⟨L, okm⟩ := ah.okm
    obtain ⟨⟨so, gg, tx, lng⟩, _⟩ := id okm
    have few4 : ns.length < 64 := by rw [lng]; exact few tx
    have nog := ah.on.nog
    have fig := ah.on.fig
    refine r_seq ?_
    repeat walk_at "st"
    refine r_isi (tyT tah) rfl ?_
    repeat walk_at "st"
    refine ⟨at_, _, rfl, .inr tah, ?_⟩
    repeat walk_at "st"
    refine r_dF (decide_eq_false (by simp only [List.length_cons]; omega)) ?_
    repeat walk_at "st"
    refine ⟨m, x, ns, L, rfl, ah.mq.mk, okm, fun H1 s1 => ?_⟩
    have ah1 := ah.up s1
    have tq1 := tq.kp (Kp.same (K := K) s1)
    clear tah
    repeat walk_at "st"
    refine r_seq ?_
    repeat walk_at "st"
    by_cases cl : x ∈ claimW
    · obtain ⟨b, hd, et⟩ := tel_claim nog cl tel
      have so_c : sOf x = "claim" := by
        rw [sOf_eq tx]
        exact claim_so tx cl
      rw [so_c, if_pos (by decide)]
      repeat walk_at "st"
      refine ⟨sz rfl, fun o no => ?_⟩
      have gl := same_new no (.lst [V.str "broken", .str "kept"])
      have el : SqL K (upd H1 o (.lst [V.str "broken", .str "kept"])) o [.str "broken", .str "kept"] := lstOf upd_same
      generalize upd H1 o (.lst [V.str "broken", .str "kept"]) = H2 at *
      repeat walk_at "st"
      refine ⟨m, D, x, ns, d, tv, ps, b, rfl, ah1.up gl, hd, fun H3 g3 => ?_⟩
      have el3 := g3.seq el
      repeat walk_at "st"
      refine .inr ⟨_, rfl, ?_⟩
      cases b with
      | true =>
        refine r_ixL (v := .str "kept") el3 rfl ?_
        repeat walk_at "st"
        refine ⟨sz rfl, fun o2 no2 => ?_⟩
        have g4 := same_new no2 (.tup [V.str "kept"])
        have gg4 := gl.trans (g3.trans g4)
        rw [if_pos rfl] at et
        subst et
        exact r_eqTell (tq1.kp (Kp.same gg4)) (show Tq K _ (.ref o2) .kept from ⟨o2, rfl, tupOf upd_same⟩) trivial (q _ (s1.trans gg4))
      | false =>
        refine r_ixL (v := .str "broken") el3 rfl ?_
        repeat walk_at "st"
        refine ⟨sz rfl, fun o2 no2 => ?_⟩
        have g4 := same_new no2 (.tup [V.str "broken"])
        have gg4 := gl.trans (g3.trans g4)
        rw [if_neg (by decide)] at et
        subst et
        exact r_eqTell (tq1.kp (Kp.same gg4)) (show Tq K _ (.ref o2) .broken from ⟨o2, rfl, tupOf upd_same⟩) trivial (q _ (s1.trans gg4))
    have nc : sOf x ≠ "claim" := by
      rw [sOf_eq tx]
      intro e
      subst e
      exact cl (claimW_of tx)
    rw [if_neg (fun z => nc (of_decide_eq_true z))]
    repeat walk_at "st"
    refine r_lcM ?_
    repeat walk_at "st"
    refine ⟨m, x, ns, L, rfl, ah1.mq.mk, okm, fun G1 H2 s2 n2 e2 => ?_⟩
    refine lc_mk (xs := ns) (fun _ v z => v = .str z) (fun H v z => Pt K H v (lookT ps z)) (fun _ h => h) (fun k h => h.kp k) (lstOf e2) (paired_strs ns) (by omega) (fun _ => rfl) (fun v z H' hm e g' S k => ?_) fun G gs H3 s3 n3 eG pG => ?_
    · subst e
      have a2 := ah1.up (s2.trans g')
      repeat walk_at "st"
      refine r_slR ?_
      repeat walk_at "st"
      refine r_dg ?_
      repeat walk_at "st"
      refine ⟨D, _, rfl, get_told a2.dD a2.tos (a2.inP z hm), ?_⟩
      refine r_partR ?_
      repeat walk_at "st"
      refine r_noP ?_
      exact r_slTell (a2.tos.look (a2.inP z hm)).2.1 (fig _ (List.mem_map_of_mem hm)) fun p H'' s'' hp => k _ _ s'' hp
    have s23 := s2.trans s3
    have ah3 := ah1.up s23
    have tq3 := tq1.kp (Kp.same (K := K) s23)
    have s13 := s1.trans s23
    replace pG := paired_mapR (f := lookT ps) pG
    have hG : SqL K H3 G gs := lstOf eG
    have on31 := ah.on
    have onK := ah.on
    have nr := ah.nr
    have mq3 := ah3.mq
    obtain ⟨xs, tm⟩ : ∃ xs, SqT K H3 m (.str x :: xs) := by obtain ⟨r, tm, _⟩ := ah3.mq; exact ⟨_, tm⟩
    have len : ns.length = (ns.map (lookT ps)).length := by rw [List.length_map]
    clear e2 s1 s2 s3 s23 n2 n3 eG ah1 tq1
    generalize hon : ns.map (lookT ps) = on at *
    repeat walk_at "st"
    by_cases hpw : x ∈ (["middle", "next", "turn", "share", "foot", "mirror", "meet"] : List Str)
    · have so_x : sOf x = "point" := (show ∀ y ∈ (["middle", "next", "turn", "share", "foot", "mirror", "meet"] : List Str), sOf y = "point" by decide +kernel) x hpw
      have hxf : x ≠ "free" := fun e => absurd hpw (by rw [e]; decide)
      have hxc : x ≠ "cut" := fun e => absurd hpw (by rw [e]; decide)
      have fg := tel_fig nog hxc cl nt tel
      obtain ⟨X, Y, rfl⟩ : ∃ X Y, t = .pt X Y := by cases fg <;> first | exact ⟨_, _, rfl⟩ | exact absurd hpw (by decide)
      obtain ⟨a', fv, gv, e, ta, hf, hg⟩ := tq3
      cases e
      have zX := Jh.x (show Jh 3000 X Y from tb)
      have zY := Jh.y (show Jh 3000 X Y from tb)
      refine r_seq ?_
      repeat walk_at "st"
      rw [so_x]
      rw [if_neg (by decide)]
      repeat walk_at "st"
      refine r_seq ?_
      repeat walk_at "st"
      refine r_slR ?_
      repeat walk_at "st"
      refine r_partR ?_
      repeat walk_at "st"
      refine r_partR ?_
      repeat walk_at "st"
      refine r_slMid ta fun pa H4 s4 k4 => ?_
      have ta4 := s4.tp ta
      have tm4 := s4.tp tm
      repeat walk_at "st"
      refine ⟨_, X, Y, rfl, ⟨pa, fv, gv, rfl, k4, hf.up s4, hg.up s4⟩, ?_⟩
      repeat walk_at "st"
      refine r_seq ?_
      repeat walk_at "st"
      rw [if_neg (by decide)]
      repeat walk_at "st"
      refine r_seq ?_
      repeat walk_at "st"
      refine r_neX ?_
      repeat walk_at "st"
      rw [if_neg (by decide)]
      repeat walk_at "st"
      refine ⟨at_, _, rfl, .inr ta4, ?_⟩
      repeat walk_at "st"
      refine r_dF (by simp) ?_
      repeat walk_at "st"
      refine r_seq ?_
      repeat walk_at "st"
      refine r_ixT0 tm4 ?_
      repeat walk_at "st"
      rw [if_neg (fun z => hxf (of_decide_eq_true z))]
      repeat walk_at "st"
      refine r_seq ?_
      repeat walk_at "st"
      refine r_ixT0 tm4 ?_
      repeat walk_at "st"
      refine r_neX ?_
      repeat walk_at "st"
      rw [if_pos (by rw [decide_eq_false hxc]; rfl)]
      repeat walk_at "st"
      refine r_slR ?_
      repeat walk_at "st"
      refine r_partR ?_
      repeat walk_at "st"
      refine r_noP ?_
      refine r_slTell (t := .pt X Y) ⟨at_, fv, gv, rfl, ta4, hf.up s4, hg.up s4⟩ (.inl rfl) fun p H5 s5 hp => ?_
      have s45 := s4.trans s5
      repeat walk_at "st"
      exact ⟨m, G, _, x, ns, d, gs, _, X, Y, rfl, mq3.kp (Kp.same s45), len, hp, zX, zY, s45.seq hG, Paired.mapP pG fun _ _ h => h.kp (Kp.same s45), onK, nr, fg, hxf, fun H' s' => q _ (s13.trans (s45.trans s'))⟩
    by_cases hlw : x ∈ (["line", "along", "upright"] : List Str)
    · have so_x : sOf x = "line" := (show ∀ y ∈ (["line", "along", "upright"] : List Str), sOf y = "line" by decide +kernel) x hlw
      have hxc : x ≠ "cut" := fun e => absurd hlw (by rw [e]; decide)
      have fg := tel_fig nog hxc cl nt tel
      obtain ⟨a, b, c, rfl⟩ : ∃ a b c, t = .ln a b c := by cases fg <;> first | exact ⟨_, _, _, rfl⟩ | exact absurd hlw (by decide)
      obtain ⟨a', e, ta⟩ := tq3
      cases e
      obtain ⟨L1, sa, sb, sc⟩ := tb
      refine r_seq ?_
      repeat walk_at "st"
      rw [so_x]
      rw [if_pos (by decide)]
      repeat walk_at "st"
      rw [if_pos (by decide)]
      repeat walk_at "st"
      refine r_slR ?_
      repeat walk_at "st"
      refine r_partR ?_
      repeat walk_at "st"
      refine r_noP ?_
      refine r_slTell (t := .ln a b c) ⟨at_, rfl, ta⟩ (.inr (.inl rfl)) fun p H4 s4 hp => ?_
      repeat walk_at "st"
      exact ⟨m, G, _, x, ns, d, gs, _, a, b, c, rfl, mq3.kp (Kp.same s4), len, hp, sa, sb, sc, s4.seq hG, Paired.mapP pG fun _ _ h => h.kp (Kp.same s4), onK, fg, fun H' s' => q _ (s13.trans (s4.trans s'))⟩
    cases on31 with
    | free =>
      have fg := tel_fig nog (by decide) (by decide) nt tel
      obtain ⟨X, Y, rfl⟩ : ∃ X Y, t = .pt X Y := by cases fg <;> exact ⟨_, _, rfl⟩
      obtain ⟨a', fv, gv, e, ta, hf, hg⟩ := tq3
      cases e
      have zX := Jh.x (show Jh 3000 X Y from tb)
      have zY := Jh.y (show Jh 3000 X Y from tb)
      refine r_seq ?_
      repeat walk_at "st"
      rw [show sOf "free" = "point" by decide +kernel]
      rw [if_neg (by decide)]
      repeat walk_at "st"
      refine r_seq ?_
      repeat walk_at "st"
      refine r_slR ?_
      repeat walk_at "st"
      refine r_partR ?_
      repeat walk_at "st"
      refine r_partR ?_
      repeat walk_at "st"
      refine r_slMid ta fun pa H4 s4 k4 => ?_
      have ta4 := s4.tp ta
      have tm4 := s4.tp tm
      repeat walk_at "st"
      refine ⟨_, X, Y, rfl, ⟨pa, fv, gv, rfl, k4, hf.up s4, hg.up s4⟩, ?_⟩
      repeat walk_at "st"
      refine r_seq ?_
      repeat walk_at "st"
      rw [if_neg (by decide)]
      repeat walk_at "st"
      refine r_seq ?_
      repeat walk_at "st"
      refine r_neX ?_
      repeat walk_at "st"
      rw [if_neg (by decide)]
      repeat walk_at "st"
      refine ⟨at_, _, rfl, .inr ta4, ?_⟩
      repeat walk_at "st"
      refine r_dF (by simp) ?_
      repeat walk_at "st"
      refine r_seq ?_
      repeat walk_at "st"
      refine r_ixT0 tm4 ?_
      repeat walk_at "st"
      rw [if_pos (by decide)]
      repeat walk_at "st"
      refine r_slR ?_
      repeat walk_at "st"
      refine r_partR ?_
      repeat walk_at "st"
      refine r_noP ?_
      refine r_slTell (t := .pt X Y) ⟨at_, fv, gv, rfl, ta4, hf.up s4, hg.up s4⟩ (.inl rfl) fun p H5 s5 hp => ?_
      have s45 := s4.trans s5
      repeat walk_at "st"
      obtain ⟨r, tmr, tl⟩ := mq3
      cases fg with
      | free =>
        obtain ⟨_, u1, u2, rfl, hu1, hu2⟩ := tl
        obtain rfl : ns = [] := map_nil' hon
        have tm5 : SqT K H5 m [.str "free", u1, u2] := s45.tp tmr
        refine r_slR ?_
        repeat walk_at "st"
        refine r_partR ?_
        repeat walk_at "st"
        refine r_noP ?_
        refine ⟨m, _, rfl, tm5, cut_part, fun p6 hp6 => ?_⟩
        rw [cut_tail]
        have s6 := same_new hp6 (.tup [u1, u2])
        exact r_eqP (Pq.up hp s6) ⟨p6, u1, u2, rfl, tupOf upd_same, hu1.up (s45.trans s6), hu2.up (s45.trans s6)⟩ ⟨rfl, rfl⟩ (q _ (s13.trans (s45.trans s6)))
    | @pp _ x1 y1 x2 y2 n m' h j1 j2 l =>
      simp only [List.mem_cons, List.not_mem_nil, or_false] at h
      rcases h with rfl | rfl | rfl | rfl | rfl | rfl
      iterate 4 (· exact absurd (by decide) hpw)
      · exact absurd (by decide) hlw
      · skip
        have fg := tel_fig nog (by decide) (by decide) nt tel
        obtain ⟨r, tmr, tl⟩ := mq3
        cases fg with
        | @circle _ _ _ _ ne =>
          obtain ⟨a', fv, gv, sv, e, ta, hf, hg, hs⟩ := tq3
          cases e
          obtain ⟨u1, u2, rfl, p1, p2⟩ := two_list pG
          have p1' : Pq K H3 u1 x1 y1 := p1
          have p2' : Pq K H3 u2 x2 y2 := p2
          refine r_seq ?_
          repeat walk_at "st"
          rw [show sOf "circle" = "circle" by decide +kernel]
          rw [if_neg (by decide)]
          repeat walk_at "st"
          refine r_seq ?_
          repeat walk_at "st"
          refine r_slR ?_
          repeat walk_at "st"
          refine r_partR ?_
          repeat walk_at "st"
          refine r_partR ?_
          repeat walk_at "st"
          refine r_slMid ta fun pa H4 s4 k4 => ?_
          have ta4 := s4.tp ta
          have tm4 := s4.tp tm
          repeat walk_at "st"
          refine ⟨_, x1, y1, rfl, ⟨pa, fv, gv, rfl, k4, hf.up s4, hg.up s4⟩, ?_⟩
          repeat walk_at "st"
          refine r_seq ?_
          repeat walk_at "st"
          rw [if_pos (by decide)]
          refine r_seq ?_
          repeat walk_at "st"
          refine r_neX ?_
          repeat walk_at "st"
          rw [if_neg (by decide)]
          repeat walk_at "st"
          refine ⟨at_, _, rfl, .inr ta4, ?_⟩
          repeat walk_at "st"
          refine r_dF (by simp) ?_
          repeat walk_at "st"
          refine r_slR ?_
          repeat walk_at "st"
          refine r_partR ?_
          repeat walk_at "st"
          refine r_partR ?_
          repeat walk_at "st"
          refine r_slMid ta4 fun pb H5 s5 k5 => ?_
          have s45 := s4.trans s5
          have hG5 := s45.seq hG
          have ta5 := s5.tp ta4
          repeat walk_at "st"
          refine r_neP (x := x1) (y := y1) (x' := x1) (y' := y1) ⟨pb, fv, gv, rfl, k5, hf.up s45, hg.up s45⟩ (p1'.up s45) ⟨rfl, rfl⟩ ?_
          repeat walk_at "st"
          refine ⟨sv, _, rfl, hs.up s45, ?_⟩
          repeat walk_at "st"
          refine ⟨u1, u2, x1, y1, x2, y2, _, _, rfl, p1'.up s45, p2'.up s45, j1.x, j1.y, j2.x, j2.y, by omega, fun r1 H6 s6 e6 => ?_⟩
          repeat walk_at "st"
          have zs := (show Ch 3000 x1 y1 _ from tb).szs
          refine ⟨sv, r1, _, _, _, _, rfl, (hs.up (s45.trans s6)).rq zs, e6, by omega, by omega, ?_⟩
          rw [decide_eq_true (show (x2 - x1) * (x2 - x1) + (y2 - y1) * (y2 - y1) = (x1 - x2) * (x1 - x2) + (y1 - y2) * (y1 - y2) by grind)]
          exact q _ (s13.trans (s45.trans s6))
    | @pl _ x1 y1 a1 b1 c1 n m' h j1 j2 l =>
      simp only [List.mem_cons, List.not_mem_nil, or_false] at h
      rcases h with rfl | rfl | rfl | rfl
      iterate 2 (· exact absurd (by decide) hpw)
      iterate 2 (· exact absurd (by decide) hlw)
    | @ll _ a1 b1 c1 a2 b2 c2 n m' h t1 t2 l =>
      simp only [List.mem_cons, List.not_mem_nil, or_false] at h
      rcases h with rfl | rfl | rfl
      · exact absurd (by decide) hpw
      · exact absurd (by decide) cl
      · exact absurd (by decide) cl
    | p3 _ _ _ _ => exact absurd (by decide) cl
    | p4 h _ _ _ _ _ _ _ _ _ =>
      simp only [List.mem_cons, List.not_mem_nil, or_false] at h
      rcases h with rfl | rfl
      · exact absurd (by decide) cl
      · exact absurd (by decide) cl
    | @cut c k m2 x0 y0 s0 cv =>
      obtain ⟨w1, w2, rfl, hw1, hw2⟩ := map_two hon
      obtain ⟨r, tmr, tl⟩ := mq3
      have hcn : ∃ n, d = .ct n ∧ (n = 1 ∨ n = 2) ∧ r = [.int n] := by
        cases d with
        | ct n => exact ⟨n, rfl, nr, tl.2⟩
        | fr p q => exact absurd tl.1 (by decide)
        | sh t => exact absurd tl.1 (by decide)
        | no => exact absurd rfl tl.2.2.1
      obtain ⟨n, rfl, hn, rfl⟩ := hcn
      replace tmr : SqT K H3 m [.str "cut", .str w1, .str w2, .int n] := tmr
      obtain ⟨n', e', kc⟩ := tel_cut tel nog
      cases e'
      have cw : ∀ A B C, Chd c x0 y0 s0 A B C → CutW z n c x0 y0 s0 A B C t := by
        cases cv with
        | ln l sa sb sc ch h => exact fun A B C hc => cutW_ln l hn kc hc
        | @ci x2 y2 s2 _ _ _ _ _ c2 ch h =>
          refine fun A B C hc => (cutW_ci hn kc hc).2 fun e => ?_
          have := (cutW_ci hn kc hc).1 e
          rw [this] at nt
          exact nt rfl
      have hcd : ∃ A B C, Chd c x0 y0 s0 A B C := by
        cases cv with
        | ln l sa sb sc ch h => exact ⟨_, _, _, rfl, rfl, rfl⟩
        | ci c2 ch h => exact ⟨_, _, _, rfl, rfl, rfl⟩
      obtain ⟨A0, B0, C0, hc0⟩ := hcd
      have w0 := cw A0 B0 C0 hc0
      have hroot : ∃ r : Rat, r * r = s0 * (A0 * A0 + B0 * B0) - (C0 - (A0 * x0 + B0 * y0)) * (C0 - (A0 * x0 + B0 * y0)) := by
        apply Classical.byContradiction
        intro nr0
        by_cases neg : s0 * (A0 * A0 + B0 * B0) - (C0 - (A0 * x0 + B0 * y0)) * (C0 - (A0 * x0 + B0 * y0)) < 0
        · exact nt (by rw [w0.miss neg]; rfl)
        · exact nt (by rw [w0.root (Rat.not_lt.mp neg) nr0]; rfl)
      obtain ⟨X, Y, rfl, ring_, crv, _⟩ := w0.at_ hroot
      have ord0 : ∀ A B C v, Chd c x0 y0 s0 A B C → v * (A * A + B * B) = C - (A * x0 + B * y0) → ordN (X - (x0 + A * v)) (Y - (y0 + B * v)) = 0 ∨ ordN (X - (x0 + A * v)) (Y - (y0 + B * v)) = n := fun A B C v hc hv => by
        obtain ⟨eA, eB, eC⟩ : A = A0 ∧ B = B0 ∧ C = C0 := by
          cases cv with
          | ln l sa sb sc ch h => obtain ⟨rfl, rfl, rfl⟩ := hc; obtain ⟨rfl, rfl, rfl⟩ := hc0; exact ⟨rfl, rfl, rfl⟩
          | ci c2 ch h => obtain ⟨rfl, rfl, rfl⟩ := hc; obtain ⟨rfl, rfl, rfl⟩ := hc0; exact ⟨rfl, rfl, rfl⟩
        subst eA eB eC
        obtain ⟨p, q', e, _, _, k⟩ := w0.at_ hroot
        cases e
        exact k v hv
      have nzz : ∀ A B C, Chd c x0 y0 s0 A B C → A * A + B * B ≠ 0 := fun A B C hc => (cw A B C hc).nz
      have tl1 : Tq K H3 (lookV tv w1) c := by have := (ah3.tos.look (ah3.inP w1 (by simp))).2.1; rw [hw1] at this; exact this
      have tl2 : Tq K H3 (lookV tv w2) (.ci x0 y0 s0) := by have := (ah3.tos.look (ah3.inP w2 (by simp))).2.1; rw [hw2] at this; exact this
      have gt1 := fun {H'} (s : Same H3 H') => get_told ((ah3.up s).dD) (ah3.up s).tos (ah3.inP w1 (by simp))
      have gt2 := fun {H'} (s : Same H3 H') => get_told ((ah3.up s).dD) (ah3.up s).tos (ah3.inP w2 (by simp))
      obtain ⟨a', fv, gv, e, ta, hf, hg⟩ := tq3
      cases e
      have jXY : Jh 3000 X Y := tb
      have zX := jXY.x
      have zY := jXY.y
      obtain ⟨chh, m3⟩ := cv.ch
      refine r_seq ?_
      repeat walk_at "st"
      rw [show sOf "cut" = "point" by decide +kernel]
      rw [if_neg (by decide)]
      repeat walk_at "st"
      refine r_seq ?_
      repeat walk_at "st"
      refine r_slR ?_
      repeat walk_at "st"
      refine r_partR ?_
      repeat walk_at "st"
      refine r_partR ?_
      repeat walk_at "st"
      refine r_slMid ta fun pa H4 s4 k4 => ?_
      have ta4 := s4.tp ta
      have tm4 := s4.tp tm
      repeat walk_at "st"
      refine ⟨_, X, Y, rfl, ⟨pa, fv, gv, rfl, k4, hf.up s4, hg.up s4⟩, ?_⟩
      repeat walk_at "st"
      refine r_seq ?_
      repeat walk_at "st"
      rw [if_neg (by decide)]
      repeat walk_at "st"
      refine r_seq ?_
      repeat walk_at "st"
      refine r_neX ?_
      repeat walk_at "st"
      rw [if_neg (by decide)]
      repeat walk_at "st"
      refine ⟨at_, _, rfl, .inr ta4, ?_⟩
      repeat walk_at "st"
      refine r_dF (by simp) ?_
      repeat walk_at "st"
      refine r_seq ?_
      repeat walk_at "st"
      refine r_ixT0 tm4 ?_
      repeat walk_at "st"
      rw [if_neg (by decide)]
      repeat walk_at "st"
      refine r_seq ?_
      repeat walk_at "st"
      refine r_ixT0 tm4 ?_
      repeat walk_at "st"
      refine r_neX ?_
      repeat walk_at "st"
      rw [if_neg (by decide)]
      have tmr4 := s4.tp tmr
      repeat walk_at "st"
      refine r_dg ?_
      repeat walk_at "st"
      refine ⟨D, _, rfl, gt1 s4, ?_⟩
      repeat walk_at "st"
      refine r_dg ?_
      repeat walk_at "st"
      refine ⟨D, _, rfl, gt2 s4, ?_⟩
      have tl14 := tl1.kp (Kp.same (K := K) s4)
      have tl24 := tl2.kp (Kp.same (K := K) s4)
      obtain ⟨aw, fx, fy, fs, ew, tw, hx, hy, hs⟩ := id tl24
      rw [ew] at tl24 ⊢
      obtain ⟨au, ru, eu, tau⟩ := tl14.head
      rw [eu] at tl14 ⊢
      repeat walk_at "st"
      with_reducible refine r_cut (fun σ H' => σ = [some (.ref m), some (.ref at_), some (.ref D), some (.str "point"), some (.ref G), none, some (.ref au), some (.ref aw)] ∧ Same H4 H') ?U1 ?V1
      case V1 =>
        intro N J
        repeat walk_at "st"
        refine r_ixT0 tau ?_
        repeat walk_at "st"
        cases cv with
        | @ln a b c1 _ _ _ _ _ l sa sb sc ch' h =>
          rw [if_pos (decide_eq_true (show tagOf (.ln a b c1) = "line" from rfl))]
          repeat walk_at "st"
          refine r_slR ?_
          repeat walk_at "st"
          refine r_partR ?_
          repeat walk_at "st"
          refine r_noP ?_
          refine r_slTell (t := .pt X Y) ⟨at_, fv, gv, rfl, ta4, hf.up s4, hg.up s4⟩ (.inl rfl) fun p H5 s5 hp => ?_
          repeat walk_at "st"
          refine r_slR ?_
          repeat walk_at "st"
          refine r_partR ?_
          repeat walk_at "st"
          refine r_noP ?_
          refine r_slTell (tl14.kp (Kp.same s5)) (.inr (.inl rfl)) fun p6 H6 s6 hp6 => ?_
          repeat walk_at "st"
          obtain ⟨p', f5, g5, e5, t5, hf5, hg5⟩ : Pq K H5 (.ref p) X Y := hp
          cases e5
          refine ⟨p, f5, g5, _, X, Y, a, b, c1, rfl, s6.tp t5, (hf5.up s6).rq (zX.mono (by decide)), (hg5.up s6).rq (zY.mono (by decide)), hp6, sa.mono (by omega), sb.mono (by omega), sc.mono (by omega), fun r7 H7 s7 e7 => ?_⟩
          have e7' := e7.cast (show (a : Rat) * X + b * Y - c1 = 0 by have : (a : Rat) * X + b * Y = c1 := crv; grind)
          repeat walk_at "st"
          refine r_ixR0 e7' fun tt hz => ?_
          repeat walk_at "st"
          rw [decide_eq_true (hz.mpr rfl)]
          repeat walk_at "st"
          exact J _ _ ⟨rfl, s5.trans (s6.trans s7)⟩
        | @ci x2 y2 s2 _ _ _ _ _ c2 ch' h =>
          rw [if_neg (fun z : decide (tagOf (.ci x2 y2 s2) = "line") = true => absurd (show tagOf (.ci x2 y2 s2) = "line" from of_decide_eq_true z) (show ¬ (("circle" : Str) = "line") by decide))]
          repeat walk_at "st"
          exact J _ _ ⟨rfl, Same.refl _⟩
      rintro σ H5 ⟨rfl, s5⟩
      have tau5 := s5.tp tau
      have ta5 := s5.tp ta4
      have tl15 := tl14.kp (Kp.same (K := K) s5)
      repeat walk_at "st"
      with_reducible refine r_cut (fun σ H' => σ = [some (.ref m), some (.ref at_), some (.ref D), some (.str "point"), some (.ref G), none, some (.ref au), some (.ref aw)] ∧ Same H5 H') ?U2 ?V2
      case V2 =>
        intro N J
        repeat walk_at "st"
        refine r_ixT0 tau5 ?_
        repeat walk_at "st"
        cases cv with
        | @ln a b c1 _ _ _ _ _ l sa sb sc ch' h =>
          rw [if_neg (fun z : decide (tagOf (.ln a b c1) = "circle") = true => absurd (show tagOf (.ln a b c1) = "circle" from of_decide_eq_true z) (show ¬ (("line" : Str) = "circle") by decide))]
          repeat walk_at "st"
          exact J _ _ ⟨rfl, Same.refl _⟩
        | @ci x2 y2 s2 _ _ _ _ _ c2 ch' h =>
          rw [if_pos (decide_eq_true (show tagOf (.ci x2 y2 s2) = "circle" from rfl))]
          obtain ⟨au', ux, uy, us, e, tu, ex, ey, es⟩ := tl15
          cases e
          repeat walk_at "st"
          refine r_slR ?_
          repeat walk_at "st"
          refine r_partR ?_
          repeat walk_at "st"
          refine r_noP ?_
          refine r_slTell (t := .pt X Y) ⟨at_, fv, gv, rfl, ta5, (hf.up s4).up s5, (hg.up s4).up s5⟩ (.inl rfl) fun p H6 s6 hp => ?_
          have tu6 := s6.tp tu
          repeat walk_at "st"
          refine r_slR ?_
          repeat walk_at "st"
          refine r_partR ?_
          repeat walk_at "st"
          refine r_partR ?_
          repeat walk_at "st"
          refine r_slMid tu6 fun p7 H7 s7 k7 => ?_
          have s67 := s6.trans s7
          repeat walk_at "st"
          refine ⟨_, _, X, Y, x2, y2, 3000, _, rfl, Pq.up hp s7, ⟨p7, ux, uy, rfl, k7, ex.up s67, ey.up s67⟩, zX, zY, c2.jh.x, c2.jh.y, by omega, fun r8 H8 s8 e8 => ?_⟩
          have tu8 := (s67.trans s8).tp tu
          repeat walk_at "st"
          refine ⟨r8, us, _, _, _, _, rfl, e8, (es.up (s67.trans s8)).rq c2.szs, by omega, by omega, ?_⟩
          rw [decide_eq_true (show (X - x2) * (X - x2) + (Y - y2) * (Y - y2) = s2 from crv)]
          repeat walk_at "st"
          exact J _ _ ⟨rfl, s67.trans s8⟩
      rintro σ H6 ⟨rfl, s6⟩
      have s46 := s5.trans s6
      have ta6 := s46.tp ta4
      have tw6 := s46.tp tw
      have tl16 := tl14.kp (Kp.same (K := K) s46)
      have tl26 := tl24.kp (Kp.same (K := K) s46)
      have s06 := s4.trans s46
      repeat walk_at "st"
      refine r_seq ?_
      repeat walk_at "st"
      refine r_slR ?_
      repeat walk_at "st"
      refine r_partR ?_
      repeat walk_at "st"
      refine r_noP ?_
      refine r_slTell (t := .pt X Y) ⟨at_, fv, gv, rfl, ta6, hf.up s06, hg.up s06⟩ (.inl rfl) fun p H7 s7 hp => ?_
      have tw7 := s7.tp tw6
      repeat walk_at "st"
      refine r_slR ?_
      repeat walk_at "st"
      refine r_partR ?_
      repeat walk_at "st"
      refine r_partR ?_
      repeat walk_at "st"
      refine r_slMid tw7 fun p8 H8 s8 k8 => ?_
      have s68 := s7.trans s8
      have s48 := s46.trans s68
      repeat walk_at "st"
      refine ⟨_, _, X, Y, x0, y0, 3000, _, rfl, Pq.up hp s8, ⟨p8, fx, fy, rfl, k8, hx.up s48, hy.up s48⟩, zX, zY, chh.jh.x, chh.jh.y, by omega, fun r9 H9 s9 e9 => ?_⟩
      have s69 := s68.trans s9
      have tw9 := s69.tp tw6
      have ta9 := s69.tp ta6
      repeat walk_at "st"
      refine ⟨r9, fs, _, _, _, _, rfl, e9, (hs.up (s48.trans s9)).rq chh.szs, by omega, by omega, ?_⟩
      rw [decide_eq_true ring_]
      repeat walk_at "st"
      refine r_slR ?_
      repeat walk_at "st"
      refine r_partR ?_
      repeat walk_at "st"
      refine r_noP ?_
      have s09 := s06.trans s69
      refine r_slTell (t := .pt X Y) ⟨at_, fv, gv, rfl, ta9, hf.up s09, hg.up s09⟩ (.inl rfl) fun pA HA sA hpA => ?_
      have s0A := s09.trans sA
      have tmA := s0A.tp tmr
      repeat walk_at "st"
      refine ⟨_, _, _, X, Y, c, x0, y0, s0, k, m2, rfl, hpA, zX, zY, tl16.kp (Kp.same (s69.trans sA)), tl26.kp (Kp.same (s69.trans sA)), cv, nzz, fun A B C v HB sB hc hv => ?_⟩
      have tmB := sB.tp tmA
      have od := ord0 A B C v hc hv
      generalize ordN (X - (x0 + A * v)) (Y - (y0 + B * v)) = o9 at *
      repeat walk_at "st"
      refine ⟨sz rfl, fun oC nC => ?_⟩
      have sC := same_new nC (.tup [V.int 0, .int n])
      refine ⟨oC, _, rfl, .inr (tupOf upd_same), rfl, rfl, ?_⟩
      have inn : inV (.int o9) [.int 0, .int n] = true := by
        rcases od with rfl | rfl
        · simp [inV, L2.eqV]
        · simp [inV, L2.eqV]
      rw [if_neg (by decide), inn]
      exact q _ (s13.trans (s0A.trans (sB.trans sC)))
  ) only [↓Mb.dischW]
theorem ok_l_holds (F : Fn K mg "_law_holds" s_l_holds) (G_l_grounds : Kn P w K mg base 1 "_law_grounds" ["_law_making_here"] (spGroundsL K)) (G_fail : Kn P w K mg base 5 "_law_fail" ["_law_making_here", "_law_at"] (spFail31 K)) (G_l_fits : Kn P w K mg base 9 "_law_fits" ["_law_making_here", "_law_told", "_law_at"] (spFits31 K)) (z_len : mg "len" = none) (z_range : mg "range" = none) : Kn P w K mg base 10 "_law_holds" ["_law_sheet"] (spHolds31 K) := by
  refine Mb.ofW ?_
  simp (discharger := with_unfolding_all
    refine F.kn sc_l_holds (fun vs H Q E h => ?_) (fun f cdv A outer s H vs Q E hr h => ?_) (fun _ _ _ _ _ _ us hl => match us, hl with | [_], _ => rfl)
    · obtain ⟨l, us, ts, out, rfl, _⟩ := h
      rfl
    obtain ⟨l, us, ts, out, rfl, hl, pw, gr, n60, ar, q⟩ := h
    refine ⟨_, (pss_cons (ps_set (i := 1) sc_l_holds.nd rfl (.inr rfl) pe_dnewK)
      (pss_cons (ps_set (i := 2) sc_l_holds.nd rfl (.inl rfl) pe_dnewK)
      (pss_cons (ps_for PassesOwn.never rfl (pi_range1 (by rfl) z_range (pa_cons (pe_callB call_len_seq (by rfl) z_len (by decide +kernel) (pa_cons (pv 0) pa_nil)) pa_nil)) (pg_name (i := 3) sc_l_holds.nd rfl (.inl rfl))
      (pss_cons (ps_asg (pe_ix ix_list (pv 0) (pv 3) (fun _ _ => rfl)) (pg_tup (by rfl) (pgs_cons (pg_name (i := 4) sc_l_holds.nd rfl (.inl rfl)) (pgs_cons (pg_name (i := 5) sc_l_holds.nd rfl (.inl rfl)) (pgs_cons (pg_name (i := 6) sc_l_holds.nd rfl (.inl rfl)) pgs_nil)))))
      (pss_cons (ps_setLc (i := 7) (own := [("_law_one", 8)]) (g := gName 8) (by rfl) sc_l_holds.nd rfl rfl (sw_true rfl rfl rfl (by decide +kernel)) (pi_list (pe_kn G_l_grounds (hr.mono (by decide)) (by rfl) (pa_cons (pv 5) pa_nil))) (blkOk_by (own := [("_law_one", 8)]) (N := ["_law_sheet", "_law_at", "_law_ranks", "_law_k", "_law_name", "_law_making_here", "_law_told", "_law_gone", "_law_one", "_law_due", "_law_word"]) (sc := (defScope s_l_holds)) (by decide +kernel)) (fun _ _ _ _ _ => pg_name (i := 8) sc_l_holds.nd rfl (.inl rfl)) (fun _ _ _ _ _ => pts_one (pt_cmpR op_eq (pe_ix (show IxR _ (rIxT K) from ix_tup) (pe_dget (u1 hr.units) (pv 1) (pv 8) (fun _ _ => rfl)) pe_int (fun _ _ => rfl)) pe_str (nomark _))) (fun _ _ _ _ _ => (pe_dget (u1 hr.units) (pv 1) (pv 8) (fun _ _ => rfl))))
      (pss_cons (ps_if (pt_cmpR op_gt (pe_callB call_len_seq (by rfl) z_len (by decide +kernel) (pa_cons (pv 7) pa_nil)) pe_int (nomark _))
      (pss_cons (ps_set (i := 9) sc_l_holds.nd rfl (.inl rfl) (pe_ix ix_list (pv 7) pe_int (fun _ _ => rfl)))
      (pss_cons (ps_for PassesOwn.never rfl (pi_list (pv 7)) (pg_name (i := 8) sc_l_holds.nd rfl (.inl rfl))
      (pss_one (ps_if (pt_cmpR op_lt (pe_dget (u1 hr.units) (pv 2) (pe_ix ix_tup (pv 8) pe_int (fun _ _ => rfl)) (fun _ _ => rfl)) (pe_dget (u1 hr.units) (pv 2) (pe_ix ix_tup (pv 9) pe_int (fun _ _ => rfl)) (fun _ _ => rfl)) (nomark _))
      (pss_one (ps_set (i := 9) sc_l_holds.nd rfl (.inl rfl) (pv 8)))
      pss_nil)))
      (pss_one (ps_if (pt_cmpR (op_neD hr.units) (pv 6) (pv 9) (nomark _))
      (pss_one (ps_ret pe_bl))
      pss_nil))))
      (pss_cons (ps_set (i := 10) sc_l_holds.nd rfl (.inl rfl) (pe_kn G_fail (hr.mono (by decide)) (by rfl) (pa_cons (pv 5) (pa_cons (pv 1) pa_nil))))
      (pss_cons (ps_if (PW.pt (pw_and (pt_cmpR op_ne (pv 10) pe_str (nomark _)) (pw_and1 (pt_cmpR (op_neD hr.units) (pv 6) (pe_tup (pa_cons pe_str (pa_cons (pv 4) (pa_cons (pv 10) pa_nil)))) (nomark _)))))
      (pss_one (ps_ret pe_bl))
      pss_nil)
      (pss_one (ps_if (PW.pt (pw_and (pt_cmpR op_eq (pv 10) pe_str (nomark _)) (pw_and1 (pt_not (pt_val (pe_kn G_l_fits (hr.mono (by decide)) (by rfl) (pa_cons (pv 5) (pa_cons (pv 6) (pa_cons (pv 1) pa_nil)))))))))
      (pss_one (ps_ret pe_bl))
      pss_nil)))))
      (pss_cons (ps_dput (u1 hr.units) (pv 1) (pv 4) (pv 6) (by rfl))
      (pss_one (ps_dput (u1 hr.units) (pv 2) (pv 4) (pv 3) (by rfl))))))))
      (pss_one (ps_ret pe_bl))))), ?_⟩
    show (_ : TS) _ [some (.ref l), none, none, none, none, none, none, none, none, none, none] _
    have okA := ar.ok0 gr
    have lo : out.length = ts.length := by
      have := congrArg List.length (AR.nms ar)
      simpa using this
    have ln : us.length = ts.length := by rw [Paired.length pw, List.length_zip, List.length_map]; omega
    repeat walk_at "st"
    refine fun D nD => ?_
    have s1 := same_new nD (.dK [])
    have eD0 : upd H D (.dK []) D = some (.dK (toldD [])) := upd_same
    generalize upd H D (.dK []) = H1 at *
    repeat walk_at "st"
    refine fun O nO => ?_
    have s2 := same_new nO (.dK [])
    have eO : upd H1 O (.dK []) O = some (.dK (ordD [])) := upd_same
    have eD := s2 _ _ eD0
    have neDO : D ≠ O := fun z => by rw [← z, eD0] at nO; cases nO
    have nO0 := s1.free nO
    have g0 := s1.trans s2
    generalize upd H1 O (.dK []) = H2 at *
    clear s1 s2 eD0 nO
    repeat walk_at "st"
    refine r_seq ?_
    unfold tFor iRng1
    repeat walk_at "st"
    refine ⟨l, us, rfl, .inl (g0.seq hl), ?_⟩
    repeat walk_at "st"
    refine ⟨((us.length : Nat) : Int), rfl, by omega, by omega, ?_⟩
    rw [show ((us.length : Nat) : Int).toNat = us.length from by omega]
    refine for_range (n := us.length) (fun i σ H' => Same H H' ∧ ∃ (y3 y4 y5 y6 y7 y8 y9 y10 : Option V) (tv : List (Str × V)), σ = [some (.ref l), some (.ref D), some (.ref O), y3, y4, y5, y6, y7, y8, y9, y10] ∧ H' D = some (.dK (toldD tv)) ∧ H' O = some (.dK (ordD ((out.take i).map (·.1)))) ∧ Tos K H' tv (out.take i)) ⟨g0, none, none, none, none, none, none, none, none, [], rfl, eD, eO, .nil⟩ ?_ ?_
    · rintro i σ H3 hi ⟨g3, y3, y4, y5, y6, y7, y8, y9, y10, tv, rfl, eD3, eO3, tos⟩
      clear eD eO g0
      have hu : us[i]? = some us[i] := List.getElem?_eq_getElem hi
      obtain ⟨p0, hp0, sh0⟩ := LiI.paired_get pw hu
      obtain ⟨hz1, hz2⟩ := List.getElem?_zip_eq_some.mp hp0
      obtain ⟨t, v0⟩ := p0
      obtain ⟨a, m, u, eu, ta0, mk0, tq0⟩ := sh0
      have ht : ts[i]? = some t := hz1
      obtain ⟨gt, _⟩ := gr.at ht
      obtain ⟨v, arp, tel, ov, os⟩ := ar.at ht
      have grp : Gr [] (ts.take i) := (Gr.split (ts.take i) (ts.drop i) [] (by rw [List.take_append_drop]; exact gr)).1
      obtain ⟨tk, ow, _⟩ := arp.all grp
      have ev0 : v0 = v := by
        have hz2 : (out.map (·.2))[i]? = some v0 := hz2
        rw [List.getElem?_map, ov] at hz2
        exact (Option.some.inj hz2).symm
      subst ev0
      have okv : okT v0 := (okA _ (List.mem_of_getElem? ov)).2
      have oks : PyData.strOk t.1 = true := gt.nm.2
      have lt : tv.length = i := by rw [Paired.length tos, List.length_take]; omega
      have ta : SqT K H3 a [.str t.1, .ref m, u] := g3.tp ta0
      have mk : Mq K H3 m t.2.1 t.2.2.1 t.2.2.2 := mk0.kp (Kp.same (K := K) g3)
      have tq : Tq K H3 u v0 := tq0.kp (Kp.same (K := K) g3)
      clear ta0 mk0 tq0 hp0 hz1 hz2
      generalize hps : out.take i = ps at *
      obtain ⟨so, gg, tx, pr⟩ := id gt.fit
      have few4 : t.2.2.1.length < 64 := by rw [Paired.length pr]; exact few tx
      have inP : ∀ z ∈ t.2.2.1, z ∈ ps.map (·.1) := fun z hz => by
        rw [← tk.nms]
        exact paired_left (P := fun z => z ∈ nmsE (envOf [] ((ts.take i).map thOf))) (fun _ _ h => h.1.1) pr z hz
      have gin : ∀ z ∈ t.2.2.1, ∀ n w', lookT ps z = .gone n w' → n ∈ ps.map (·.1) ∧ lookT ps n = .gone n w' := fun z hz n w' e => by
        have := look_in (inP z hz)
        rw [e] at this
        exact ow _ _ _ this
      have tbv : Tb 3000 v0 := by
        have tk' := tk.step gt tel fun z hz => look_in hz
        have nz : t.1 ∉ ps.map (·.1) := by rw [← tk.nms]; exact gt.new
        have zin : t.1 ∈ nmsE (envStep (envOf [] ((ts.take i).map thOf)) (thOf t)) := by rw [tk'.nms]; simp
        have b1 := tk'.tb t.1 zin
        rw [lookT_new (e := (t.1, v0)) nz] at b1
        exact b1.mono (by have := hgt_lim (tk'.pos t.1 zin).2; omega)
      repeat walk_at "st"
      refine r_ixL (v := .ref a) (g3.seq hl) (by rw [Int.zero_add, atI_nat hu, eu]) ?_
      refine r_gT ta rfl ?_
      refine r_g3 ?_
      repeat walk_at "st"
      refine r_lcM ?_
      repeat walk_at "st"
      refine ⟨m, _, _, _, rfl, mk.mk, gt.fit.okm, fun G1 H4 s4 n4 e4 => ?_⟩
      refine lc_fm (lookV tv) (fun z => isGone (lookT ps z)) (lstOf e4) (by omega) (fun _ => rfl) (fun z hz H' g' R k => ?_) (fun z hz H' g' R k => ?_) fun G H5 s5 n5 e5 => ?_
      · obtain ⟨aa, rr, ea, tg⟩ := ((tos.look (inP z hz)).2.1.kp (Kp.same (s4.trans g'))).head
        repeat walk_at "st"
        refine r_dg ?_
        repeat walk_at "st"
        refine ⟨D, _, rfl, get_told (g' _ _ (s4 _ _ eD3)) tos (inP z hz), ?_⟩
        rw [ea]
        repeat walk_at "st"
        refine r_ixT0 tg ?_
        repeat walk_at "st"
        exact k H' (Same.refl _)
      · refine r_dg ?_
        repeat walk_at "st"
        refine ⟨D, _, rfl, get_told (g' _ _ (s4 _ _ eD3)) tos (inP z hz), ?_⟩
        exact k _ (Same.refl _)
      have g5 := s4.trans s5
      have eD6 := g5 _ _ eD3
      have eO6 := g5 _ _ eO3
      have tos6 := tos.kp (Kp.same (K := K) g5)
      have tq6 := tq.kp (Kp.same (K := K) g5)
      have mk6 := mk.kp (Kp.same (K := K) g5)
      have g36 := g3.trans g5
      obtain ⟨gs, hgs⟩ : ∃ gs : List Str, gs = t.2.2.1.filter fun z => isGone (lookT ps z) := ⟨_, rfl⟩
      rw [← hgs] at e5
      have gsm : ∀ z ∈ gs, z ∈ t.2.2.1 ∧ ∃ n w', lookT ps z = .gone n w' := fun z hz => by
        rw [hgs] at hz
        obtain ⟨h1, h2⟩ := List.mem_filter.mp hz
        exact ⟨h1, gone_of h2⟩
      have gsall : ∀ z ∈ t.2.2.1, ∀ n w', lookT ps z = .gone n w' → z ∈ gs := fun z hz n w' e => by
        rw [hgs]
        exact List.mem_filter.mpr ⟨hz, by rw [e]; rfl⟩
      have e6 := e5
      clear hgs s4 s5 n4 n5 e4 eD3 eO3 tos mk tq ta g3 e5 g5
      generalize H5 = H6 at *
      repeat walk_at "st"
      with_reducible refine r_cut (fun σ H' => ∃ (y8 y9 y10 : Option V), σ = [some (.ref l), some (.ref D), some (.ref O), some (.int (0 + (i : Int))), some (.str t.1), some (.ref m), some u, some (.ref G), y8, y9, y10] ∧ Same H6 H') ?U1 ?V1
      case V1 =>
        intro N J
        repeat walk_at "st"
        refine ⟨G, _, rfl, .inl (lstOf e6), ?_⟩
        repeat walk_at "st"
        rw [List.length_map]
        refine r_ite (fun c => ?_) (fun c => ?_)
        · obtain ⟨z0, gs', rfl⟩ : ∃ z0 gs', gs = z0 :: gs' := by
            cases gs with
            | nil => simp at c
            | cons a b => exact ⟨a, b, rfl⟩
          repeat walk_at "st"
          refine r_ixL (v := lookV tv z0) (lstOf e6) (by rw [List.map_cons]; exact at_hd) ?_
          repeat walk_at "st"
          with_reducible refine r_cut (fun σ H' => ∃ (y8 : Option V) (a1 : Addr) (z1 n1 w1 : Str), σ = [some (.ref l), some (.ref D), some (.ref O), some (.int (0 + (i : Int))), some (.str t.1), some (.ref m), some u, some (.ref G), y8, some (.ref a1), y10] ∧ H' = H6 ∧ z1 ∈ t.2.2.1 ∧ lookT ps z1 = .gone n1 w1 ∧ SqT K H' a1 [.str "gone", .str n1, .str w1] ∧ ∀ y ∈ (z0 :: gs'), ∀ n w', lookT ps y = .gone n w' → ordT ps n1 ≤ ordT ps n) ?U2 ?V2
          case V2 =>
            intro N2 J2
            obtain ⟨hz0, n0, w0, ez0⟩ := gsm z0 List.mem_cons_self
            obtain ⟨a0, ea0, ta0⟩ : ∃ a0, lookV tv z0 = .ref a0 ∧ SqT K H6 a0 [.str "gone", .str n0, .str w0] := by
              have := (tos6.look (inP z0 hz0)).2.1
              rw [ez0] at this
              exact this
            rw [ea0]
            refine ⟨.ref G, rfl, G, rfl, ⟨_, lstOf e6⟩, ?_⟩
            refine for_list (xs := (z0 :: gs').map (lookV tv)) (fun j σ H' => ∃ (y8 : Option V) (a1 : Addr) (z1 n1 w1 : Str), σ = [some (.ref l), some (.ref D), some (.ref O), some (.int (0 + (i : Int))), some (.str t.1), some (.ref m), some u, some (.ref G), y8, some (.ref a1), y10] ∧ H' = H6 ∧ z1 ∈ t.2.2.1 ∧ lookT ps z1 = .gone n1 w1 ∧ SqT K H' a1 [.str "gone", .str n1, .str w1] ∧ ∀ y ∈ (z0 :: gs').take j, ∀ n w', lookT ps y = .gone n w' → ordT ps n1 ≤ ordT ps n) ⟨_, a0, z0, n0, w0, rfl, rfl, hz0, ez0, ta0, fun y hy => by rw [List.take_zero] at hy; cases hy⟩ ?_ ?_ ?_
            · rintro j σ H' _ ⟨_, _, _, _, _, _, rfl, _⟩
              exact lstOf e6
            · rintro j u σ H' hu' ⟨y8, a1, z1, n1, w1, rfl, rfl, hz1, ez1, ta1, mn⟩
              rw [List.getElem?_map] at hu'
              obtain ⟨z, hz, rfl⟩ := Option.map_eq_some_iff.mp hu'
              obtain ⟨hzm, n2, w2, ez⟩ := gsm z (List.mem_of_getElem? hz)
              obtain ⟨a2, ea2, ta2⟩ : ∃ a2, lookV tv z = .ref a2 ∧ SqT K H' a2 [.str "gone", .str n2, .str w2] := by
                have := (tos6.look (inP z hzm)).2.1
                rw [ez] at this
                exact this
              rw [ea2]
              have tk1 : (z0 :: gs').take (j + 1) = (z0 :: gs').take j ++ [z] := by rw [List.take_succ, hz, Option.toList_some]
              repeat walk_at "st"
              refine r_dg ?_
              repeat walk_at "st"
              refine ⟨O, _, rfl, get_ord eO6 (gin z hzm n2 w2 ez).1, ?_⟩
              repeat walk_at "st"
              refine r_dg ?_
              repeat walk_at "st"
              refine ⟨O, _, rfl, get_ord eO6 (gin z1 hz1 n1 w1 ez1).1, ?_⟩
              repeat walk_at "st"
              refine r_ite (fun c2 => ?_) (fun c2 => ?_)
              · repeat walk_at "st"
                refine ⟨_, a2, z, n2, w2, rfl, rfl, hzm, ez, ta2, fun y hy n w' e => ?_⟩
                rw [tk1] at hy
                rcases List.mem_append.mp hy with hy | hy
                · have := mn y hy n w' e
                  have c3 : ordT ps n2 < ordT ps n1 := c2
                  omega
                · rw [List.mem_singleton.mp hy, ez] at e
                  cases e
                  exact Int.le_refl _
              · repeat walk_at "st"
                refine ⟨_, a1, z1, n1, w1, rfl, rfl, hz1, ez1, ta1, fun y hy n w' e => ?_⟩
                rw [tk1] at hy
                rcases List.mem_append.mp hy with hy | hy
                · exact mn y hy n w' e
                · rw [List.mem_singleton.mp hy, ez] at e
                  cases e
                  have c3 : ¬ ordT ps n2 < ordT ps n1 := c2
                  omega
            · rintro σ H' ⟨y8, a1, z1, n1, w1, rfl, rfl, hz1, ez1, ta1, mn⟩
              rw [List.length_map, List.take_length] at mn
              exact J2 _ _ ⟨_, a1, z1, n1, w1, rfl, rfl, hz1, ez1, ta1, mn⟩
          rintro σ H' ⟨y8, a1, z1, n1, w1, rfl, rfl, hz1, ez1, ta1, mn⟩
          have ev : v0 = .gone n1 w1 := first_of tel gin hz1 ez1 fun z hz n w' e => mn z (gsall z hz n w' e) n w' e
          repeat walk_at "st"
          refine r_neTell tq6 (show Tq K H' (.ref a1) v0 from ev ▸ ⟨a1, rfl, ta1⟩) okv ?_
          repeat walk_at "st"
          exact J _ _ ⟨_, _, _, rfl, Same.refl _⟩
        · have gs0 : gs = [] := by
            cases gs with
            | nil => rfl
            | cons a b => exact absurd (show (0 : Int) < ((a :: b).length : Int) by simp) c
          have nog : noGone (t.2.2.1.map (lookT ps)) := fun t' ht' e => by
            obtain ⟨y, hy, rfl⟩ := List.mem_map.mp ht'
            obtain ⟨n, w', e2⟩ := gone_of (t := lookT ps y) (decide_eq_true e)
            have := gsall y hy n w' e2
            rw [gs0] at this
            cases this
          have ah : Ah K H6 m D t.2.1 t.2.2.1 t.2.2.2 tv ps := ⟨mk6, ⟨_, gt.fit.okm⟩, eD6, tos6, inP, gt.near, on31 gt.fit tk gt.wt.2 nog⟩
          repeat walk_at "st"
          refine ⟨m, D, _, _, _, tv, ps, rfl, ah, fun wd H7 s7 hwd => ?_⟩
          have tq7 := tq6.kp (Kp.same (K := K) s7)
          have ah7 := ah.up s7
          repeat walk_at "st"
          rcases hwd (ordT ps) t.1 v0 tel with ⟨ew, nt⟩ | ⟨ew, ev⟩
          · subst ew
            refine r_seq ?_
            repeat walk_at "st"
            refine r_neX ?_
            repeat walk_at "st"
            rw [if_neg (by decide)]
            repeat walk_at "st"
            rw [if_pos (by decide)]
            repeat walk_at "st"
            refine ⟨m, D, u, t.1, _, _, _, tv, ps, v0, ordT ps, rfl, ah7, tq7, tel, nt, tbv, fun H8 s8 => ?_⟩
            repeat walk_at "st"
            exact J _ _ ⟨_, _, _, rfl, s7.trans s8⟩
          · refine r_seq ?_
            repeat walk_at "st"
            refine r_neX ?_
            rw [decide_eq_false ew]
            repeat walk_at "st"
            refine ⟨sz rfl, fun o no => ?_⟩
            have s8 := same_new no (.tup [V.str "gone", .str t.1, .str wd])
            refine r_neTell (tq7.kp (Kp.same s8)) (show Tq K _ (.ref o) v0 from ev ▸ ⟨o, rfl, tupOf upd_same⟩) okv ?_
            repeat walk_at "st"
            rw [decide_eq_false ew]
            repeat walk_at "st"
            exact J _ _ ⟨_, _, _, rfl, s7.trans s8⟩
      rintro σ H7 ⟨y8', y9', y10', rfl, s67⟩
      replace eD6 := s67 _ _ eD6
      replace eO6 := s67 _ _ eO6
      replace tos6 := tos6.kp (Kp.same (K := K) s67)
      replace tq6 := tq6.kp (Kp.same (K := K) s67)
      replace g36 := g36.trans s67
      have nz : t.1 ∉ ps.map (·.1) := by rw [← tk.nms]; exact gt.new
      have nzt : t.1 ∉ tv.map (·.1) := by rw [tos6.nms]; exact nz
      refine r_dputS ?_
      repeat walk_at "st"
      refine ⟨D, _, rfl, DPut.k (k := .inr t.1) eD6 (by unfold toldD; rw [List.length_map, lt]; exact Nat.lt_of_le_of_lt (show i ≤ 60 by omega) (by decide)), ?_⟩
      rw [told_put nzt]
      have kD : Kp K H7 (upd H7 D (.dK (toldD (tv ++ [(t.1, u)])))) := kp_dict eD6
      have eD8 : upd H7 D (.dK (toldD (tv ++ [(t.1, u)]))) D = some (.dK (toldD (tv ++ [(t.1, u)]))) := upd_same
      have eO8 : upd H7 D (.dK (toldD (tv ++ [(t.1, u)]))) O = _ := (upd_ne (fun z => neDO z.symm)).trans eO6
      have gD1 := same_updS (o := .dK (toldD (tv ++ [(t.1, u)]))) g36 nD
      generalize upd H7 D (.dK (toldD (tv ++ [(t.1, u)]))) = H9 at *
      repeat walk_at "st"
      have lps : ps.length = i := by rw [← hps, List.length_take]; omega
      refine r_dput ?_
      repeat walk_at "st"
      refine ⟨O, _, rfl, DPut.k (k := .inr t.1) eO8 (by unfold ordD; rw [List.length_map, List.length_zipIdx, List.length_map, lps]; exact Nat.lt_of_le_of_lt (show i ≤ 60 by omega) (by decide)), ?_⟩
      rw [show V.int (0 + (i : Int)) = .int ((ordD (ps.map (·.1))).length : Int) from by unfold ordD; rw [List.length_map, List.length_zipIdx, List.length_map, lps, Int.zero_add], ord_put nz]
      have kO : Kp K H9 (upd H9 O (.dK (ordD (ps.map (·.1) ++ [t.1])))) := kp_dict eO8
      refine ⟨same_updS gD1 nO0, _, _, _, _, _, _, _, _, tv ++ [(t.1, u)], rfl, by rw [upd_ne neDO]; exact eD8, by rw [os, List.map_append]; exact upd_same, by rw [os]; exact paired_snocT (tos6.kp (kD.trans kO)) ⟨rfl, tq6.kp (kD.trans kO)⟩⟩
    · rintro σ H3 ⟨g3, y3, y4, y5, y6, y7, y8, y9, y10, tv, rfl, eD3, eO3, tos⟩
      repeat walk_at "st"
      exact q _ g3
  ) only [↓Mb.dischW]
theorem ok_frac (F : Fn K mg "_law_frac" s_frac) (G_take : Kn P w K mg base 1 "_law_take" ["_law_pool_here", "_law_wide"] spTake) (G_low : Kn P w K mg base 2 "_law_low" ["_law_top", "_law_bottom"] spLow) : Kn P w K mg base 3 "_law_frac" ["_law_pool_here"] spFracB := by
  refine F.kn sc_frac (fun vs H Q E h => ?_) (fun f cdv A outer s H vs Q E hr h => ?_) (fun _ _ _ _ _ _ us hl => match us, hl with | [_], _ => rfl)
  · obtain ⟨p, b, rfl, _⟩ := h
    rfl
  obtain ⟨p, b, rfl, hp, hb, q⟩ := h
  refine ⟨_, (pss_cons (ps_set (i := 1) sc_frac.nd rfl (.inl rfl) (pe_kn G_take (hr.mono (by decide)) (by rfl) (pa_cons (pv 0) (pa_cons pe_int pa_nil))))
    (pss_cons (ps_if (pt_cmpR op_lt (pv 1) pe_int (nomark _))
    (pss_one (ps_ret (pe_tup (pa_cons (pe_op op_sub (pe_kn G_take (hr.mono (by decide)) (by rfl) (pa_cons (pv 0) (pa_cons pe_int pa_nil))) pe_int) (pa_cons pe_int pa_nil)))))
    pss_nil)
    (pss_cons (ps_if (pt_cmpR op_lt (pv 1) pe_int (nomark _))
    (pss_one (ps_ret (pe_kn G_low (hr.mono (by decide)) (by rfl) (pa_cons (pe_op op_sub (pe_kn G_take (hr.mono (by decide)) (by rfl) (pa_cons (pv 0) (pa_cons pe_int pa_nil))) pe_int) (pa_cons (pe_op op_add pe_int (pe_kn G_take (hr.mono (by decide)) (by rfl) (pa_cons (pv 0) (pa_cons pe_int pa_nil)))) pa_nil)))))
    pss_nil)
    (pss_cons (ps_if (pt_cmpR op_eq (pv 1) pe_int (nomark _))
    (pss_one (ps_ret (pe_tup (pa_cons (pe_op op_sub (pe_kn G_take (hr.mono (by decide)) (by rfl) (pa_cons (pv 0) (pa_cons pe_int pa_nil))) pe_int) (pa_cons pe_int pa_nil)))))
    pss_nil)
    (pss_cons (ps_set (i := 2) sc_frac.nd rfl (.inl rfl) (pe_kn G_take (hr.mono (by decide)) (by rfl) (pa_cons (pv 0) (pa_cons pe_int pa_nil))))
    (pss_cons (ps_if (pt_cmpR op_lt (pv 2) pe_int (nomark _))
    (pss_one (ps_ret (pe_ix ix_list (pe_lst (pa_cons (pe_tup (pa_cons pe_int (pa_cons pe_int pa_nil))) (pa_cons (pe_tup (pa_cons (pe_un un_neg pe_int) (pa_cons pe_int pa_nil))) (pa_cons (pe_tup (pa_cons pe_int (pa_cons pe_int pa_nil))) (pa_cons (pe_tup (pa_cons (pe_un un_neg pe_int) (pa_cons pe_int pa_nil))) pa_nil))))) (pv 2) (fun _ _ => rfl))))
    pss_nil)
    (pss_cons (ps_set (i := 3) sc_frac.nd rfl (.inl rfl) (pe_op op_add (pe_op op_mulW (pe_kn G_take (hr.mono (by decide)) (by rfl) (pa_cons (pv 0) (pa_cons pe_int pa_nil))) pe_int) (pe_kn G_take (hr.mono (by decide)) (by rfl) (pa_cons (pv 0) (pa_cons pe_int pa_nil)))))
    (pss_cons (ps_set (i := 4) sc_frac.nd rfl (.inl rfl) (pe_op op_add (pe_op op_mulW (pe_kn G_take (hr.mono (by decide)) (by rfl) (pa_cons (pv 0) (pa_cons pe_int pa_nil))) pe_int) (pe_kn G_take (hr.mono (by decide)) (by rfl) (pa_cons (pv 0) (pa_cons pe_int pa_nil)))))
    (pss_one (ps_ret (pe_kn G_low (hr.mono (by decide)) (by rfl) (pa_cons (pe_op op_sub (pe_op op_mod (pv 3) pe_int) pe_int) (pa_cons (pe_op op_add pe_int (pe_op op_mod (pv 4) pe_int)) pa_nil))))))))))))), ?_⟩
  show (_ : TS) _ [some (.ref p), none, none, none, none] _
  repeat walk_at "st"
  refine ⟨p, _, b, rfl, hp, by omega, by decide, by decide, fun w1 H1 b1 hp1 l1 u1 => ?_⟩
  repeat walk_at "st"
  refine r_seq ?_
  repeat walk_at "st"
  refine r_ite (fun c => ?_) (fun c => ?_)
  · repeat walk_at "st"
    refine ⟨p, _, _, rfl, hp1, by omega, by decide, by decide, fun r2 H2 b2 hp2 l2 u2 => ?_⟩
    repeat walk_at "st"
    refine ⟨sz rfl, fun o ho => ?_⟩
    have sn := same_new ho (.tup [.int (r2 - 4), .int 1])
    exact q o _ _ _ ((b1.trans b2).trans (But.same sn)) ((hp2.same sn).mono (by omega)) upd_same (fb_int (by omega))
  repeat walk_at "st"
  refine r_seq ?_
  repeat walk_at "st"
  refine r_ite (fun c => ?_) (fun c => ?_)
  · repeat walk_at "st"
    refine ⟨p, _, _, rfl, hp1, by omega, by decide, by decide, fun r2 H2 b2 hp2 l2 u2 => ?_⟩
    repeat walk_at "st"
    refine ⟨p, _, _, rfl, hp2, by omega, by decide, by decide, fun r3 H3 b3 hp3 l3 u3 => ?_⟩
    repeat walk_at "st"
    refine ⟨_, _, rfl, by omega, (show Sm 64 (1 + r3) by unfold Sm; omega).mono (by decide), fun o H4 g4 n4 e4 => ?_⟩
    exact q o _ _ _ (((b1.trans b2).trans b3).trans (But.same g4)) ((hp3.same g4).mono (by omega)) e4 (fb_low (by omega) (by omega) (by omega))
  repeat walk_at "st"
  refine r_seq ?_
  repeat walk_at "st"
  refine r_ite (fun c => ?_) (fun c => ?_)
  · repeat walk_at "st"
    refine ⟨p, _, _, rfl, hp1, by omega, by decide, by decide, fun r2 H2 b2 hp2 l2 u2 => ?_⟩
    repeat walk_at "st"
    refine ⟨sz rfl, fun o ho => ?_⟩
    have sn := same_new ho (.tup [.int (r2 - 1000), .int 1])
    exact q o _ _ _ ((b1.trans b2).trans (But.same sn)) ((hp2.same sn).mono (by omega)) upd_same (fb_int (by omega))
  repeat walk_at "st"
  refine ⟨p, _, _, rfl, hp1, by omega, by decide, by decide, fun r2 H2 b2 hp2 l2 u2 => ?_⟩
  have bb := b1.trans b2
  clear b1 b2 hp1 hp
  repeat walk_at "st"
  refine r_seq ?_
  repeat walk_at "st"
  refine r_ite (fun c => ?_) (fun c => ?_)
  · repeat walk_at "st"
    refine ⟨sz rfl, fun o1 n1 => ?_⟩
    have s1 := same_new n1 (.tup [.int 999999999, .int 1])
    have k1 : (upd H2 o1 (.tup [.int 999999999, .int 1])) o1 = some (.tup [.int 999999999, .int 1]) := upd_same
    generalize upd H2 o1 (.tup [.int 999999999, .int 1]) = J1 at *
    repeat walk_at "st"
    refine ⟨sz rfl, fun o2 n2 => ?_⟩
    have s2 := same_new n2 (.tup [.int (-999999999), .int 1])
    have k2 : (upd J1 o2 (.tup [.int (-999999999), .int 1])) o2 = some (.tup [.int (-999999999), .int 1]) := upd_same
    generalize upd J1 o2 (.tup [.int (-999999999), .int 1]) = J2 at *
    repeat walk_at "st"
    refine ⟨sz rfl, fun o3 n3 => ?_⟩
    have s3 := same_new n3 (.tup [.int 1, .int 999999999])
    have k3 : (upd J2 o3 (.tup [.int 1, .int 999999999])) o3 = some (.tup [.int 1, .int 999999999]) := upd_same
    generalize upd J2 o3 (.tup [.int 1, .int 999999999]) = J3 at *
    repeat walk_at "st"
    refine ⟨sz rfl, fun o4 n4 => ?_⟩
    have s4 := same_new n4 (.tup [.int (-999999998), .int 999999999])
    have k4 : (upd J3 o4 (.tup [.int (-999999998), .int 999999999])) o4 = some (.tup [.int (-999999998), .int 999999999]) := upd_same
    generalize upd J3 o4 (.tup [.int (-999999998), .int 999999999]) = J4 at *
    repeat walk_at "st"
    refine ⟨sz rfl, fun o5 n5 => ?_⟩
    have s5 := same_new n5 (.lst [.ref o1, .ref o2, .ref o3, .ref o4])
    have k5 : (upd J4 o5 (.lst [.ref o1, .ref o2, .ref o3, .ref o4])) o5 = some (.lst [.ref o1, .ref o2, .ref o3, .ref o4]) := upd_same
    generalize upd J4 o5 (.lst [.ref o1, .ref o2, .ref o3, .ref o4]) = J5 at *
    have gg : Same H2 J5 := (((s1.trans s2).trans s3).trans s4).trans s5
    have b5 := bb.trans (But.same gg)
    have hp5 : Pl J5 p (b + 10) := (hp2.same gg).mono (by omega)
    have hr : r2 = 0 ∨ r2 = 1 ∨ r2 = 2 ∨ r2 = 3 := by omega
    rcases hr with rfl | rfl | rfl | rfl
    · repeat walk_at "st"
      exact q _ _ _ _ b5 hp5 (s5 _ _ (s4 _ _ (s3 _ _ (s2 _ _ k1)))) ⟨by decide, by decide +kernel, by decide, by decide⟩
    · repeat walk_at "st"
      exact q _ _ _ _ b5 hp5 (s5 _ _ (s4 _ _ (s3 _ _ k2))) ⟨by decide, by decide +kernel, by decide, by decide⟩
    · repeat walk_at "st"
      exact q _ _ _ _ b5 hp5 (s5 _ _ (s4 _ _ k3)) ⟨by decide, by decide +kernel, by decide, by decide⟩
    · repeat walk_at "st"
      exact q _ _ _ _ b5 hp5 (s5 _ _ k4) ⟨by decide, by decide +kernel, by decide, by decide⟩
  repeat walk_at "st"
  refine ⟨p, _, _, rfl, hp2, by omega, by decide, by decide, fun r3 H3 b3 hp3 l3 u3 => ?_⟩
  have q3 : Sm 20 r3 := by unfold Sm; omega
  repeat walk_at "st"
  refine ⟨p, _, _, rfl, hp3, by omega, by decide, by decide, fun r4 H4 b4 hp4 l4 u4 => ?_⟩
  repeat walk_at "st"
  refine ⟨p, _, _, rfl, hp4, by omega, by decide, by decide, fun r5 H5 b5 hp5 l5 u5 => ?_⟩
  have q5 : Sm 20 r5 := by unfold Sm; omega
  repeat walk_at "st"
  refine ⟨p, _, _, rfl, hp5, by omega, by decide, by decide, fun r6 H6 b6 hp6 l6 u6 => ?_⟩
  repeat walk_at "st"
  have m1 := Int.emod_nonneg (r3 * 44721 + r4) (show (1999999999 : Int) ≠ 0 by decide)
  have m2 := Int.emod_lt_of_pos (r3 * 44721 + r4) (show (0 : Int) < 1999999999 by decide)
  have m3 := Int.emod_nonneg (r5 * 31623 + r6) (show (999999999 : Int) ≠ 0 by decide)
  have m4 := Int.emod_lt_of_pos (r5 * 31623 + r6) (show (0 : Int) < 999999999 by decide)
  refine ⟨_, _, rfl, by omega, (show Sm 64 (1 + (r5 * 31623 + r6) % 999999999) by unfold Sm; omega).mono (by decide), fun o H7 g7 n7 e7 => ?_⟩
  refine q o _ _ _ (((((bb.trans b3).trans b4).trans b5).trans b6).trans (But.same g7)) ((hp6.same g7).mono (by omega)) e7 (fb_low (by omega) (by omega) (by omega))
theorem ok_place (F : Fn K mg "_law_place" s_place) (G_frac : Kn P w K mg base 3 "_law_frac" ["_law_pool_here"] spFracB) : Kn P w K mg base 4 "_law_place" ["_law_pool_here"] (spPlaceB K) := by
  refine Mb.ofW ?_
  simp (discharger := with_unfolding_all
    refine F.kn sc_place (fun vs H Q E h => ?_) (fun f cdv A outer s H vs Q E hr h => ?_) (fun _ _ _ _ _ _ us hl => match us, hl with | [_], _ => rfl)
    · obtain ⟨p, b, rfl, _⟩ := h
      rfl
    obtain ⟨p, b, rfl, hp, hb, q⟩ := h
    refine ⟨_, (pss_cons (ps_set (i := 1) sc_place.nd rfl (.inl rfl) (pe_kn G_frac (hr.mono (by decide)) (by rfl) (pa_cons (pv 0) pa_nil)))
      (pss_one (ps_ret (pe_tup (pa_cons (pv 1) (pa_cons (pe_kn G_frac (hr.mono (by decide)) (by rfl) (pa_cons (pv 0) pa_nil)) pa_nil)))))), ?_⟩
    show (_ : TS) _ [some (.ref p), none] _
    repeat walk_at "st"
    refine ⟨p, _, rfl, hp, by omega, fun o t u H1 b1 hp1 e1 f1 => ?_⟩
    repeat walk_at "st"
    refine ⟨p, _, rfl, hp1, by omega, fun o2 r s H2 b2 hp2 e2 f2 => ?_⟩
    repeat walk_at "st"
    refine ⟨sz rfl, fun a ha => ?_⟩
    have sn := same_new ha (.tup [.ref o, .ref o2])
    exact q a o o2 t u r s _ ((b1.trans b2).trans (But.same sn)) ((hp2.same sn).mono (by omega)) upd_same (sn.tp (hp1.tup b2 (tupOf e1))) (sn.tp (tupOf e2)) f1 f2
  ) only [↓Mb.dischW]
theorem ok_l_weight (F : Fn K mg "_law_weight" s_l_weight) (G_l_grounds : Kn P w K mg base 1 "_law_grounds" ["_law_making_here"] (spGroundsL K)) (z_sum : mg "sum" = none) : Kn P w K mg base 2 "_law_weight" ["_law_making_here", "_law_sorts", "_law_heavy"] (spWeight K) := by
  refine Mb.ofW ?_
  simp (discharger := with_unfolding_all
    refine F.kn sc_l_weight (fun vs H Q E h => ?_) (fun f cdv A outer s H vs Q E hr h => ?_) (fun _ _ _ _ _ _ us hl => match us, hl with | [_, _, _], _ => rfl)
    · obtain ⟨m, S, W, x, ns, L, rfl, _⟩ := h
      rfl
    obtain ⟨m, S, W, x, ns, L, rfl, hm, ok, dc, q⟩ := h
    have hm' := hm
    have ok' := ok
    obtain ⟨r, tm, tl⟩ := hm'
    obtain ⟨⟨so, g, tx, hn⟩, hz⟩ := ok'
    refine ⟨_, (pss_cons (ps_setLc (i := 3) (own := [("_law_name", 4)]) (g := gName 4) (by rfl) sc_l_weight.nd rfl rfl (sw_true rfl rfl rfl (by decide +kernel)) (pi_list (pe_kn G_l_grounds (hr.mono (by decide)) (by rfl) (pa_cons (pv 0) pa_nil))) (blkOk_by (own := [("_law_name", 4)]) (N := ["_law_making_here", "_law_sorts", "_law_heavy", "_law_each", "_law_name"]) (sc := (defScope s_l_weight)) (by decide +kernel)) (fun _ _ _ _ _ => pg_name (i := 4) sc_l_weight.nd rfl (.inl rfl)) (fun _ _ _ _ _ => pts_nil) (fun _ _ _ _ _ => (pe_dget (u1 hr.units) (pv 2) (pv 4) (fun _ _ => rfl))))
      (pss_cons (ps_if (pt_cmpR op_eq (pe_ix ix_tup (pv 0) pe_int (fun _ _ => rfl)) pe_str (nomark _))
      (pss_one (ps_ret pe_int))
      pss_nil)
      (pss_cons (ps_if (PW.pt (pw_or (pt_cmpR op_eq (pe_ix ix_tup (pv 0) pe_int (fun _ _ => rfl)) pe_str (nomark _)) (pw_or1 (pt_cmpR op_eq (pe_ix ix_tup (pv 0) pe_int (fun _ _ => rfl)) pe_str (nomark _)))))
      (pss_one (ps_ret (pe_op op_add (pe_ix ix_list (pv 3) pe_int (fun _ _ => rfl)) (pe_op op_mulW pe_int (pe_ix ix_list (pv 3) pe_int (fun _ _ => rfl))))))
      pss_nil)
      (pss_cons (ps_if (PW.pt (pw_and (pt_cmpR op_eq (pe_ix ix_tup (pv 0) pe_int (fun _ _ => rfl)) pe_str (nomark _)) (pw_and1 (pt_cmpR op_eq (pe_dget (u1 hr.units) (pv 1) (pe_ix ix_tup (pv 0) pe_int (fun _ _ => rfl)) (fun _ _ => rfl)) pe_str (nomark _)))))
      (pss_one (ps_ret (pe_op op_mulW pe_int (pe_op op_add (pe_ix ix_list (pv 3) pe_int (fun _ _ => rfl)) (pe_ix ix_list (pv 3) pe_int (fun _ _ => rfl))))))
      pss_nil)
      (pss_cons (ps_if (pt_cmpR op_eq (pe_ix ix_tup (pv 0) pe_int (fun _ _ => rfl)) pe_str (nomark _))
      (pss_one (ps_ret (pe_op op_add (pe_op op_mulW pe_int (pe_ix ix_list (pv 3) pe_int (fun _ _ => rfl))) (pe_ix ix_list (pv 3) pe_int (fun _ _ => rfl)))))
      pss_nil)
      (pss_cons (ps_if (PW.pt (pw_or (pt_cmpR op_eq (pe_ix ix_tup (pv 0) pe_int (fun _ _ => rfl)) pe_str (nomark _)) (pw_or1 (pt_cmpR op_eq (pe_ix ix_tup (pv 0) pe_int (fun _ _ => rfl)) pe_str (nomark _)))))
      (pss_one (ps_ret (pe_op op_mulW pe_int (pe_callB (cr_sum (by rfl)) (by rfl) z_sum (by decide +kernel) (pa_cons (pv 3) pa_nil)))))
      pss_nil)
      (pss_one (ps_ret (pe_callB (cr_sum (by rfl)) (by rfl) z_sum (by decide +kernel) (pa_cons (pv 3) pa_nil)))))))))), ?_⟩
    show (_ : TS) _ [some (.ref m), some (.ref S), some (.ref W), none, none] _
    have len : ns.length < 64 := by rw [hn]; exact few tx
    repeat walk_at "st"
    refine r_lcM ?_
    repeat walk_at "st"
    refine ⟨m, x, ns, L, rfl, hm, ok, fun l H1 s1 n1 e1 => ?_⟩
    refine lc_map (fun v => match v with | .str z => .int (wtE L z) | _ => .non) (lstOf e1) (by rw [List.length_map]; omega) (fun _ => rfl) (fun i v H' hv g' R k => ?_) fun D H2 s2 n2 e2 => ?_
    · rw [List.getElem?_map] at hv
      obtain ⟨z, hz1, rfl⟩ := Option.map_eq_some_iff.mp hv
      refine r_dg ?_
      repeat walk_at "st"
      refine ⟨W, _, rfl, get_load (g' _ _ (s1 _ _ dc.w)) (hz z (List.mem_of_getElem? hz1)).1, ?_⟩
      exact k _ (Same.refl _)
    rw [List.map_map] at e2
    replace e2 : H2 D = some (.lst ((ns.map (wtE L)).map V.int)) := by rw [List.map_map]; exact e2
    have g2 := s1.trans s2
    replace dc := dc.same g2
    replace tm := g2.tp tm
    have hl := dc.light
    have wb := fun z => hl.wt z
    have two : x = "foot" ∨ x = "mirror" ∨ x = "cut" → ∃ a b, ns = [a, b] := fun h => pair_of (by rw [hn]; exact two_of tx (by rcases h with h | h | h <;> simp [h]))
    clear s2 s1 n2 e1 hm
    repeat walk_at "st"
    refine r_seq ?_
    repeat walk_at "st"
    refine r_ixT0 tm ?_
    repeat walk_at "st"
    refine r_ite (fun c => ?_) (fun c => ?_)
    · repeat walk_at "st"
      rw [show wOf x ns L = 1 by unfold wOf; rw [if_pos c]] at q
      exact q _ g2
    repeat walk_at "st"
    have fm : x = "foot" ∨ x = "mirror" → tOp (rI0 fun i j => V.int (i + j)) (tOp (rIxL K) (tVar 3) (tC (.int 0))) (tOp (rI CMulW fun i j => V.int (i * j)) (tC (.int 2)) (tOp (rIxL K) (tVar 3) (tC (.int 1)))) [some (.ref m), some (.ref S), some (.ref W), some (.ref D), none] H2 Q := by
      intro c1
      obtain ⟨a, b, rfl⟩ := two (c1.elim .inl fun h => .inr (.inl h))
      have ha := wb a
      have hb := wb b
      repeat walk_at "st"
      refine ⟨_, _, rfl, rfl, cm_small (by omega) (by omega), ?_⟩
      repeat walk_at "st"
      rw [show wOf x [a, b] L = wtE L a + 2 * wtE L b by unfold wOf; rw [if_neg c, if_pos c1]; rfl] at q
      exact q _ g2
    refine r_seq ?_
    repeat walk_at "st"
    refine r_ixT0 tm ?_
    repeat walk_at "st"
    refine r_ite (fun c1 => fm (.inl c1)) (fun c1 => ?_)
    repeat walk_at "st"
    refine r_ixT0 tm ?_
    repeat walk_at "st"
    refine r_ite (fun c0 => fm (.inr c0)) (fun c0 => ?_)
    have c1' : ¬ (x = "foot" ∨ x = "mirror") := fun h => h.elim c1 c0
    clear fm
    repeat walk_at "st"
    with_reducible refine r_cut (fun σ H' => σ = [some (.ref m), some (.ref S), some (.ref W), some (.ref D), none] ∧ H' = H2 ∧ (x = "cut" → ¬ srtE L (ns.getD 0 "") = "circle")) ?U1 ?V1
    case V1 =>
      intro N J
      repeat walk_at "st"
      refine r_ixT0 tm ?_
      repeat walk_at "st"
      refine r_ite (fun c2 => ?_) (fun c2 => ?_)
      · obtain ⟨a, b, rfl⟩ := two (.inr (.inr c2))
        have ha := wb a
        have hb := wb b
        repeat walk_at "st"
        refine r_dg ?_
        repeat walk_at "st"
        refine r_ixT tm at_1 ?_
        repeat walk_at "st"
        refine ⟨S, _, rfl, get_sort dc.s (hz a (by simp)).1, ?_⟩
        repeat walk_at "st"
        refine r_ite (fun c3 => ?_) (fun c3 => ?_)
        · repeat walk_at "st"
          refine ⟨_, _, rfl, rfl, cm_small (by omega) (by omega), ?_⟩
          repeat walk_at "st"
          rw [show wOf x [a, b] L = 5 * (wtE L a + wtE L b) by unfold wOf; rw [if_neg c, if_neg c1', if_pos c2]; exact if_pos c3] at q
          exact q _ g2
        · repeat walk_at "st"
          exact J _ _ ⟨rfl, rfl, fun _ => c3⟩
      · repeat walk_at "st"
        exact J _ _ ⟨rfl, rfl, fun h => absurd h c2⟩
    rintro σ Hx ⟨rfl, rfl, c2⟩
    refine r_seq ?_
    repeat walk_at "st"
    refine r_ixT0 tm ?_
    repeat walk_at "st"
    refine r_ite (fun c3 => ?_) (fun c3 => ?_)
    · obtain ⟨a, b, rfl⟩ := two (.inr (.inr c3))
      have ha := wb a
      have hb := wb b
      repeat walk_at "st"
      refine ⟨_, _, rfl, rfl, cm_small (by omega) (by omega), ?_⟩
      repeat walk_at "st"
      rw [show wOf x [a, b] L = 2 * wtE L a + wtE L b by unfold wOf; rw [if_neg c, if_neg c1', if_pos c3]; exact if_neg (c2 c3)] at q
      exact q _ g2
    repeat walk_at "st"
    obtain ⟨u0, u1'⟩ := sum_small hl ns
    have ra : x = "round" ∨ x = "alike" → tOp (rI CMulW fun i j => V.int (i * j)) (tC (.int 2)) (tCB (rSum K) (tCons (tVar 3) tNil)) [some (.ref m), some (.ref S), some (.ref W), some (.ref D), none] Hx Q := by
      intro c4
      repeat walk_at "st"
      refine ⟨D, _, rfl, lstOf e2, ?_⟩
      repeat walk_at "st"
      refine ⟨_, _, rfl, rfl, cm_small (by omega) (by omega), ?_⟩
      repeat walk_at "st"
      rw [show wOf x ns L = 2 * (ns.map (wtE L)).sum by unfold wOf; rw [if_neg c, if_neg c1', if_neg c3, if_pos c4]] at q
      exact q _ g2
    refine r_seq ?_
    repeat walk_at "st"
    refine r_ixT0 tm ?_
    repeat walk_at "st"
    refine r_ite (fun c4 => ra (.inl c4)) (fun c4 => ?_)
    repeat walk_at "st"
    refine r_ixT0 tm ?_
    repeat walk_at "st"
    refine r_ite (fun c5 => ra (.inr c5)) (fun c5 => ?_)
    repeat walk_at "st"
    refine ⟨D, _, rfl, lstOf e2, ?_⟩
    rw [show wOf x ns L = (ns.map (wtE L)).sum by unfold wOf; rw [if_neg c, if_neg c1', if_neg c3, if_neg (fun h => h.elim c4 c5)]] at q
    exact q _ g2
  ) only [↓Mb.dischW]
theorem ok_making (F : Fn K mg "_law_making" s_making) (G_take : Kn P w K mg base 1 "_law_take" ["_law_pool_here", "_law_wide"] spTake) (G_low : Kn P w K mg base 2 "_law_low" ["_law_top", "_law_bottom"] spLow) (G_place : Kn P w K mg base 4 "_law_place" ["_law_pool_here"] (spPlaceB K)) (z_len : mg "len" = none) : Kn P w K mg base 5 "_law_making" ["_law_pool_here", "_law_by"] (spMakingQ K) := by
  refine Mb.ofW ?_
  simp (discharger := with_unfolding_all
    refine F.kn sc_making (fun vs H Q E h => ?_) (fun f cdv A outer s H vs Q E hr h => ?_) (fun _ _ _ _ _ _ us hl => match us, hl with | [_, _], _ => rfl)
    · obtain ⟨p, B, P, Ln, C, Z, pts, lns, crs, cls, b, rfl, _⟩ := h
      rfl
    obtain ⟨p, B, P, Ln, C, Z, pts, lns, crs, cls, b, rfl, hp0, hb, by0, q⟩ := h
    have bb0 := But.refl p H
    obtain ⟨fP, fL, fC, _⟩ := by0.f
    have fin : ∀ (x s : Str) (g ns : List Str) (d : Tail) (r : List V) (Hc : Hp) (k : Int), (x, s, g) ∈ wordsTab → Paired (Fit pts lns crs) g ns → Ntl K Hc x r d → Nr d → But p H Hc → Pl Hc p k → k ≤ b + 100 → ∀ m, Hc m = none → Q (.ref m) (upd Hc m (.tup (.str x :: (ns.map V.str ++ r)))) := by
      intro x s g ns d r Hc k tx pr tl nr bc pl le m nm
      have s1 := same_new nm (.tup (.str x :: (ns.map V.str ++ r)))
      exact q m x s g ns d _ (bc.trans (But.same s1)) ((pl.same s1).mono le) ⟨r, tupOf upd_same, tl.kp (Kp.same s1)⟩ nr tx pr
    refine ⟨_, (pss_cons (ps_set (i := 2) sc_making.nd rfl (.inl rfl) (pe_dget (u1 hr.units) (pv 1) pe_str (fun _ _ => rfl)))
      (pss_cons (ps_set (i := 3) sc_making.nd rfl (.inl rfl) (pe_dget (u1 hr.units) (pv 1) pe_str (fun _ _ => rfl)))
      (pss_cons (ps_set (i := 4) sc_making.nd rfl (.inl rfl) (pe_dget (u1 hr.units) (pv 1) pe_str (fun _ _ => rfl)))
      (pss_cons (ps_set (i := 5) sc_making.nd rfl (.inl rfl) (pe_kn G_take (hr.mono (by decide)) (by rfl) (pa_cons (pv 0) (pa_cons pe_int pa_nil))))
      (pss_cons (ps_if (PW.pt (pw_or (pt_cmpR op_lt (pv 5) pe_int (nomark _)) (pw_or1 (pt_cmpR op_eq (pe_callB call_len_seq (by rfl) z_len (by decide +kernel) (pa_cons (pv 2) pa_nil)) pe_int (nomark _)))))
      (pss_one (ps_ret (pe_op op_catT (pe_tup (pa_cons pe_str pa_nil)) (pe_kn G_place (hr.mono (by decide)) (by rfl) (pa_cons (pv 0) pa_nil)))))
      pss_nil)
      (pss_cons (ps_set (i := 6) sc_making.nd rfl (.inl rfl) (pe_ix ix_list (pv 2) (pe_kn G_take (hr.mono (by decide)) (by rfl) (pa_cons (pv 0) (pa_cons (pe_callB call_len_seq (by rfl) z_len (by decide +kernel) (pa_cons (pv 2) pa_nil)) pa_nil))) (fun _ _ => rfl)))
      (pss_cons (ps_set (i := 7) sc_making.nd rfl (.inl rfl) (pe_ix ix_list (pv 2) (pe_kn G_take (hr.mono (by decide)) (by rfl) (pa_cons (pv 0) (pa_cons (pe_callB call_len_seq (by rfl) z_len (by decide +kernel) (pa_cons (pv 2) pa_nil)) pa_nil))) (fun _ _ => rfl)))
      (pss_cons (ps_if (pt_cmpR op_eq (pv 5) pe_int (nomark _))
      (pss_one (ps_ret (pe_tup (pa_cons pe_str (pa_cons (pv 6) (pa_cons (pv 7) (pa_cons (pe_kn G_low (hr.mono (by decide)) (by rfl) (pa_cons (pe_op op_sub (pe_kn G_take (hr.mono (by decide)) (by rfl) (pa_cons (pv 0) (pa_cons pe_int pa_nil))) pe_int) (pa_cons (pe_op op_add pe_int (pe_kn G_take (hr.mono (by decide)) (by rfl) (pa_cons (pv 0) (pa_cons pe_int pa_nil)))) pa_nil))) pa_nil)))))))
      pss_nil)
      (pss_cons (ps_if (pt_cmpR op_lt (pv 5) pe_int (nomark _))
      (pss_one (ps_ret (pe_tup (pa_cons (pe_ix ix_list (pe_lst (pa_cons pe_str (pa_cons pe_str (pa_cons pe_str (pa_cons pe_str pa_nil))))) (pe_op op_sub (pv 5) pe_int) (fun _ _ => rfl)) (pa_cons (pv 6) (pa_cons (pv 7) pa_nil))))))
      pss_nil)
      (pss_cons (ps_if (PW.pt (pw_or (pt_cmpR op_lt (pv 5) pe_int (nomark _)) (pw_or1 (PW.pt (pw_and (pt_cmpR op_lt (pv 5) pe_int (nomark _)) (pw_and1 (pt_cmpR op_eq (pe_callB call_len_seq (by rfl) z_len (by decide +kernel) (pa_cons (pv 3) pa_nil)) pe_int (nomark _))))))))
      (pss_one (ps_ret (pe_tup (pa_cons pe_str (pa_cons (pv 6) (pa_cons (pv 7) pa_nil))))))
      pss_nil)
      (pss_cons (ps_if (PW.pt (pw_or (pt_cmpR op_eq (pv 5) pe_int (nomark _)) (pw_or1 (pt_cmpR op_eq (pv 5) pe_int (nomark _)))))
      (pss_one (ps_ret (pe_tup (pa_cons pe_str (pa_cons (pe_ix ix_list (pv 3) (pe_kn G_take (hr.mono (by decide)) (by rfl) (pa_cons (pv 0) (pa_cons (pe_callB call_len_seq (by rfl) z_len (by decide +kernel) (pa_cons (pv 3) pa_nil)) pa_nil))) (fun _ _ => rfl)) (pa_cons (pe_ix ix_list (pv 3) (pe_kn G_take (hr.mono (by decide)) (by rfl) (pa_cons (pv 0) (pa_cons (pe_callB call_len_seq (by rfl) z_len (by decide +kernel) (pa_cons (pv 3) pa_nil)) pa_nil))) (fun _ _ => rfl)) pa_nil))))))
      pss_nil)
      (pss_cons (ps_if (pt_cmpR op_lt (pv 5) pe_int (nomark _))
      (pss_one (ps_ret (pe_tup (pa_cons (pe_ix ix_list (pe_lst (pa_cons pe_str (pa_cons pe_str (pa_cons pe_str (pa_cons pe_str pa_nil))))) (pe_op op_sub (pv 5) pe_int) (fun _ _ => rfl)) (pa_cons (pv 6) (pa_cons (pe_ix ix_list (pv 3) (pe_kn G_take (hr.mono (by decide)) (by rfl) (pa_cons (pv 0) (pa_cons (pe_callB call_len_seq (by rfl) z_len (by decide +kernel) (pa_cons (pv 3) pa_nil)) pa_nil))) (fun _ _ => rfl)) pa_nil))))))
      pss_nil)
      (pss_cons (ps_if (PW.pt (pw_or (pt_cmpR op_lt (pv 5) pe_int (nomark _)) (pw_or1 (PW.pt (pw_and (pt_cmpR op_lt (pv 5) pe_int (nomark _)) (pw_and1 (pt_cmpR op_eq (pe_callB call_len_seq (by rfl) z_len (by decide +kernel) (pa_cons (pv 4) pa_nil)) pe_int (nomark _))))))))
      (pss_one (ps_ret (pe_tup (pa_cons pe_str (pa_cons (pv 6) (pa_cons (pv 7) pa_nil))))))
      pss_nil)
      (pss_cons (ps_if (PW.pt (pw_and (pt_cmpR op_eq (pv 5) pe_int (nomark _)) (pw_and1 (pt_cmpR op_gt (pe_callB call_len_seq (by rfl) z_len (by decide +kernel) (pa_cons (pv 3) pa_nil)) pe_int (nomark _)))))
      (pss_cons (ps_set (i := 8) sc_making.nd rfl (.inl rfl) (pe_ix ix_list (pv 3) (pe_kn G_take (hr.mono (by decide)) (by rfl) (pa_cons (pv 0) (pa_cons (pe_callB call_len_seq (by rfl) z_len (by decide +kernel) (pa_cons (pv 3) pa_nil)) pa_nil))) (fun _ _ => rfl)))
      (pss_one (ps_ret (pe_tup (pa_cons pe_str (pa_cons (pv 8) (pa_cons (pe_ix ix_list (pv 4) (pe_kn G_take (hr.mono (by decide)) (by rfl) (pa_cons (pv 0) (pa_cons (pe_callB call_len_seq (by rfl) z_len (by decide +kernel) (pa_cons (pv 4) pa_nil)) pa_nil))) (fun _ _ => rfl)) (pa_cons (pe_op op_add pe_int (pe_kn G_take (hr.mono (by decide)) (by rfl) (pa_cons (pv 0) (pa_cons pe_int pa_nil)))) pa_nil))))))))
      pss_nil)
      (pss_cons (ps_if (pt_cmpR op_lt (pv 5) pe_int (nomark _))
      (pss_cons (ps_set (i := 9) sc_making.nd rfl (.inl rfl) (pe_ix ix_list (pv 4) (pe_kn G_take (hr.mono (by decide)) (by rfl) (pa_cons (pv 0) (pa_cons (pe_callB call_len_seq (by rfl) z_len (by decide +kernel) (pa_cons (pv 4) pa_nil)) pa_nil))) (fun _ _ => rfl)))
      (pss_one (ps_ret (pe_tup (pa_cons pe_str (pa_cons (pv 9) (pa_cons (pe_ix ix_list (pv 4) (pe_kn G_take (hr.mono (by decide)) (by rfl) (pa_cons (pv 0) (pa_cons (pe_callB call_len_seq (by rfl) z_len (by decide +kernel) (pa_cons (pv 4) pa_nil)) pa_nil))) (fun _ _ => rfl)) (pa_cons (pe_op op_add pe_int (pe_kn G_take (hr.mono (by decide)) (by rfl) (pa_cons (pv 0) (pa_cons pe_int pa_nil)))) pa_nil))))))))
      pss_nil)
      (pss_cons (ps_set (i := 10) sc_making.nd rfl (.inl rfl) (pe_ix ix_list (pv 2) (pe_kn G_take (hr.mono (by decide)) (by rfl) (pa_cons (pv 0) (pa_cons (pe_callB call_len_seq (by rfl) z_len (by decide +kernel) (pa_cons (pv 2) pa_nil)) pa_nil))) (fun _ _ => rfl)))
      (pss_cons (ps_set (i := 11) sc_making.nd rfl (.inl rfl) (pe_kn G_take (hr.mono (by decide)) (by rfl) (pa_cons (pv 0) (pa_cons pe_int pa_nil))))
      (pss_cons (ps_if (PW.pt (pw_and (pt_cmpR op_gt (pv 11) pe_int (nomark _)) (pw_and1 (pt_cmpR op_gt (pe_callB call_len_seq (by rfl) z_len (by decide +kernel) (pa_cons (pv 3) pa_nil)) pe_int (nomark _)))))
      (pss_cons (ps_set (i := 8) sc_making.nd rfl (.inl rfl) (pe_ix ix_list (pv 3) (pe_kn G_take (hr.mono (by decide)) (by rfl) (pa_cons (pv 0) (pa_cons (pe_callB call_len_seq (by rfl) z_len (by decide +kernel) (pa_cons (pv 3) pa_nil)) pa_nil))) (fun _ _ => rfl)))
      (pss_one (ps_ret (pe_tup (pa_cons (pe_ix ix_list (pe_lst (pa_cons pe_str (pa_cons pe_str pa_nil))) (pe_op op_sub (pv 11) pe_int) (fun _ _ => rfl)) (pa_cons (pv 8) (pa_cons (pe_ix ix_list (pv 3) (pe_kn G_take (hr.mono (by decide)) (by rfl) (pa_cons (pv 0) (pa_cons (pe_callB call_len_seq (by rfl) z_len (by decide +kernel) (pa_cons (pv 3) pa_nil)) pa_nil))) (fun _ _ => rfl)) pa_nil)))))))
      pss_nil)
      (pss_cons (ps_if (PW.pt (pw_or (pt_cmpR op_eq (pv 11) pe_int (nomark _)) (pw_or1 (pt_cmpR op_gt (pv 11) pe_int (nomark _)))))
      (pss_one (ps_ret (pe_tup (pa_cons pe_str (pa_cons (pv 6) (pa_cons (pv 7) (pa_cons (pv 10) pa_nil)))))))
      pss_nil)
      (pss_one (ps_ret (pe_tup (pa_cons (pe_ix ix_list (pe_lst (pa_cons pe_str (pa_cons pe_str pa_nil))) (pe_op op_sub (pv 11) pe_int) (fun _ _ => rfl)) (pa_cons (pv 6) (pa_cons (pv 7) (pa_cons (pv 10) (pa_cons (pe_ix ix_list (pv 2) (pe_kn G_take (hr.mono (by decide)) (by rfl) (pa_cons (pv 0) (pa_cons (pe_callB call_len_seq (by rfl) z_len (by decide +kernel) (pa_cons (pv 2) pa_nil)) pa_nil))) (fun _ _ => rfl)) pa_nil))))))))))))))))))))))))))), ?_⟩
    show (_ : TS) _ [some (.ref p), some (.ref B), none, none, none, none, none, none, none, none, none, none] _
    repeat walk_at "st"
    refine r_dg ?_
    repeat walk_at "st"
    refine ⟨B, .ref P, rfl, DGet.k (k := .inr "point") by0.b, ?_⟩
    repeat walk_at "st"
    refine r_dg ?_
    repeat walk_at "st"
    refine ⟨B, .ref Ln, rfl, DGet.k (k := .inr "line") by0.b, ?_⟩
    repeat walk_at "st"
    refine r_dg ?_
    repeat walk_at "st"
    refine ⟨B, .ref C, rfl, DGet.k (k := .inr "circle") by0.b, ?_⟩
    repeat walk_at "st"
    refine ⟨p, _, _, rfl, hp0, by omega, by decide, by decide, fun r1 H1 c1 hp1 l1 u1 => ?_⟩
    have by1 := by0.but c1
    have bb1 := bb0.trans c1
    repeat walk_at "st"
    clear by0 bb0 hp0 c1
    refine r_seq ?_
    repeat walk_at "st"
    refine r_ite (fun c1 => ?_) (fun c1 => ?_)
    · skip
      repeat walk_at "st"
      refine ⟨sz rfl, fun t2 nt2 => ?_⟩
      have s2 := same_new nt2 (.tup [V.str "free"])
      have t12 : SqT K (upd H1 t2 (.tup [V.str "free"])) t2 [.str "free"] := tupOf upd_same
      have hp2 := hp1.same s2
      have bb2 := bb1.trans (But.same s2)
      generalize upd H1 t2 (.tup [V.str "free"]) = H2 at *
      repeat walk_at "st"
      refine ⟨p, _, rfl, hp2, by omega, fun o f1 f2 a1 a2 a3 a4 Hf cf hpf ef k1 k2 fb1 fb2 => ?_⟩
      repeat walk_at "st"
      refine r_cat (hp2.tup cf t12) (tupOf ef) (by simp) (sz4 (by simp)) fun m Hg sg kg => ?_
      exact q m "free" "point" [] [] (.fr (Rat.divInt a1 a2) (Rat.divInt a3 a4)) Hg ((bb2.trans cf).trans (But.same sg)) ((hpf.same sg).mono (by omega)) ⟨_, kg, rfl, _, _, rfl, (fb_fq fb1 (sg.tp k1)).1, (fb_fq fb2 (sg.tp k2)).1⟩ ⟨(fb_fq fb1 (sg.tp k1)).2, (fb_fq fb2 (sg.tp k2)).2⟩ (by decide +kernel) .nil
    repeat walk_at "st"
    refine ⟨P, _, rfl, .inl (lstOf by1.eP), ?_⟩
    repeat walk_at "st"
    refine r_ite (fun c2 => ?_) (fun c2 => ?_)
    · skip
      repeat walk_at "st"
      refine ⟨sz rfl, fun t3 nt3 => ?_⟩
      have s3 := same_new nt3 (.tup [V.str "free"])
      have t13 : SqT K (upd H1 t3 (.tup [V.str "free"])) t3 [.str "free"] := tupOf upd_same
      have hp3 := hp1.same s3
      have bb3 := bb1.trans (But.same s3)
      generalize upd H1 t3 (.tup [V.str "free"]) = H3 at *
      repeat walk_at "st"
      refine ⟨p, _, rfl, hp3, by omega, fun o f1 f2 a1 a2 a3 a4 Hf cf hpf ef k1 k2 fb1 fb2 => ?_⟩
      repeat walk_at "st"
      refine r_cat (hp3.tup cf t13) (tupOf ef) (by simp) (sz4 (by simp)) fun m Hg sg kg => ?_
      exact q m "free" "point" [] [] (.fr (Rat.divInt a1 a2) (Rat.divInt a3 a4)) Hg ((bb3.trans cf).trans (But.same sg)) ((hpf.same sg).mono (by omega)) ⟨_, kg, rfl, _, _, rfl, (fb_fq fb1 (sg.tp k1)).1, (fb_fq fb2 (sg.tp k2)).1⟩ ⟨(fb_fq fb1 (sg.tp k1)).2, (fb_fq fb2 (sg.tp k2)).2⟩ (by decide +kernel) .nil
    rw [List.length_map] at c2
    have hP : 1 ≤ pts.length := by omega
    repeat walk_at "st"
    refine ⟨P, _, rfl, .inl (lstOf by1.eP), ?_⟩
    repeat walk_at "st"
    refine ⟨p, _, _, rfl, hp1, by omega, by rw [List.length_map]; omega, by rw [List.length_map]; omega, fun r4 H4 c4 hp4 l4 u4 => ?_⟩
    have by4 := by1.but c4
    have bb4 := bb1.trans c4
    rw [List.length_map] at u4
    obtain ⟨zp, a4, m_zp⟩ := pick_str l4 u4
    repeat walk_at "st"
    refine r_ixL (lstOf by4.eP) a4 ?_
    repeat walk_at "st"
    refine ⟨P, _, rfl, .inl (lstOf by4.eP), ?_⟩
    repeat walk_at "st"
    refine ⟨p, _, _, rfl, hp4, by omega, by rw [List.length_map]; omega, by rw [List.length_map]; omega, fun r5 H5 c5 hp5 l5 u5 => ?_⟩
    have by5 := by4.but c5
    have bb5 := bb4.trans c5
    rw [List.length_map] at u5
    obtain ⟨zq, a5, m_zq⟩ := pick_str l5 u5
    repeat walk_at "st"
    refine r_ixL (lstOf by5.eP) a5 ?_
    repeat walk_at "st"
    refine r_seq ?_
    repeat walk_at "st"
    refine r_ite (fun c3 => ?_) (fun c3 => ?_)
    · skip
      repeat walk_at "st"
      refine ⟨p, _, _, rfl, hp5, by omega, by decide, by decide, fun r6 H6 c6 hp6 l6 u6 => ?_⟩
      have by6 := by5.but c6
      have bb6 := bb5.trans c6
      repeat walk_at "st"
      refine ⟨p, _, _, rfl, hp6, by omega, by decide, by decide, fun r7 H7 c7 hp7 l7 u7 => ?_⟩
      have by7 := by6.but c7
      have bb7 := bb6.trans c7
      repeat walk_at "st"
      refine ⟨_, _, rfl, by omega, by unfold Sm; exact Nat.lt_of_lt_of_le (show (1 + r7).natAbs < 2 ^ 30 by omega) (Nat.pow_le_pow_right (by decide) (by decide)), fun o Ho so no eo => ?_⟩
      have bbo := bb7.trans (But.same so)
      have hpo := hp7.same so
      repeat walk_at "st"
      refine ⟨sz rfl, fun m nm => fin "share" "point" ["point", "point"] [zp, zq] (.sh (Rat.divInt _ _)) [.ref o] _ _ (by decide +kernel) (.cons (fitP m_zp) (.cons (fitP m_zq) .nil)) ⟨rfl, _, rfl, (low_fq (B := 1000) (by omega) eo (by omega) (by omega)).1⟩ (low_fq (K := K) (B := 1000) (by omega) eo (by omega) (by omega)).2 bbo hpo (by omega) m nm⟩
    repeat walk_at "st"
    refine r_seq ?_
    repeat walk_at "st"
    refine r_ite (fun c4 => ?_) (fun c4 => ?_)
    · skip
      repeat walk_at "st"
      refine ⟨sz rfl, fun w8 nw8 => ?_⟩
      obtain ⟨H8, q8, s8, e8⟩ := nw nw8 (.lst [V.str "middle", V.str "share", V.str "next", V.str "turn"])
      rw [← q8]
      have c8 : But p H5 H8 := But.same s8
      have hp8 := hp5.same s8
      have by8 := by5.but c8
      have bb8 := bb5.trans c8
      repeat walk_at "st"
      obtain ⟨x, ax, tx, x1, x2, x3⟩ := word4 (i := r1 - 5) (by omega)
      refine r_ixL (lstOf e8) ax ?_
      repeat walk_at "st"
      refine ⟨sz rfl, fun m nm => fin x "point" ["point", "point"] [zp, zq] .no [] _ _ (tx) (.cons (fitP m_zp) (.cons (fitP m_zq) .nil)) (nt0 x1 x2 x3) trivial bb8 hp8 (by omega) m nm⟩
    repeat walk_at "st"
    with_reducible refine r_cut (fun σ H' => σ = [some (.ref p), some (.ref B), some (.ref P), some (.ref Ln), some (.ref C), some (.int r1), some (.str zp), some (.str zq), none, none, none, none] ∧ H' = H5 ∧ 12 ≤ r1 ∧ (r1 < 18 → 1 ≤ lns.length)) ?U1 ?V1
    case V1 =>
      intro N J
      repeat walk_at "st"
      refine r_ite (fun c5 => ?_) (fun c5 => ?_)
      · skip
        repeat walk_at "st"
        refine ⟨sz rfl, fun m nm => fin "line" "line" ["point", "point"] [zp, zq] .no [] _ _ (by decide +kernel) (.cons (fitP m_zp) (.cons (fitP m_zq) .nil)) (nt0 (by decide +kernel) (by decide +kernel) (by decide +kernel)) trivial bb5 hp5 (by omega) m nm⟩
      repeat walk_at "st"
      refine r_ite (fun c6 => ?_) (fun c6 => ?_)
      · skip
        repeat walk_at "st"
        refine ⟨Ln, _, rfl, .inl (lstOf by5.eL), ?_⟩
        repeat walk_at "st"
        refine r_ite (fun c7 => ?_) (fun c7 => ?_)
        · skip
          repeat walk_at "st"
          refine ⟨sz rfl, fun m nm => fin "line" "line" ["point", "point"] [zp, zq] .no [] _ _ (by decide +kernel) (.cons (fitP m_zp) (.cons (fitP m_zq) .nil)) (nt0 (by decide +kernel) (by decide +kernel) (by decide +kernel)) trivial bb5 hp5 (by omega) m nm⟩
        rw [List.length_map] at c7
        repeat walk_at "st"
        exact J _ _ ⟨rfl, rfl, by omega, by omega⟩
      repeat walk_at "st"
      exact J _ _ ⟨rfl, rfl, by omega, by omega⟩
    rintro σ Hx ⟨rfl, rfl, d1, d2⟩
    refine r_seq ?_
    repeat walk_at "st"
    refine r_ite (fun c8 => ?_) (fun c8 => ?_)
    · skip
      repeat walk_at "st"
      have hL : 1 ≤ lns.length := d2 (by omega)
      refine ⟨Ln, _, rfl, .inl (lstOf by5.eL), ?_⟩
      repeat walk_at "st"
      refine ⟨p, _, _, rfl, hp5, by omega, by rw [List.length_map]; omega, by rw [List.length_map]; omega, fun r9 H9 c9 hp9 l9 u9 => ?_⟩
      have by9 := by5.but c9
      have bb9 := bb5.trans c9
      rw [List.length_map] at u9
      obtain ⟨za, a9, m_za⟩ := pick_str l9 u9
      repeat walk_at "st"
      refine r_ixL (lstOf by9.eL) a9 ?_
      repeat walk_at "st"
      refine ⟨Ln, _, rfl, .inl (lstOf by9.eL), ?_⟩
      repeat walk_at "st"
      refine ⟨p, _, _, rfl, hp9, by omega, by rw [List.length_map]; omega, by rw [List.length_map]; omega, fun r10 H10 c10 hp10 l10 u10 => ?_⟩
      have by10 := by9.but c10
      have bb10 := bb9.trans c10
      rw [List.length_map] at u10
      obtain ⟨zb, a10, m_zb⟩ := pick_str l10 u10
      repeat walk_at "st"
      refine r_ixL (lstOf by10.eL) a10 ?_
      repeat walk_at "st"
      refine ⟨sz rfl, fun m nm => fin "meet" "point" ["line", "line"] [za, zb] .no [] _ _ (by decide +kernel) (.cons (fitL m_za) (.cons (fitL m_zb) .nil)) (nt0 (by decide +kernel) (by decide +kernel) (by decide +kernel)) trivial bb10 hp10 (by omega) m nm⟩
    repeat walk_at "st"
    refine r_ite (fun c9 => ?_) (fun c9 => ?_)
    · skip
      repeat walk_at "st"
      have hL : 1 ≤ lns.length := d2 (by omega)
      refine ⟨Ln, _, rfl, .inl (lstOf by5.eL), ?_⟩
      repeat walk_at "st"
      refine ⟨p, _, _, rfl, hp5, by omega, by rw [List.length_map]; omega, by rw [List.length_map]; omega, fun r11 H11 c11 hp11 l11 u11 => ?_⟩
      have by11 := by5.but c11
      have bb11 := bb5.trans c11
      rw [List.length_map] at u11
      obtain ⟨za, a11, m_za⟩ := pick_str l11 u11
      repeat walk_at "st"
      refine r_ixL (lstOf by11.eL) a11 ?_
      repeat walk_at "st"
      refine ⟨Ln, _, rfl, .inl (lstOf by11.eL), ?_⟩
      repeat walk_at "st"
      refine ⟨p, _, _, rfl, hp11, by omega, by rw [List.length_map]; omega, by rw [List.length_map]; omega, fun r12 H12 c12 hp12 l12 u12 => ?_⟩
      have by12 := by11.but c12
      have bb12 := bb11.trans c12
      rw [List.length_map] at u12
      obtain ⟨zb, a12, m_zb⟩ := pick_str l12 u12
      repeat walk_at "st"
      refine r_ixL (lstOf by12.eL) a12 ?_
      repeat walk_at "st"
      refine ⟨sz rfl, fun m nm => fin "meet" "point" ["line", "line"] [za, zb] .no [] _ _ (by decide +kernel) (.cons (fitL m_za) (.cons (fitL m_zb) .nil)) (nt0 (by decide +kernel) (by decide +kernel) (by decide +kernel)) trivial bb12 hp12 (by omega) m nm⟩
    repeat walk_at "st"
    refine r_seq ?_
    repeat walk_at "st"
    refine r_ite (fun c10 => ?_) (fun c10 => ?_)
    · skip
      repeat walk_at "st"
      have hL : 1 ≤ lns.length := d2 (by omega)
      refine ⟨sz rfl, fun w13 nw13 => ?_⟩
      obtain ⟨H13, q13, s13, e13⟩ := nw nw13 (.lst [V.str "along", V.str "upright", V.str "foot", V.str "mirror"])
      rw [← q13]
      have c13 : But p Hx H13 := But.same s13
      have hp13 := hp5.same s13
      have by13 := by5.but c13
      have bb13 := bb5.trans c13
      repeat walk_at "st"
      obtain ⟨x, sx, ax, tx, x1, x2, x3⟩ := word4b (i := r1 - 12) (by omega)
      refine r_ixL (lstOf e13) ax ?_
      repeat walk_at "st"
      refine ⟨Ln, _, rfl, .inl (lstOf by13.eL), ?_⟩
      repeat walk_at "st"
      refine ⟨p, _, _, rfl, hp13, by omega, by rw [List.length_map]; omega, by rw [List.length_map]; omega, fun r14 H14 c14 hp14 l14 u14 => ?_⟩
      have by14 := by13.but c14
      have bb14 := bb13.trans c14
      rw [List.length_map] at u14
      obtain ⟨za, a14, m_za⟩ := pick_str l14 u14
      repeat walk_at "st"
      refine r_ixL (lstOf by14.eL) a14 ?_
      repeat walk_at "st"
      refine ⟨sz rfl, fun m nm => fin x sx ["point", "line"] [zp, za] .no [] _ _ (tx) (.cons (fitP m_zp) (.cons (fitL m_za) .nil)) (nt0 x1 x2 x3) trivial bb14 hp14 (by omega) m nm⟩
    repeat walk_at "st"
    with_reducible refine r_cut (fun σ H' => σ = [some (.ref p), some (.ref B), some (.ref P), some (.ref Ln), some (.ref C), some (.int r1), some (.str zp), some (.str zq), none, none, none, none] ∧ H' = Hx ∧ 20 ≤ r1 ∧ (r1 < 22 → 1 ≤ crs.length)) ?U2 ?V2
    case V2 =>
      intro N J
      repeat walk_at "st"
      refine r_ite (fun c5 => ?_) (fun c5 => ?_)
      · skip
        repeat walk_at "st"
        refine ⟨sz rfl, fun m nm => fin "circle" "circle" ["point", "point"] [zp, zq] .no [] _ _ (by decide +kernel) (.cons (fitP m_zp) (.cons (fitP m_zq) .nil)) (nt0 (by decide +kernel) (by decide +kernel) (by decide +kernel)) trivial bb5 hp5 (by omega) m nm⟩
      repeat walk_at "st"
      refine r_ite (fun c6 => ?_) (fun c6 => ?_)
      · skip
        repeat walk_at "st"
        refine ⟨C, _, rfl, .inl (lstOf by5.eC), ?_⟩
        repeat walk_at "st"
        refine r_ite (fun c7 => ?_) (fun c7 => ?_)
        · skip
          repeat walk_at "st"
          refine ⟨sz rfl, fun m nm => fin "circle" "circle" ["point", "point"] [zp, zq] .no [] _ _ (by decide +kernel) (.cons (fitP m_zp) (.cons (fitP m_zq) .nil)) (nt0 (by decide +kernel) (by decide +kernel) (by decide +kernel)) trivial bb5 hp5 (by omega) m nm⟩
        rw [List.length_map] at c7
        repeat walk_at "st"
        exact J _ _ ⟨rfl, rfl, by omega, by omega⟩
      repeat walk_at "st"
      exact J _ _ ⟨rfl, rfl, by omega, by omega⟩
    rintro σ Hy ⟨rfl, rfl, d3, d4⟩
    with_reducible refine r_cut (fun σ H' => σ = [some (.ref p), some (.ref B), some (.ref P), some (.ref Ln), some (.ref C), some (.int r1), some (.str zp), some (.str zq), none, none, none, none] ∧ H' = Hy ∧ True) ?U3 ?V3
    case V3 =>
      intro N J
      repeat walk_at "st"
      refine r_ite (fun c5 => ?_) (fun c5 => ?_)
      · skip
        repeat walk_at "st"
        refine ⟨Ln, _, rfl, .inl (lstOf by5.eL), ?_⟩
        repeat walk_at "st"
        refine r_ite (fun c6 => ?_) (fun c6 => ?_)
        · skip
          rw [List.length_map] at c6
          have hL : 1 ≤ lns.length := by omega
          have hC : 1 ≤ crs.length := d4 (by omega)
          repeat walk_at "st"
          refine ⟨Ln, _, rfl, .inl (lstOf by5.eL), ?_⟩
          repeat walk_at "st"
          refine ⟨p, _, _, rfl, hp5, by omega, by rw [List.length_map]; omega, by rw [List.length_map]; omega, fun r15 H15 c15 hp15 l15 u15 => ?_⟩
          have by15 := by5.but c15
          have bb15 := bb5.trans c15
          rw [List.length_map] at u15
          obtain ⟨za, a15, m_za⟩ := pick_str l15 u15
          repeat walk_at "st"
          refine r_ixL (lstOf by15.eL) a15 ?_
          repeat walk_at "st"
          refine ⟨C, _, rfl, .inl (lstOf by15.eC), ?_⟩
          repeat walk_at "st"
          refine ⟨p, _, _, rfl, hp15, by omega, by rw [List.length_map]; omega, by rw [List.length_map]; omega, fun r16 H16 c16 hp16 l16 u16 => ?_⟩
          have by16 := by15.but c16
          have bb16 := bb15.trans c16
          rw [List.length_map] at u16
          obtain ⟨zc, a16, m_zc⟩ := pick_str l16 u16
          repeat walk_at "st"
          refine r_ixL (lstOf by16.eC) a16 ?_
          repeat walk_at "st"
          refine ⟨p, _, _, rfl, hp16, by omega, by decide, by decide, fun r17 H17 c17 hp17 l17 u17 => ?_⟩
          have by17 := by16.but c17
          have bb17 := bb16.trans c17
          repeat walk_at "st"
          refine ⟨sz rfl, fun m nm => fin "cut" "point" ["curve", "circle"] [za, zc] (.ct (1 + r17)) [.int (1 + r17)] _ _ (by decide +kernel) (.cons (fitU (.inl m_za)) (.cons (fitC m_zc) .nil)) ⟨rfl, rfl⟩ (show 1 + r17 = 1 ∨ 1 + r17 = 2 by omega) bb17 hp17 (by omega) m nm⟩
        repeat walk_at "st"
        exact J _ _ ⟨rfl, rfl, trivial⟩
      repeat walk_at "st"
      exact J _ _ ⟨rfl, rfl, trivial⟩
    rintro σ Hz ⟨rfl, rfl, _⟩
    refine r_seq ?_
    repeat walk_at "st"
    refine r_ite (fun c11 => ?_) (fun c11 => ?_)
    · skip
      have hC : 1 ≤ crs.length := d4 (by omega)
      repeat walk_at "st"
      refine ⟨C, _, rfl, .inl (lstOf by5.eC), ?_⟩
      repeat walk_at "st"
      refine ⟨p, _, _, rfl, hp5, by omega, by rw [List.length_map]; omega, by rw [List.length_map]; omega, fun r18 H18 c18 hp18 l18 u18 => ?_⟩
      have by18 := by5.but c18
      have bb18 := bb5.trans c18
      rw [List.length_map] at u18
      obtain ⟨za, a18, m_za⟩ := pick_str l18 u18
      repeat walk_at "st"
      refine r_ixL (lstOf by18.eC) a18 ?_
      repeat walk_at "st"
      refine ⟨C, _, rfl, .inl (lstOf by18.eC), ?_⟩
      repeat walk_at "st"
      refine ⟨p, _, _, rfl, hp18, by omega, by rw [List.length_map]; omega, by rw [List.length_map]; omega, fun r19 H19 c19 hp19 l19 u19 => ?_⟩
      have by19 := by18.but c19
      have bb19 := bb18.trans c19
      rw [List.length_map] at u19
      obtain ⟨zc, a19, m_zc⟩ := pick_str l19 u19
      repeat walk_at "st"
      refine r_ixL (lstOf by19.eC) a19 ?_
      repeat walk_at "st"
      refine ⟨p, _, _, rfl, hp19, by omega, by decide, by decide, fun r20 H20 c20 hp20 l20 u20 => ?_⟩
      have by20 := by19.but c20
      have bb20 := bb19.trans c20
      repeat walk_at "st"
      refine ⟨sz rfl, fun m nm => fin "cut" "point" ["curve", "circle"] [za, zc] (.ct (1 + r20)) [.int (1 + r20)] _ _ (by decide +kernel) (.cons (fitU (.inr m_za)) (.cons (fitC m_zc) .nil)) ⟨rfl, rfl⟩ (show 1 + r20 = 1 ∨ 1 + r20 = 2 by omega) bb20 hp20 (by omega) m nm⟩
    repeat walk_at "st"
    refine ⟨P, _, rfl, .inl (lstOf by5.eP), ?_⟩
    repeat walk_at "st"
    refine ⟨p, _, _, rfl, hp5, by omega, by rw [List.length_map]; omega, by rw [List.length_map]; omega, fun r21 H21 c21 hp21 l21 u21 => ?_⟩
    have by21 := by5.but c21
    have bb21 := bb5.trans c21
    rw [List.length_map] at u21
    obtain ⟨zr, a21, m_zr⟩ := pick_str l21 u21
    repeat walk_at "st"
    refine r_ixL (lstOf by21.eP) a21 ?_
    repeat walk_at "st"
    refine ⟨p, _, _, rfl, hp21, by omega, by decide, by decide, fun r22 H22 c22 hp22 l22 u22 => ?_⟩
    have by22 := by21.but c22
    have bb22 := bb21.trans c22
    repeat walk_at "st"
    with_reducible refine r_cut (fun σ H' => σ = [some (.ref p), some (.ref B), some (.ref P), some (.ref Ln), some (.ref C), some (.int r1), some (.str zp), some (.str zq), none, none, some (.str zr), some (.int r22)] ∧ H' = H22) ?U4 ?V4
    case V4 =>
      intro N J
      repeat walk_at "st"
      refine r_ite (fun c5 => ?_) (fun c5 => ?_)
      · skip
        repeat walk_at "st"
        refine ⟨Ln, _, rfl, .inl (lstOf by22.eL), ?_⟩
        repeat walk_at "st"
        refine r_ite (fun c6 => ?_) (fun c6 => ?_)
        · skip
          rw [List.length_map] at c6
          have hL : 1 ≤ lns.length := by omega
          repeat walk_at "st"
          refine ⟨Ln, _, rfl, .inl (lstOf by22.eL), ?_⟩
          repeat walk_at "st"
          refine ⟨p, _, _, rfl, hp22, by omega, by rw [List.length_map]; omega, by rw [List.length_map]; omega, fun r23 H23 c23 hp23 l23 u23 => ?_⟩
          have by23 := by22.but c23
          have bb23 := bb22.trans c23
          rw [List.length_map] at u23
          obtain ⟨za, a23, m_za⟩ := pick_str l23 u23
          repeat walk_at "st"
          refine r_ixL (lstOf by23.eL) a23 ?_
          repeat walk_at "st"
          refine ⟨sz rfl, fun w24 nw24 => ?_⟩
          obtain ⟨H24, q24, s24, e24⟩ := nw nw24 (.lst [V.str "beside", V.str "square"])
          rw [← q24]
          have c24 : But p H23 H24 := But.same s24
          have hp24 := hp23.same s24
          have by24 := by23.but c24
          have bb24 := bb23.trans c24
          repeat walk_at "st"
          obtain ⟨x, ax, tx, x1, x2, x3⟩ := word2 (i := r22 - 3) (by omega)
          refine r_ixL (lstOf e24) ax ?_
          repeat walk_at "st"
          refine ⟨Ln, _, rfl, .inl (lstOf by24.eL), ?_⟩
          repeat walk_at "st"
          refine ⟨p, _, _, rfl, hp24, by omega, by rw [List.length_map]; omega, by rw [List.length_map]; omega, fun r25 H25 c25 hp25 l25 u25 => ?_⟩
          have by25 := by24.but c25
          have bb25 := bb24.trans c25
          rw [List.length_map] at u25
          obtain ⟨zb, a25, m_zb⟩ := pick_str l25 u25
          repeat walk_at "st"
          refine r_ixL (lstOf by25.eL) a25 ?_
          repeat walk_at "st"
          refine ⟨sz rfl, fun m nm => fin x "claim" ["line", "line"] [za, zb] .no [] _ _ (tx) (.cons (fitL m_za) (.cons (fitL m_zb) .nil)) (nt0 x1 x2 x3) trivial bb25 hp25 (by omega) m nm⟩
        repeat walk_at "st"
        exact J _ _ ⟨rfl, rfl⟩
      repeat walk_at "st"
      exact J _ _ ⟨rfl, rfl⟩
    rintro σ Hw ⟨rfl, rfl⟩
    refine r_seq ?_
    repeat walk_at "st"
    refine r_ite (fun c12 => ?_) (fun c12 => ?_)
    · skip
      repeat walk_at "st"
      refine ⟨sz rfl, fun m nm => fin "inline" "claim" ["point", "point", "point"] [zp, zq, zr] .no [] _ _ (by decide +kernel) (.cons (fitP m_zp) (.cons (fitP m_zq) (.cons (fitP m_zr) .nil))) (nt0 (by decide +kernel) (by decide +kernel) (by decide +kernel)) trivial bb22 hp22 (by omega) m nm⟩
    repeat walk_at "st"
    refine r_ite (fun c13 => ?_) (fun c13 => ?_)
    · skip
      repeat walk_at "st"
      refine ⟨sz rfl, fun m nm => fin "inline" "claim" ["point", "point", "point"] [zp, zq, zr] .no [] _ _ (by decide +kernel) (.cons (fitP m_zp) (.cons (fitP m_zq) (.cons (fitP m_zr) .nil))) (nt0 (by decide +kernel) (by decide +kernel) (by decide +kernel)) trivial bb22 hp22 (by omega) m nm⟩
    repeat walk_at "st"
    refine ⟨sz rfl, fun w26 nw26 => ?_⟩
    obtain ⟨H26, q26, s26, e26⟩ := nw nw26 (.lst [V.str "round", V.str "alike"])
    rw [← q26]
    have c26 : But p Hw H26 := But.same s26
    have hp26 := hp22.same s26
    have by26 := by22.but c26
    have bb26 := bb22.trans c26
    repeat walk_at "st"
    obtain ⟨x, ax, tx, x1, x2, x3⟩ := word2b (i := r22 - 1) (by omega)
    refine r_ixL (lstOf e26) ax ?_
    repeat walk_at "st"
    refine ⟨P, _, rfl, .inl (lstOf by26.eP), ?_⟩
    repeat walk_at "st"
    refine ⟨p, _, _, rfl, hp26, by omega, by rw [List.length_map]; omega, by rw [List.length_map]; omega, fun r27 H27 c27 hp27 l27 u27 => ?_⟩
    have by27 := by26.but c27
    have bb27 := bb26.trans c27
    rw [List.length_map] at u27
    obtain ⟨zs, a27, m_zs⟩ := pick_str l27 u27
    repeat walk_at "st"
    refine r_ixL (lstOf by27.eP) a27 ?_
    repeat walk_at "st"
    refine ⟨sz rfl, fun m nm => fin x "claim" ["point", "point", "point", "point"] [zp, zq, zr, zs] .no [] _ _ (tx) (.cons (fitP m_zp) (.cons (fitP m_zq) (.cons (fitP m_zr) (.cons (fitP m_zs) .nil)))) (nt0 x1 x2 x3) trivial bb27 hp27 (by omega) m nm⟩
  ) only [↓Mb.dischW]
theorem ok_plain_place (F : Fn K mg "_law_plain_place" s_plain_place) (G_take : Kn P w K mg base 1 "_law_take" ["_law_pool_here", "_law_wide"] spTake) (G_place : Kn P w K mg base 4 "_law_place" ["_law_pool_here"] (spPlaceB K)) : Kn P w K mg base 5 "_law_plain_place" ["_law_pool_here"] (spPlaceC K) := by
  refine Mb.ofW ?_
  simp (discharger := with_unfolding_all
    refine F.kn sc_plain_place (fun vs H Q E h => ?_) (fun f cdv A outer s H vs Q E hr h => ?_) (fun _ _ _ _ _ _ us hl => match us, hl with | [_], _ => rfl)
    · obtain ⟨p, b, rfl, _⟩ := h
      rfl
    obtain ⟨p, b, rfl, hp, hb, q⟩ := h
    refine ⟨_, (pss_cons (ps_if (pt_cmpR op_gt (pe_kn G_take (hr.mono (by decide)) (by rfl) (pa_cons (pv 0) (pa_cons pe_int pa_nil))) pe_int (nomark _))
      (pss_one (ps_ret (pe_tup (pa_cons (pe_tup (pa_cons (pe_op op_sub (pe_kn G_take (hr.mono (by decide)) (by rfl) (pa_cons (pv 0) (pa_cons pe_int pa_nil))) pe_int) (pa_cons pe_int pa_nil))) (pa_cons (pe_tup (pa_cons (pe_op op_sub (pe_kn G_take (hr.mono (by decide)) (by rfl) (pa_cons (pv 0) (pa_cons pe_int pa_nil))) pe_int) (pa_cons pe_int pa_nil))) pa_nil)))))
      pss_nil)
      (pss_one (ps_ret (pe_kn G_place (hr.mono (by decide)) (by rfl) (pa_cons (pv 0) pa_nil))))), ?_⟩
    show (_ : TS) _ [some (.ref p)] _
    refine r_seq ?_
    repeat walk_at "st"
    refine ⟨p, _, _, rfl, hp, by omega, by decide, by decide, fun r1 H1 c1 hp1 l1 u1 => ?_⟩
    repeat walk_at "st"
    refine r_ite (fun c => ?_) (fun c => ?_)
    · repeat walk_at "st"
      refine ⟨p, _, _, rfl, hp1, by omega, by decide, by decide, fun r2 H2 c2 hp2 l2 u2 => ?_⟩
      repeat walk_at "st"
      refine ⟨sz rfl, fun f nf => ?_⟩
      have s3 := same_new nf (.tup [V.int (r2 - 2), .int 1])
      have t3 : SqT K (upd H2 f (.tup [V.int (r2 - 2), .int 1])) f [.int (r2 - 2), .int 1] := tupOf upd_same
      have hp3 := hp2.same s3
      generalize upd H2 f (.tup [V.int (r2 - 2), .int 1]) = H3 at *
      repeat walk_at "st"
      refine ⟨p, _, _, rfl, hp3, by omega, by decide, by decide, fun r4 H4 c4 hp4 l4 u4 => ?_⟩
      have t4 := hp3.tup c4 t3
      repeat walk_at "st"
      refine ⟨sz rfl, fun g ng => ?_⟩
      have s5 := same_new ng (.tup [V.int (r4 - 1), .int 1])
      have t5 : SqT K (upd H4 g (.tup [V.int (r4 - 1), .int 1])) g [.int (r4 - 1), .int 1] := tupOf upd_same
      have hp5 := hp4.same s5
      generalize upd H4 g (.tup [V.int (r4 - 1), .int 1]) = H5 at *
      repeat walk_at "st"
      refine ⟨sz rfl, fun o no => ?_⟩
      have s6 := same_new no (.tup [V.ref f, .ref g])
      exact q o f g _ _ _ _ _ ((((c1.trans c2).trans (But.same s3)).trans c4).trans (But.same (s5.trans s6))) ((hp5.same s6).mono (by omega)) upd_same (s6.tp (s5.tp t4)) (s6.tp t5) (fb_int (by omega)) (fb_int (by omega))
    · repeat walk_at "st"
      refine ⟨p, _, rfl, hp1, by omega, fun o f g t u r s2 H2 c2 hp2 e k1 k2 b1 b2 => ?_⟩
      exact q o f g t u r s2 H2 (c1.trans c2) (hp2.mono (by omega)) e k1 k2 b1 b2
  ) only [↓Mb.dischW]
theorem ok_plain_row (F : Fn K mg "_law_plain_row" s_plain_row) (G_pool : Kn P w K mg base 1 "_law_pool" ["_law_script", "_law_at"] (spPool K)) (G_take : Kn P w K mg base 1 "_law_take" ["_law_pool_here", "_law_wide"] spTake) (G_plain_place : Kn P w K mg base 5 "_law_plain_place" ["_law_pool_here"] (spPlaceC K)) (G_making : Kn P w K mg base 5 "_law_making" ["_law_pool_here", "_law_by"] (spMakingQ K)) (G_l_weight : Kn P w K mg base 2 "_law_weight" ["_law_making_here", "_law_sorts", "_law_heavy"] (spWeight K)) (G_sort : Kn P w K mg base 1 "_law_sort" ["_law_making_here"] (spSortL K)) (z_range : mg "range" = none) (z_str : mg "str" = none) : Kn P w K mg base 6 "_law_plain_row" ["_law_script", "_law_many"] (spRow31 K) := by
  refine Mb.ofW ?_
  simp (discharger := with_unfolding_all
    refine F.kn sc_plain_row (fun vs H Q E h => ?_) (fun f cdv A outer s H vs Q E hr h => ?_) (fun _ _ _ _ _ _ us hl => match us, hl with | [_, _], _ => rfl)
    · obtain ⟨a, xs, n, rfl, _⟩ := h
      rfl
    obtain ⟨a, xs, n, rfl, hS, hxs, hn, q⟩ := h
    refine ⟨_, (pss_cons (ps_set (i := 2) sc_plain_row.nd rfl (.inl rfl) (pe_lst pa_nil))
      (pss_cons (ps_set (i := 3) sc_plain_row.nd rfl (.inl rfl) (pe_disp (pps_cons pe_str (pe_lst pa_nil) (pps_cons pe_str (pe_lst pa_nil) (pps_cons pe_str (pe_lst pa_nil) (pps_cons pe_str (pe_lst pa_nil) pps_nil)))) rfl rfl (by simp) (by decide)))
      (pss_cons (ps_set (i := 4) sc_plain_row.nd rfl (.inl rfl) pe_dnewK)
      (pss_cons (ps_set (i := 5) sc_plain_row.nd rfl (.inl rfl) pe_dnewK)
      (pss_cons (ps_set (i := 6) sc_plain_row.nd rfl (.inl rfl) (pe_op op_add pe_int (pe_kn G_take (hr.mono (by decide)) (by rfl) (pa_cons (pe_kn G_pool (hr.mono (by decide)) (by rfl) (pa_cons (pv 0) (pa_cons pe_int pa_nil))) (pa_cons pe_int pa_nil)))))
      (pss_cons (ps_for PassesOwn.never rfl (pi_range1 (by rfl) z_range (pa_cons (pv 1) pa_nil)) (pg_name (i := 7) sc_plain_row.nd rfl (.inl rfl))
      (pss_cons (ps_set (i := 8) sc_plain_row.nd rfl (.inl rfl) (pe_kn G_pool (hr.mono (by decide)) (by rfl) (pa_cons (pv 0) (pa_cons (pe_op op_add pe_int (pv 7)) pa_nil))))
      (pss_cons (ps_set (i := 9) sc_plain_row.nd rfl (.inl rfl) (pe_op op_add_str (pe_ix ix_str pe_str (pe_op op_mod (pv 7) pe_int) (fun _ _ => rfl)) (pe_callTy call_str_int (by rfl) z_str (by decide +kernel) (pa_cons (pv 7) pa_nil))))
      (pss_cons (ps_set (i := 10) sc_plain_row.nd rfl (.inl rfl) (pe_kn G_making (hr.mono (by decide)) (by rfl) (pa_cons (pv 8) (pa_cons (pv 3) pa_nil))))
      (pss_cons (ps_if (PW.pt (pw_or (pt_cmpR op_lt (pv 7) (pv 6) (nomark _)) (pw_or1 (pt_cmpR op_gt (pe_kn G_l_weight (hr.mono (by decide)) (by rfl) (pa_cons (pv 10) (pa_cons (pv 4) (pa_cons (pv 5) pa_nil)))) pe_int (nomark _)))))
      (pss_one (ps_set (i := 10) sc_plain_row.nd rfl (.inl rfl) (pe_op op_catT (pe_tup (pa_cons pe_str pa_nil)) (pe_kn G_plain_place (hr.mono (by decide)) (by rfl) (pa_cons (pv 8) pa_nil)))))
      pss_nil)
      (pss_cons (ps_dput (u1 hr.units) (pv 5) (pv 9) (pe_kn G_l_weight (hr.mono (by decide)) (by rfl) (pa_cons (pv 10) (pa_cons (pv 4) (pa_cons (pv 5) pa_nil)))) (by rfl))
      (pss_cons (ps_dput (u1 hr.units) (pv 4) (pv 9) (pe_kn G_sort (hr.mono (by decide)) (by rfl) (pa_cons (pv 10) pa_nil)) (by rfl))
      (pss_cons (ps_expr (pe_bm PySem.F.plainAttrs_list PySem.F.slot_list_append PySem.F.type_list_append mt_append (pe_dget (u1 hr.units) (pv 3) (pe_dget (u1 hr.units) (pv 4) (pv 9) (fun _ _ => rfl)) (fun _ _ => rfl)) (pa_cons (pv 9) pa_nil)))
      (pss_one (ps_expr (pe_bm PySem.F.plainAttrs_list PySem.F.slot_list_append PySem.F.type_list_append mt_append (pv 2) (pa_cons (pe_tup (pa_cons (pv 9) (pa_cons (pv 10) pa_nil))) pa_nil))))))))))))
      (pss_one (ps_ret (pv 2))))))))), ?_⟩
    show (_ : TS) _ [some (.ref a), some (.int (n : Int)), none, none, none, none, none, none, none, none, none] _
    repeat walk_at "st"
    refine ⟨sz rfl, fun R nR => ?_⟩
    have sR := same_new nR (.lst [])
    have eR0 : upd H R (.lst []) R = some (.lst []) := upd_same
    generalize upd H R (.lst []) = H1 at *
    repeat walk_at "st"
    refine fun B nB => ?_
    have sB := same_new nB (.dK [])
    have eB0 : upd H1 B (.dK []) B = some (.dK []) := upd_same
    generalize upd H1 B (.dK []) = H2 at *
    refine r_prs ?_
    repeat walk_at "st"
    refine ⟨sz rfl, fun P nP => ?_⟩
    have sP := same_new nP (.lst [])
    have eP0 : upd H2 P (.lst []) P = some (.lst []) := upd_same
    generalize upd H2 P (.lst []) = H3 at *
    refine r_prs ?_
    repeat walk_at "st"
    refine ⟨sz rfl, fun Ln nLn => ?_⟩
    have sLn := same_new nLn (.lst [])
    have eLn0 : upd H3 Ln (.lst []) Ln = some (.lst []) := upd_same
    generalize upd H3 Ln (.lst []) = H4 at *
    refine r_prs ?_
    repeat walk_at "st"
    refine ⟨sz rfl, fun C nC => ?_⟩
    have sC := same_new nC (.lst [])
    have eC0 : upd H4 C (.lst []) C = some (.lst []) := upd_same
    generalize upd H4 C (.lst []) = H5 at *
    refine r_prs ?_
    repeat walk_at "st"
    refine ⟨sz rfl, fun Z nZ => ?_⟩
    have sZ := same_new nZ (.lst [])
    have eZ0 : upd H5 Z (.lst []) Z = some (.lst []) := upd_same
    generalize upd H5 Z (.lst []) = H6 at *
    refine r_prs0 ?_
    have sAll : Same H1 H6 := sB.trans (sP.trans (sLn.trans (sC.trans sZ)))
    have eR := sAll _ _ eR0
    have eB := (sP.trans (sLn.trans (sC.trans sZ))) _ _ eB0
    have eP := (sLn.trans (sC.trans sZ)) _ _ eP0
    have eL := (sC.trans sZ) _ _ eLn0
    have eC := sZ _ _ eC0
    have nBR : B ≠ R := fun z => by rw [z, eR0] at nB; cases nB
    have nRP : R ≠ P := fun z => by rw [← z, sB _ _ eR0] at nP; cases nP
    have nRL : R ≠ Ln := fun z => by rw [← z, sP _ _ (sB _ _ eR0)] at nLn; cases nLn
    have nRC : R ≠ C := fun z => by rw [← z, sLn _ _ (sP _ _ (sB _ _ eR0))] at nC; cases nC
    have nRZ : R ≠ Z := fun z => by rw [← z, sC _ _ (sLn _ _ (sP _ _ (sB _ _ eR0)))] at nZ; cases nZ
    have nPL : P ≠ Ln := fun z => by rw [← z, eP0] at nLn; cases nLn
    have nPC : P ≠ C := fun z => by rw [← z, sLn _ _ eP0] at nC; cases nC
    have nPZ : P ≠ Z := fun z => by rw [← z, sC _ _ (sLn _ _ eP0)] at nZ; cases nZ
    have nLC : Ln ≠ C := fun z => by rw [← z, eLn0] at nC; cases nC
    have nLZ : Ln ≠ Z := fun z => by rw [← z, sC _ _ eLn0] at nZ; cases nZ
    have nCZ : C ≠ Z := fun z => by rw [← z, eC0] at nZ; cases nZ
    have nB0 : H B = none := sR.free nB
    have hP0 : H P = none := sR.free (sB.free nP)
    have hL0 : H Ln = none := sR.free (sB.free (sP.free nLn))
    have hC0 : H C = none := sR.free (sB.free (sP.free (sLn.free nC)))
    have hZ0 : H Z = none := sR.free (sB.free (sP.free (sLn.free (sC.free nZ))))
    have g6 : Same H H6 := sR.trans sAll
    have s1 := g6
    clear sR sB sP sLn sC sAll eR0 eB0 eP0 eLn0 eC0 nB nP nLn nC nZ
    refine ⟨eB, [(.inr "point", .ref P), (.inr "line", .ref Ln), (.inr "circle", .ref C), (.inr "claim", .ref Z)], rfl, by simp, ?_⟩
    rw [show mergeK [] [((.inr "point" : Key), V.ref P), (.inr "line", .ref Ln), (.inr "circle", .ref C), (.inr "claim", .ref Z)] = [(.inr "point", .ref P), (.inr "line", .ref Ln), (.inr "circle", .ref C), (.inr "claim", .ref Z)] from rfl]
    obtain ⟨H7, e7, k7⟩ : ∃ H7, H7 = upd H6 B (.dK [(.inr "point", .ref P), (.inr "line", .ref Ln), (.inr "circle", .ref C), (.inr "claim", .ref Z)]) ∧ H7 B = some (.dK [(.inr "point", .ref P), (.inr "line", .ref Ln), (.inr "circle", .ref C), (.inr "claim", .ref Z)]) := ⟨_, rfl, upd_same⟩
    have g7 : Same H H7 := by rw [e7]; exact same_updS g6 nB0
    have eR7 : H7 R = some (.lst []) := by rw [e7, upd_ne (fun z => nBR z.symm)]; exact eR
    have eP7 : H7 P = some (.lst []) := by rw [e7, upd_ne (ne_kind eP eB)]; exact eP
    have eL7 : H7 Ln = some (.lst []) := by rw [e7, upd_ne (ne_kind eL eB)]; exact eL
    have eC7 : H7 C = some (.lst []) := by rw [e7, upd_ne (ne_kind eC eB)]; exact eC
    have eZ7 : H7 Z = some (.lst []) := by rw [e7, upd_ne (ne_kind eZ0 eB)]; exact eZ0
    rw [← e7]
    clear e7 eR eP eL eC eZ0 eB g6 s1 sZ
    repeat walk_at "st"
    refine fun S nS => ?_
    have sS := same_new nS (.dK [])
    have eS8 : upd H7 S (.dK []) S = some (.dK []) := upd_same
    generalize upd H7 S (.dK []) = H8 at *
    repeat walk_at "st"
    refine fun Wt nW => ?_
    have sW := same_new nW (.dK [])
    have eW9 : upd H8 Wt (.dK []) Wt = some (.dK []) := upd_same
    generalize upd H8 Wt (.dK []) = H9 at *
    have nSW : S ≠ Wt := fun z => by rw [← z, eS8] at nW; cases nW
    have nBS : B ≠ S := fun z => by rw [← z, k7] at nS; cases nS
    have nBW : B ≠ Wt := fun z => by rw [← z, sS _ _ k7] at nW; cases nW
    have s79 := sS.trans sW
    have g9 := g7.trans s79
    have nSp : H S = none := g7.free nS
    have nWp : H Wt = none := g7.free (sS.free nW)
    have nR0 : H R = none := nR
    repeat walk_at "st"
    refine ⟨a, xs, _, rfl, g9.seq hS, hxs, by decide, by decide, fun p H10 sp np hp10 => ?_⟩
    have g10 := g9.trans sp
    have ne9 : ∀ {b : Addr} {o : HO}, H9 b = some o → b ≠ p := fun h z => by rw [z, np] at h; cases h
    have npR := ne9 (s79 _ _ eR7)
    have npB := ne9 (s79 _ _ k7)
    have npP := ne9 (s79 _ _ eP7)
    have npL := ne9 (s79 _ _ eL7)
    have npC := ne9 (s79 _ _ eC7)
    have npZ := ne9 (s79 _ _ eZ7)
    have all0 : AllQ K H H10 p R B S Wt P Ln C Z 1000000 [] [] [] [] [] [] := ⟨But.same g10, hp10, sp _ _ (s79 _ _ eR7), .nil, ⟨sp _ _ (s79 _ _ k7), sp _ _ (s79 _ _ eP7), sp _ _ (s79 _ _ eL7), sp _ _ (s79 _ _ eC7), sp _ _ (s79 _ _ eZ7), npP, npL, npC, npZ, ⟨by simp, by simp, by simp, by simp⟩, npB⟩, ⟨sp _ _ (sW _ _ eS8), sp _ _ eW9, light0, by simp [envOf], nSW⟩, trivial, ⟨fun z h => (by cases h), fun z h => (by cases h), fun z h => (by cases h)⟩, ⟨by simp, by simp, by simp, by simp⟩⟩
    have np0 : H p = none := g9.free np
    clear ne9 sp np hp10 g10 sS sW s79 eS8 eW9 nW nS k7 eR7 eP7 eL7 eC7 eZ7 g7 g9 npB npP npL npC npZ
    repeat walk_at "st"
    refine ⟨p, _, _, rfl, all0.pl, by omega, by decide, by decide, fun hd H11 c11 hp11 hd0 hd1 => ?_⟩
    have all1 := all0.but c11 hp11 npR
    clear all0 c11 hp11
    repeat walk_at "st"
    with_reducible refine r_cut (fun σ H' => ∃ (y7 yp y8 y9 : Option V) (p : Addr) (c : Int) (us : List V) (ts : List Thq) (pts lns crs cls : List Str), σ = [some (.ref a), some (.int (n : Int)), some (.ref R), some (.ref B), some (.ref S), some (.ref Wt), some (.int (1 + hd)), y7, yp, y8, y9] ∧ AllQ K H H' p R B S Wt P Ln C Z c us ts pts lns crs cls ∧ H p = none ∧ R ≠ p ∧ ts.map (·.1) = (List.range n).map nm34) ?U1 ?V1
    case V1 =>
      intro N J
      refine ⟨.int (n : Int), rfl, (n : Int), rfl, by omega, by omega, ?_⟩
      refine for_range (n := ((n : Int)).toNat) (fun i σ H' => ∃ (y7 yp y8 y9 : Option V) (p : Addr) (c : Int) (us : List V) (ts : List Thq) (pts lns crs cls : List Str), σ = [some (.ref a), some (.int (n : Int)), some (.ref R), some (.ref B), some (.ref S), some (.ref Wt), some (.int (1 + hd)), y7, yp, y8, y9] ∧ AllQ K H H' p R B S Wt P Ln C Z c us ts pts lns crs cls ∧ H p = none ∧ R ≠ p ∧ ts.map (·.1) = (List.range i).map nm34) ?_ ?_ ?_
      · exact ⟨_, _, _, _, p, _, [], [], [], [], [], [], rfl, all1, np0, npR, rfl⟩
      · rintro i σ H11 hi ⟨y7, yp, y8, y9, p0, c0, us, ts, pts, lns, crs, cls, rfl, al0, n0, nr0, hnm⟩
        clear all1 np0 npR J
        have hi60 : i < 60 := by omega
        have i13 : i < 17 := by omega
        have hts : ts.length = i := by have := congrArg List.length hnm; simpa using this
        repeat walk_at "st"
        refine ⟨a, xs, _, rfl, al0.sm n0 |>.seq hS, hxs, by omega, by omega, fun p H12 s12 np hp12 => ?_⟩
        have al := al0.repool n0 s12 np hp12
        have nq : H p = none := (al0.sm n0).free np
        have npR : R ≠ p := fun z => by have h1 := al0.eR; rw [z, np] at h1; cases h1
        have npB := al.bi.nB
        have npP := al.bi.nP
        have npL := al.bi.nL
        have npC := al.bi.nC
        have npZ := al.bi.nZ
        clear al0 n0 nr0 s12 np hp12
        repeat walk_at "st"
        refine ⟨"qdzamxkbwcyplh", (0 + (i : Int)) % 14, let34 i, rfl, rfl, by decide, by rw [Int.zero_add]; exact at31 i i13, ?_⟩
        obtain ⟨z1, z2⟩ := num31 i i13
        repeat walk_at "st"
        refine ⟨_, by rw [Int.zero_add], z1, ?_⟩
        repeat walk_at "st"
        refine ⟨_, _, rfl, rfl, Nat.le_trans z2 (by decide), ?_⟩
        rw [show ((⟨#[let34 i]⟩ : Str) ++ Str.ofString (toString (i : Int))) = nm34 i from rfl]
        have sok := nm31_ok i i13
        have nz : nm34 i ∉ nmsE (envOf [] (ts.map thOf)) := by rw [nms_of, hnm]; exact nm31_new i13
        obtain ⟨z, hz⟩ : ∃ z, z = nm34 i := ⟨_, rfl⟩
        rw [← hz] at sok nz ⊢
        have al13 := al
        clear al
        repeat walk_at "st"
        refine ⟨p, B, P, Ln, C, Z, pts, lns, crs, cls, _, rfl, al13.pl, by omega, al13.bi, fun m0 x0 sx g ns0 d0 H14 c14 hp14 mk0 nr0 tx pr => ?_⟩
        have al14 := al13.but c14 (hp14.mono (show (1000000 : Int) + 100 ≤ 1000000 + 100 by omega)) npR
        have fe0 := fitsE_of tx pr al13.srt
        clear al13 c14 hp14 tx pr
        repeat walk_at "st"
        with_reducible refine r_cut (fun σ H' => ∃ (m : Addr) (x : Str) (ns : List Str) (d : Tail), σ = [some (.ref a), some (.int (n : Int)), some (.ref R), some (.ref B), some (.ref S), some (.ref Wt), some (.int (1 + hd)), some (.int (0 + (i : Int))), some (.ref p), some (.str z), some (.ref m)] ∧ AllQ K H H' p R B S Wt P Ln C Z (1000000 + 300) us ts pts lns crs cls ∧ Mq K H' m x ns d ∧ Nr d ∧ FitsE x ns (envOf [] (ts.map thOf)) ∧ wOf x ns (envOf [] (ts.map thOf)) ≤ 40) ?U3 ?V3
        case V3 =>
          intro N J
          repeat walk_at "st"
          refine r_ite (fun c => ?_) (fun c => ?_)
          · skip
            repeat walk_at "st"
            refine ⟨sz rfl, fun t1 nt => ?_⟩
            have s16 := same_new nt (.tup [V.str "free"])
            have t16 : SqT K (upd H14 t1 (.tup [V.str "free"])) t1 [.str "free"] := tupOf upd_same
            generalize upd H14 t1 (.tup [V.str "free"]) = H16 at *
            have al16 := al14.same s16 npR
            repeat walk_at "st"
            refine ⟨p, _, rfl, al16.pl, by omega, fun o f1 f2 a1 a2 a3 a4 Hf cf hpf ef k1 k2 fb1 fb2 => ?_⟩
            have al17 := al16.but cf hpf npR
            repeat walk_at "st"
            refine r_cat (al16.pl.tup cf t16) (tupOf ef) (by simp) (sz4 (by simp)) fun m Hg sg kg => ?_
            repeat walk_at "st"
            exact J _ _ ⟨m, "free", [], .fr (Rat.divInt a1 a2) (Rat.divInt a3 a4), rfl, al17.but (But.same sg) ((al17.pl.same sg).mono (by omega)) npR, ⟨_, kg, rfl, _, _, rfl, (fb_fq fb1 (sg.tp k1)).1, (fb_fq fb2 (sg.tp k2)).1⟩, ⟨(fb_fq fb1 (sg.tp k1)).2, (fb_fq fb2 (sg.tp k2)).2⟩, fits_free, by rw [wOf_free]; decide⟩
          repeat walk_at "st"
          refine ⟨m0, S, Wt, x0, ns0, envOf [] (ts.map thOf), rfl, mk0.mk, fe0.okm, al14.dc, fun H15 s15 => ?_⟩
          have al15 := al14.same s15 npR
          replace mk0 := mk0.kp (Kp.same s15)
          repeat walk_at "st"
          refine r_ite (fun c => ?_) (fun c => ?_)
          · skip
            repeat walk_at "st"
            refine ⟨sz rfl, fun t1 nt => ?_⟩
            have s16 := same_new nt (.tup [V.str "free"])
            have t16 : SqT K (upd H15 t1 (.tup [V.str "free"])) t1 [.str "free"] := tupOf upd_same
            generalize upd H15 t1 (.tup [V.str "free"]) = H16 at *
            have al16 := al15.same s16 npR
            repeat walk_at "st"
            refine ⟨p, _, rfl, al16.pl, by omega, fun o f1 f2 a1 a2 a3 a4 Hf cf hpf ef k1 k2 fb1 fb2 => ?_⟩
            have al17 := al16.but cf hpf npR
            repeat walk_at "st"
            refine r_cat (al16.pl.tup cf t16) (tupOf ef) (by simp) (sz4 (by simp)) fun m Hg sg kg => ?_
            repeat walk_at "st"
            exact J _ _ ⟨m, "free", [], .fr (Rat.divInt a1 a2) (Rat.divInt a3 a4), rfl, al17.but (But.same sg) ((al17.pl.same sg).mono (by omega)) npR, ⟨_, kg, rfl, _, _, rfl, (fb_fq fb1 (sg.tp k1)).1, (fb_fq fb2 (sg.tp k2)).1⟩, ⟨(fb_fq fb1 (sg.tp k1)).2, (fb_fq fb2 (sg.tp k2)).2⟩, fits_free, by rw [wOf_free]; decide⟩
          repeat walk_at "st"
          exact J _ _ ⟨m0, x0, ns0, d0, rfl, al15.but (But.refl _ _) (al15.pl.mono (by omega)) npR, mk0, nr0, fe0, by omega⟩
        rintro σ H15 ⟨m, x, ns, d, rfl, al15, mk, nr, fe, hw⟩
        clear al14 mk0 fe0 nr0
        have ok := fe.okm
        have lg := al15.dc.light
        have hw0 := wOf_nonneg lg x ns
        have gr2 := gr_snoc (t := (z, x, ns, d)) al15.gr ⟨nz, sok, sok_good sok, fe, nr, hw0, hw⟩
        refine r_dputS ?_
        repeat walk_at "st"
        refine ⟨m, S, Wt, x, ns, envOf [] (ts.map thOf), rfl, mk.mk, ok, al15.dc, fun H16 s16 => ?_⟩
        have al16 := al15.same s16 npR
        replace mk := mk.kp (Kp.same s16)
        clear al15
        repeat walk_at "st"
        have few16 := al16.dc.few
        refine ⟨Wt, _, rfl, DPut.k (k := .inr z) al16.dc.w (by unfold loadsD; rw [List.length_map]; exact Nat.lt_of_le_of_lt few16 (by decide)), ?_⟩
        rw [show putK (loadsD (envOf [] (ts.map thOf))) (.inr z) (V.int (wOf x ns (envOf [] (ts.map thOf)))) = loadsD (envStep (envOf [] (ts.map thOf)) (z, x, ns)) from put_new nz rfl rfl]
        obtain ⟨H17, e17, k17⟩ : ∃ H17, H17 = upd H16 Wt (.dK (loadsD (envStep (envOf [] (ts.map thOf)) (z, x, ns)))) ∧ H17 Wt = some (.dK (loadsD (envStep (envOf [] (ts.map thOf)) (z, x, ns)))) := ⟨_, rfl, upd_same⟩
        have kp17 : Kp K H16 H17 := by rw [e17]; exact kp_dict al16.dc.w
        have off17 : ∀ {b : Addr} {o : HO}, b ≠ Wt → H16 b = some o → H17 b = some o := fun hb h => by rw [e17, upd_ne hb]; exact h
        rw [← e17]
        clear e17
        replace mk := mk.kp kp17
        refine r_dputS ?_
        repeat walk_at "st"
        refine ⟨m, x, ns, envOf [] (ts.map thOf), rfl, mk.mk, ok, fun H18 s18 => ?_⟩
        repeat walk_at "st"
        refine ⟨S, _, rfl, DPut.k (k := .inr z) (s18 _ _ (off17 nSW al16.dc.s)) (by unfold sortsD; rw [List.length_map]; exact Nat.lt_of_le_of_lt few16 (by decide)), ?_⟩
        rw [show putK (sortsD (envOf [] (ts.map thOf))) (.inr z) (V.str (sOf x)) = sortsD (envStep (envOf [] (ts.map thOf)) (z, x, ns)) from put_new nz rfl rfl]
        obtain ⟨H19, e19, k19⟩ : ∃ H19, H19 = upd H18 S (.dK (sortsD (envStep (envOf [] (ts.map thOf)) (z, x, ns)))) ∧ H19 S = some (.dK (sortsD (envStep (envOf [] (ts.map thOf)) (z, x, ns)))) := ⟨_, rfl, upd_same⟩
        have kp19 : Kp K H18 H19 := by rw [e19]; exact kp_dict (s18 _ _ (off17 nSW al16.dc.s))
        have off19 : ∀ {b : Addr} {o : HO}, b ≠ Wt → b ≠ S → H16 b = some o → H19 b = some o := fun hb hc h => by rw [e19, upd_ne hc]; exact s18 _ _ (off17 hb h)
        have eW19 : H19 Wt = some (.dK (loadsD (envStep (envOf [] (ts.map thOf)) (z, x, ns)))) := by rw [e19, upd_ne (fun z => nSW z.symm)]; exact s18 _ _ k17
        rw [← e19]
        clear e19
        have kp := (kp17.trans (Kp.same s18)).trans kp19
        replace mk := (mk.kp (Kp.same s18)).kp kp19
        have nPW := ne_kind al16.bi.eP al16.dc.w
        have nPS := ne_kind al16.bi.eP al16.dc.s
        have nLW := ne_kind al16.bi.eL al16.dc.w
        have nLS := ne_kind al16.bi.eL al16.dc.s
        have nCW := ne_kind al16.bi.eC al16.dc.w
        have nCS := ne_kind al16.bi.eC al16.dc.s
        have nZW := ne_kind al16.bi.eZ al16.dc.w
        have nZS := ne_kind al16.bi.eZ al16.dc.s
        have nRW := ne_kind al16.eR al16.dc.w
        have nRS := ne_kind al16.eR al16.dc.s
        have hp16 := al16.pl
        have npW : p ≠ Wt := fun e => by obtain ⟨_, _, _, h1, _⟩ := hp16; have h2 := al16.dc.w; rw [← e, h1] at h2; cases h2
        have npS : p ≠ S := fun e => by obtain ⟨_, _, _, h1, _⟩ := hp16; have h2 := al16.dc.s; rw [← e, h1] at h2; cases h2
        have hp19 : Pl H19 p (1000000 + 300) := by obtain ⟨a1, a2, a3, h1, h2⟩ := hp16; exact ⟨a1, a2, a3, off19 npW npS h1, h2⟩
        have bt19 : But p H H19 := fun a o ha h => off19 (fun e => by rw [e, nWp] at h; cases h) (fun e => by rw [e, nSp] at h; cases h) (al16.bt a o ha h)
        have bi19 : By H19 p B P Ln C Z pts lns crs cls := ⟨off19 nBW nBS al16.bi.b, off19 nPW nPS al16.bi.eP, off19 nLW nLS al16.bi.eL, off19 nCW nCS al16.bi.eC, off19 nZW nZS al16.bi.eZ, npP, npL, npC, npZ, al16.bi.f, npB⟩
        have eR19 := off19 nRW nRS al16.eR
        have rw19 := al16.rw.kp kp
        have srt16 := al16.srt
        have ln16 := al16.ln
        have lg2 : Light (envStep (envOf [] (ts.map thOf)) (z, x, ns)) := by have := Vr.light _ _ light0 gr2.vr; rw [envq_snoc] at this; exact this
        have len2 : (envStep (envOf [] (ts.map thOf)) (z, x, ns)).length ≤ 100 := by unfold envStep; rw [List.length_append, envOf_len, List.length_map]; simp; omega
        have zin : z ∈ nmsE (envStep (envOf [] (ts.map thOf)) (z, x, ns)) := by rw [nms_step]; simp
        have srt : srtE (envStep (envOf [] (ts.map thOf)) (z, x, ns)) z = sOf x := srt_step (t := (z, x, ns)) nz
        obtain ⟨⟨sx, gx, tx, hnx⟩, _⟩ := ok
        clear al16 kp17 kp19 kp k17 off17 off19 s18 s16 hp16 few16
        with_reducible refine r_cut (fun σ H' => ∃ pts' lns' crs' cls' : List Str, σ = [some (.ref a), some (.int (n : Int)), some (.ref R), some (.ref B), some (.ref S), some (.ref Wt), some (.int (1 + hd)), some (.int (0 + (i : Int))), some (.ref p), some (.str z), some (.ref m)] ∧ Kp K H19 H' ∧ But p H H' ∧ Pl H' p (1000000 + 300) ∧ H' R = some (.lst us) ∧ By H' p B P Ln C Z pts' lns' crs' cls' ∧ H' S = some (.dK (sortsD (envStep (envOf [] (ts.map thOf)) (z, x, ns)))) ∧ H' Wt = some (.dK (loadsD (envStep (envOf [] (ts.map thOf)) (z, x, ns)))) ∧ Srt (envStep (envOf [] (ts.map thOf)) (z, x, ns)) pts' lns' crs' ∧ pts'.length ≤ i + 1 ∧ lns'.length ≤ i + 1 ∧ crs'.length ≤ i + 1 ∧ cls'.length ≤ i + 1) ?U4 ?V4
        case V4 =>
          intro N J
          obtain ⟨v1, v2, v3, v4⟩ := ln16
          rcases sort4 tx with e | e | e | e
          · repeat walk_at "st"
            refine r_bm ?_
            repeat walk_at "st"
            refine r_dg ?_
            repeat walk_at "st"
            refine r_dg ?_
            repeat walk_at "st"
            refine ⟨S, _, rfl, get_sort k19 zin, ?_⟩
            rw [srt, e]
            repeat walk_at "st"
            refine ⟨B, .ref P, rfl, DGet.k (k := .inr "point") bi19.b, ?_⟩
            repeat walk_at "st"
            refine ⟨.inl ⟨rfl, _, lstOf bi19.eP⟩, ?_⟩
            repeat walk_at "st"
            refine ⟨P, _, .str z, rfl, rfl, bi19.eP, by rw [List.length_map]; exact Nat.lt_of_lt_of_le (show pts.length < 64 by omega) (by decide), ?_⟩
            have mm : Srt (envStep (envOf [] (ts.map thOf)) (z, x, ns)) (pts ++ [z]) lns crs := srt16.step (t := (z, x, ns)) nz sok (.inl ⟨rfl, rfl, rfl, e⟩)
            exact J _ _ ⟨(pts ++ [z]), lns, crs, cls, rfl, kp_list bi19.eP, but_updR bt19 hP0, hp19.updR (fun e => npP e.symm), by rw [upd_ne nRP]; exact eR19, ⟨by rw [upd_ne (fun e => ne_kind bi19.eP bi19.b e.symm)]; exact bi19.b, by rw [List.map_append]; exact upd_same, by rw [upd_ne (fun e => nPL e.symm)]; exact bi19.eL, by rw [upd_ne (fun e => nPC e.symm)]; exact bi19.eC, by rw [upd_ne (fun e => nPZ e.symm)]; exact bi19.eZ, npP, npL, npC, npZ, ⟨by simp; omega, by omega, by omega, by omega⟩, npB⟩, by rw [upd_ne (fun e => nPS e.symm)]; exact k19, by rw [upd_ne (fun e => nPW e.symm)]; exact eW19, mm, by simp; omega, by omega, by omega, by omega⟩
          · repeat walk_at "st"
            refine r_bm ?_
            repeat walk_at "st"
            refine r_dg ?_
            repeat walk_at "st"
            refine r_dg ?_
            repeat walk_at "st"
            refine ⟨S, _, rfl, get_sort k19 zin, ?_⟩
            rw [srt, e]
            repeat walk_at "st"
            refine ⟨B, .ref Ln, rfl, DGet.k (k := .inr "line") bi19.b, ?_⟩
            repeat walk_at "st"
            refine ⟨.inl ⟨rfl, _, lstOf bi19.eL⟩, ?_⟩
            repeat walk_at "st"
            refine ⟨Ln, _, .str z, rfl, rfl, bi19.eL, by rw [List.length_map]; exact Nat.lt_of_lt_of_le (show lns.length < 64 by omega) (by decide), ?_⟩
            have mm : Srt (envStep (envOf [] (ts.map thOf)) (z, x, ns)) pts (lns ++ [z]) crs := srt16.step (t := (z, x, ns)) nz sok (.inr (.inl ⟨rfl, rfl, rfl, e⟩))
            exact J _ _ ⟨pts, (lns ++ [z]), crs, cls, rfl, kp_list bi19.eL, but_updR bt19 hL0, hp19.updR (fun e => npL e.symm), by rw [upd_ne nRL]; exact eR19, ⟨by rw [upd_ne (fun e => ne_kind bi19.eL bi19.b e.symm)]; exact bi19.b, by rw [upd_ne nPL]; exact bi19.eP, by rw [List.map_append]; exact upd_same, by rw [upd_ne (fun e => nLC e.symm)]; exact bi19.eC, by rw [upd_ne (fun e => nLZ e.symm)]; exact bi19.eZ, npP, npL, npC, npZ, ⟨by omega, by simp; omega, by omega, by omega⟩, npB⟩, by rw [upd_ne (fun e => nLS e.symm)]; exact k19, by rw [upd_ne (fun e => nLW e.symm)]; exact eW19, mm, by omega, by simp; omega, by omega, by omega⟩
          · repeat walk_at "st"
            refine r_bm ?_
            repeat walk_at "st"
            refine r_dg ?_
            repeat walk_at "st"
            refine r_dg ?_
            repeat walk_at "st"
            refine ⟨S, _, rfl, get_sort k19 zin, ?_⟩
            rw [srt, e]
            repeat walk_at "st"
            refine ⟨B, .ref C, rfl, DGet.k (k := .inr "circle") bi19.b, ?_⟩
            repeat walk_at "st"
            refine ⟨.inl ⟨rfl, _, lstOf bi19.eC⟩, ?_⟩
            repeat walk_at "st"
            refine ⟨C, _, .str z, rfl, rfl, bi19.eC, by rw [List.length_map]; exact Nat.lt_of_lt_of_le (show crs.length < 64 by omega) (by decide), ?_⟩
            have mm : Srt (envStep (envOf [] (ts.map thOf)) (z, x, ns)) pts lns (crs ++ [z]) := srt16.step (t := (z, x, ns)) nz sok (.inr (.inr (.inl ⟨rfl, rfl, rfl, e⟩)))
            exact J _ _ ⟨pts, lns, (crs ++ [z]), cls, rfl, kp_list bi19.eC, but_updR bt19 hC0, hp19.updR (fun e => npC e.symm), by rw [upd_ne nRC]; exact eR19, ⟨by rw [upd_ne (fun e => ne_kind bi19.eC bi19.b e.symm)]; exact bi19.b, by rw [upd_ne nPC]; exact bi19.eP, by rw [upd_ne nLC]; exact bi19.eL, by rw [List.map_append]; exact upd_same, by rw [upd_ne (fun e => nCZ e.symm)]; exact bi19.eZ, npP, npL, npC, npZ, ⟨by omega, by omega, by simp; omega, by omega⟩, npB⟩, by rw [upd_ne (fun e => nCS e.symm)]; exact k19, by rw [upd_ne (fun e => nCW e.symm)]; exact eW19, mm, by omega, by omega, by simp; omega, by omega⟩
          · repeat walk_at "st"
            refine r_bm ?_
            repeat walk_at "st"
            refine r_dg ?_
            repeat walk_at "st"
            refine r_dg ?_
            repeat walk_at "st"
            refine ⟨S, _, rfl, get_sort k19 zin, ?_⟩
            rw [srt, e]
            repeat walk_at "st"
            refine ⟨B, .ref Z, rfl, DGet.k (k := .inr "claim") bi19.b, ?_⟩
            repeat walk_at "st"
            refine ⟨.inl ⟨rfl, _, lstOf bi19.eZ⟩, ?_⟩
            repeat walk_at "st"
            refine ⟨Z, _, .str z, rfl, rfl, bi19.eZ, by rw [List.length_map]; exact Nat.lt_of_lt_of_le (show cls.length < 64 by omega) (by decide), ?_⟩
            have mm : Srt (envStep (envOf [] (ts.map thOf)) (z, x, ns)) pts lns crs := srt16.step (t := (z, x, ns)) nz sok (.inr (.inr (.inr ⟨rfl, rfl, rfl⟩)))
            exact J _ _ ⟨pts, lns, crs, (cls ++ [z]), rfl, kp_list bi19.eZ, but_updR bt19 hZ0, hp19.updR (fun e => npZ e.symm), by rw [upd_ne nRZ]; exact eR19, ⟨by rw [upd_ne (fun e => ne_kind bi19.eZ bi19.b e.symm)]; exact bi19.b, by rw [upd_ne nPZ]; exact bi19.eP, by rw [upd_ne nLZ]; exact bi19.eL, by rw [upd_ne nCZ]; exact bi19.eC, by rw [List.map_append]; exact upd_same, npP, npL, npC, npZ, ⟨by omega, by omega, by omega, by simp; omega⟩, npB⟩, by rw [upd_ne (fun e => nZS e.symm)]; exact k19, by rw [upd_ne (fun e => nZW e.symm)]; exact eW19, mm, by omega, by omega, by omega, by simp; omega⟩
        rintro σ H20 ⟨pts2, lns2, crs2, cls2, rfl, kp20, bt20, hp20, eR20, bi20, eS20, eW20, mm, v1, v2, v3, v4⟩
        repeat walk_at "st"
        refine r_bm ?_
        repeat walk_at "st"
        refine ⟨.inl ⟨rfl, _, lstOf eR20⟩, ?_⟩
        repeat walk_at "st"
        refine ⟨sz rfl, fun tt ntt => ?_⟩
        have s21 := same_new ntt (.tup [V.str z, .ref m])
        have t21 : SqT K (upd H20 tt (.tup [V.str z, .ref m])) tt [.str z, .ref m] := tupOf upd_same
        generalize upd H20 tt (.tup [V.str z, .ref m]) = H21 at *
        repeat walk_at "st"
        have lu := rw19.len
        refine ⟨R, _, .ref tt, rfl, rfl, s21 _ _ eR20, Nat.lt_of_lt_of_le (show us.length < 64 by omega) (by decide), ?_⟩
        have eR21 := s21 _ _ eR20
        have kp22 : Kp K H21 (upd H21 R (.lst (us ++ [.ref tt]))) := kp_list eR21
        have bi21 := bi20.but (But.same (p := p) s21)
        have th : Tg K (upd H21 R (.lst (us ++ [.ref tt]))) (.ref tt) (z, x, ns, d) := ⟨tt, m, rfl, kp22 _ _ t21, (((mk.kp kp20).kp (Kp.same s21)).kp kp22)⟩
        have rws : Rwq K (upd H21 R (.lst (us ++ [.ref tt]))) (us ++ [.ref tt]) (ts ++ [(z, x, ns, d)]) := paired_snocT ((rw19.kp ((kp20.trans (Kp.same s21)).trans kp22))) th
        refine ⟨_, _, _, _, p, 1000000 + 300, us ++ [.ref tt], ts ++ [(z, x, ns, d)], pts2, lns2, crs2, cls2, rfl, ⟨?_, ?_, upd_same, rws, ?_, ?_, gr2, ?_, ?_⟩, nq, npR, by rw [List.map_append, hnm, List.range_succ, List.map_append, hz]; rfl⟩
        · exact but_updR (bt20.trans (But.same s21)) nR
        · exact ((hp20.same s21).updR (fun e => npR e.symm)).mono (by omega)
        · exact ⟨by rw [upd_ne nBR]; exact bi21.b, by rw [upd_ne (fun e => nRP e.symm)]; exact bi21.eP, by rw [upd_ne (fun e => nRL e.symm)]; exact bi21.eL, by rw [upd_ne (fun e => nRC e.symm)]; exact bi21.eC, by rw [upd_ne (fun e => nRZ e.symm)]; exact bi21.eZ, npP, npL, npC, npZ, bi21.f, npB⟩
        · rw [envq_snoc]
          exact ⟨by rw [upd_ne (fun e => nRS e.symm)]; exact s21 _ _ eS20, by rw [upd_ne (fun e => nRW e.symm)]; exact s21 _ _ eW20, lg2, len2, nSW⟩
        · rw [envq_snoc]
          exact mm
        · simp only [List.length_append, List.length_cons, List.length_nil]
          omega
      · rintro σ H11 ⟨y7, yp, y8, y9, p0, c0, us, ts, pts, lns, crs, cls, rfl, al0, n0, nr0, hnm⟩
        exact J _ _ ⟨_, _, _, _, p0, c0, us, ts, pts, lns, crs, cls, rfl, al0, n0, nr0, by rw [show ((n : Int)).toNat = n by omega] at hnm; exact hnm⟩
    rintro σ H11 ⟨y7, yp, y8, y9, p0, c0, us, ts, pts, lns, crs, cls, rfl, al0, n0, nr0, hnm⟩
    repeat walk_at "st"
    exact q R us ts H11 (al0.sm n0) nR0 al0.eR al0.rw al0.gr (by have := congrArg List.length hnm; simpa using this)
  ) only [↓Mb.dischW]
theorem ok_law {Pt : Addr} {f : Addr} {fd : FuncData} (F : FnP K "law" s_law f fd) (G_pool : Kn P w K mg base 1 "_law_pool" ["_law_script", "_law_at"] (spPool K)) (G_take : Kn P w K mg base 1 "_law_take" ["_law_pool_here", "_law_wide"] spTake) (G_plain_row : Kn P w K mg base 6 "_law_plain_row" ["_law_script", "_law_many"] (spRow31 K)) (G_anew : Kn P w K mg base 9 "anew" ["row"] (spAnew K [(Pt, "telling.<locals>.<lambda>")])) (G_l_holds : Kn P w K mg base 10 "_law_holds" ["_law_sheet"] (spHolds31 K)) (z_isinstance : mg "isinstance" = none) (z_len : mg "len" = none) (z_list : mg "list" = none) (z_range : mg "range" = none) : FnOk P w K mg base CX0 (10 + 1) f fd ["_law_script"] (spLawT K Pt) := by
  refine Mb.ofW ?_
  simp (discharger := with_unfolding_all
    refine fnp_ok F sc_law (fun vs H Q E h => ?_) (fun cdv A0 outer s0 H vs Q E hr h => ?_)
    · obtain ⟨a, ns, rfl, _⟩ := h
      rfl
    obtain ⟨a, ns, rfl, hS, hl, tb, q⟩ := h
    refine ⟨_, (pss_cons (ps_set (i := 1) sc_law.nd rfl (.inr rfl) (pe_kn G_plain_row (hr.mono (by decide)) (by rfl) (pa_cons (pv 0) (pa_cons (pe_op op_add pe_int (pe_kn G_take (hr.mono (by decide)) (by rfl) (pa_cons (pe_kn G_pool (hr.mono (by decide)) (by rfl) (pa_cons (pv 0) (pa_cons pe_int pa_nil))) (pa_cons pe_int pa_nil)))) pa_nil))))
      (pss_cons (ps_set (i := 2) sc_law.nd rfl (.inl rfl) (pe_callTy call_list_of (by rfl) z_list (by decide +kernel) (pa_cons (pv 1) pa_nil)))
      (pss_cons (ps_set (i := 3) sc_law.nd rfl (.inr rfl) (pe_kn G_anew (hr.mono (by decide)) (by rfl) (pa_cons (pv 2) pa_nil)))
      (pss_cons (ps_if (PW.pt (pw_or (pt_not (pt_val (pe_callB call_isi (by rfl) z_isinstance (by decide +kernel) (pa_cons (pv 3) (pa_cons (pe_bltn (v := .ty "list") (by rfl) z_list (by decide +kernel) rfl) pa_nil))))) (pw_or (pt_cmpR op_ne (pe_callB call_len_seq (by rfl) z_len (by decide +kernel) (pa_cons (pv 3) pa_nil)) (pe_callB call_len_seq (by rfl) z_len (by decide +kernel) (pa_cons (pv 1) pa_nil)) (nomark _)) (pw_or1 (pt_cmpR (op_neD hr.units) (pv 2) (pv 1) (nomark _))))))
      (pss_one (ps_ret pe_bl))
      pss_nil)
      (pss_one (ps_ret (pe_kn G_l_holds (hr.mono (by decide)) (by rfl) (pa_cons (pe_lc (own := [("_law_k", 4)]) (g := gName 4) (by rfl) sc_law.nd (pi_range1 (by rfl) z_range (pa_cons (pe_callB call_len_seq (by rfl) z_len (by decide +kernel) (pa_cons (pv 1) pa_nil)) pa_nil)) (blkOk_by (own := [("_law_k", 4)]) (N := ["_law_script", "_law_row", "_law_handed", "_law_found", "_law_k"]) (sc := (defScope s_law)) (by decide +kernel)) (fun _ _ _ _ _ => pg_name (i := 4) sc_law.nd rfl (.inl rfl)) (fun _ _ _ _ _ => pts_nil) (fun _ _ _ _ _ => (pe_tup (pa_cons (pe_ix (show IxR _ (rIxT K) from ix_tup) (pe_ix (show IxR _ (rIxL K) from ix_list) (pv 1) (pv 4) (fun _ _ => rfl)) pe_int (fun _ _ => rfl)) (pa_cons (pe_ix (show IxR _ (rIxT K) from ix_tup) (pe_ix (show IxR _ (rIxL K) from ix_list) (pv 1) (pv 4) (fun _ _ => rfl)) pe_int (fun _ _ => rfl)) (pa_cons (pe_ix (show IxR _ (rIxL K) from ix_list) (pv 3) (pv 4) (fun _ _ => rfl)) pa_nil)))))) pa_nil)))))))), ?_⟩
    show (_ : TS) _ [some (.ref a), none, none, none, none] _
    repeat walk_at "st"
    refine ⟨a, ns, _, rfl, hS, hl, by decide, by decide, fun p H1 g1 np hp1 => ?_⟩
    repeat walk_at "st"
    refine ⟨p, _, _, rfl, hp1, by omega, by decide, by decide, fun r1 H2 c2 hp2 r10 r11 => ?_⟩
    have g2 : Same H H2 := fun b o e => c2 b o (fun z => by rw [z, np] at e; cases e) (g1 b o e)
    obtain ⟨n, hn⟩ : ∃ n : Nat, 1 + r1 = (n : Int) := ⟨(1 + r1).toNat, by omega⟩
    clear g1 np c2 hp1
    repeat walk_at "st"
    rw [hn]
    refine ⟨a, ns, n, rfl, g2.seq hS, hl, by omega, fun l us ts H3 s3 nl3 e3 rw3 gr hts => ?_⟩
    have g3 := g2.trans s3
    have ln := rw3.len
    have tb3 := g3 _ _ tb
    clear hp2 s3 g2 nl3
    repeat walk_at "st"
    refine ⟨l, us, rfl, .inl (lstOf e3), fun l2 n2 => ?_⟩
    have s4 := same_new n2 (.lst us)
    have e4 : SqL K (upd H3 l2 (.lst us)) l2 us := lstOf upd_same
    have el4 := s4 _ _ e3
    have tb4 := s4 _ _ tb3
    have rw4 := Rwq.kp (Kp.same s4) rw3
    generalize upd H3 l2 (.lst us) = H4 at *
    clear s4 e3 tb3 rw3 n2 g3
    repeat walk_at "st"
    refine ⟨l2, us, ts, rfl, e4, rw4, gr, by omega, fun y hy => by rw [List.mem_singleton.mp hy]; exact LamX.TabS.nil tb4, fun out pf wf H5 ar g5 nf hf wfp => ?_⟩
    have el5 : SqL K H5 l us := g5.seq (lstOf el4)
    have e25 : SqL K H5 l2 us := g5.seq e4
    have rw5 := Rwq.kp g5.kp rw4
    have lo : out.length = ts.length := by
      have := congrArg List.length (AR.nms ar)
      simpa using this
    have lw : wf.length = us.length := by
      have h2 := Paired.length wfp
      rw [List.length_map] at h2
      omega
    have hf' : SqL K H5 pf wf := lstOf hf
    clear g5 e4 el4 rw4 tb4
    repeat walk_at "st"
    refine r_seq ?_
    repeat walk_at "st"
    refine r_isi (a := "list") (b := "list") (r := true) (.base (.lst hf)) (by decide +kernel) ?_
    repeat walk_at "st"
    refine ⟨pf, wf, rfl, .inl hf', ?_⟩
    repeat walk_at "st"
    refine ⟨l, us, rfl, .inl el5, ?_⟩
    repeat walk_at "st"
    rw [if_neg (by rw [lw]; simp)]
    repeat walk_at "st"
    refine r_neRow e25 el5 (Rwq.rwsT rw5) (gr.vr) ?_
    repeat walk_at "st"
    refine lc_rngA (n := us.length) (z := (us.length : Int)) (fun D H v i => ∃ o p, v = .ref o ∧ (ts.zip (out.map (·.2)))[i]? = some p ∧ Shq K H (.ref o) p) (fun d s h => ?mono) (by omega) (by omega) (by omega) ?ht (by omega) ?hs (fun i D4 H' hi g' hD S k => ?_) fun D4 vs H6 s6 n6 eD4 pv4 => ?_
    case hs => exact fun _ => rfl
    case mono =>
      obtain ⟨o, p, rfl, h1, a', m', u', e', h2, h3, h4⟩ := h
      cases e'
      exact ⟨o, p, rfl, h1, o, m', u', rfl, s.tup d h2, h3.kp (fun b ys hb => s.tup d hb), h4.kp (fun b ys hb => s.tup d hb)⟩
    case ht =>
      intro S k
      repeat walk_at "st"
      refine ⟨l, us, rfl, .inl el5, ?_⟩
      repeat walk_at "st"
      exact k
    · have hu : us[i]? = some us[i] := List.getElem?_eq_getElem hi
      obtain ⟨t, ht, a1, m1, eu, ta, mk⟩ := (Rwq.kp (Kp.same g') rw5).at hu
      have hw : wf[i]? = some wf[i] := List.getElem?_eq_getElem (by omega)
      obtain ⟨v1, hv1, tq⟩ := LiI.paired_get wfp hw
      have elx := g'.seq el5
      have hfx := g'.seq hf'
      have at_u : atI us (0 + (i : Int)) = some (.ref a1) := by rw [Int.zero_add, ← eu]; exact atI_nat hu
      repeat walk_at "st"
      refine r_ixL (v := .ref a1) elx at_u ?_
      repeat walk_at "st"
      refine r_ixL (v := .ref a1) elx at_u ?_
      repeat walk_at "st"
      refine r_ixL (v := wf[i]) hfx (by rw [Int.zero_add]; exact atI_nat hw) ?_
      repeat walk_at "st"
      refine ⟨sz rfl, fun o no => ?_⟩
      have s8 := same_new no (.tup [V.str t.1, .ref m1, wf[i]])
      exact k _ _ s8 ⟨o, (t, v1), rfl, List.getElem?_zip_eq_some.mpr ⟨ht, hv1⟩, o, m1, _, rfl, tupOf upd_same, mk.kp (Kp.same s8), tq.kp (Kp.same (g'.trans s8))⟩
    have lz : (ts.zip (out.map (·.2))).length = us.length := by rw [List.length_zip, List.length_map]; omega
    have pz : Paired (Shq K H6) vs (ts.zip (out.map (·.2))) := by
      have lv : vs.length = us.length := by have := Paired.length pv4; rw [List.length_range] at this; exact this
      refine paired_of_get (by omega) fun i v p hv hp => ?_
      obtain ⟨j, hj, o, p', rfl, h1, h2⟩ := LiI.paired_get pv4 hv
      have hi : i < us.length := by have := (List.getElem?_eq_some_iff.mp hv).1; omega
      rw [List.getElem?_range hi] at hj
      cases hj
      rw [h1] at hp
      cases hp
      exact h2
    repeat walk_at "st"
    refine ⟨D4, vs, ts, out, rfl, lstOf eD4, pz, gr, by omega, ar, fun H7 s7 => ?_⟩
    exact q _
  ) only [↓Mb.dischW]
end
end Mb
namespace Mb
open PySem PySem.Spec PyProof.Rows L2
def d_common_divisor : He.DefD := ⟨("common_divisor", none), "common_divisor", "common_divisor", defArgs s_common_divisor, defBody s_common_divisor, defScope s_common_divisor, [], []⟩
def d_whole_root : He.DefD := ⟨("whole_root", none), "whole_root", "whole_root", defArgs s_whole_root, defBody s_whole_root, defScope s_whole_root, [], []⟩
def d_fraction : He.DefD := ⟨("fraction", none), "fraction", "fraction", defArgs s_fraction, defBody s_fraction, defScope s_fraction, [], []⟩
def d_plus : He.DefD := ⟨("plus", none), "plus", "plus", defArgs s_plus, defBody s_plus, defScope s_plus, [], []⟩
def d_minus : He.DefD := ⟨("minus", none), "minus", "minus", defArgs s_minus, defBody s_minus, defScope s_minus, [], []⟩
def d_root : He.DefD := ⟨("root", none), "root", "root", defArgs s_root, defBody s_root, defScope s_root, [], []⟩
def d_middle : He.DefD := ⟨("middle", none), "middle", "middle", defArgs s_middle, defBody s_middle, defScope s_middle, [], []⟩
def d_share : He.DefD := ⟨("share", none), "share", "share", defArgs s_share, defBody s_share, defScope s_share, [], []⟩
def d_beyond : He.DefD := ⟨("beyond", none), "beyond", "beyond", defArgs s_beyond, defBody s_beyond, defScope s_beyond, [], []⟩
def d_turned : He.DefD := ⟨("turned", none), "turned", "turned", defArgs s_turned, defBody s_turned, defScope s_turned, [], []⟩
def d_between : He.DefD := ⟨("between", none), "between", "between", defArgs s_between, defBody s_between, defScope s_between, [], []⟩
def d_cleared : He.DefD := ⟨("cleared", none), "cleared", "cleared", defArgs s_cleared, defBody s_cleared, defScope s_cleared, [], []⟩
def d_way : He.DefD := ⟨("way", none), "way", "way", defArgs s_way, defBody s_way, defScope s_way, [], []⟩
def d_through : He.DefD := ⟨("through", none), "through", "through", defArgs s_through, defBody s_through, defScope s_through, [], []⟩
def d_along : He.DefD := ⟨("along", none), "along", "along", defArgs s_along, defBody s_along, defScope s_along, [], []⟩
def d_upright : He.DefD := ⟨("upright", none), "upright", "upright", defArgs s_upright, defBody s_upright, defScope s_upright, [], []⟩
def d_meet : He.DefD := ⟨("meet", none), "meet", "meet", defArgs s_meet, defBody s_meet, defScope s_meet, [], []⟩
def d_foot : He.DefD := ⟨("foot", none), "foot", "foot", defArgs s_foot, defBody s_foot, defScope s_foot, [], []⟩
def d_mirror : He.DefD := ⟨("mirror", none), "mirror", "mirror", defArgs s_mirror, defBody s_mirror, defScope s_mirror, [], []⟩
def d_line_at : He.DefD := ⟨("line_at", none), "line_at", "line_at", defArgs s_line_at, defBody s_line_at, defScope s_line_at, [], []⟩
def d_one_form : He.DefD := ⟨("one_form", none), "one_form", "one_form", defArgs s_one_form, defBody s_one_form, defScope s_one_form, [], []⟩
def d_about : He.DefD := ⟨("about", none), "about", "about", defArgs s_about, defBody s_about, defScope s_about, [], []⟩
def d_line_cuts : He.DefD := ⟨("line_cuts", none), "line_cuts", "line_cuts", defArgs s_line_cuts, defBody s_line_cuts, defScope s_line_cuts, [], []⟩
def d_ring_cuts : He.DefD := ⟨("ring_cuts", none), "ring_cuts", "ring_cuts", defArgs s_ring_cuts, defBody s_ring_cuts, defScope s_ring_cuts, [], []⟩
def d_reached : He.DefD := ⟨("reached", none), "reached", "reached", defArgs s_reached, defBody s_reached, defScope s_reached, [], []⟩
def d_common_line : He.DefD := ⟨("common_line", none), "common_line", "common_line", defArgs s_common_line, defBody s_common_line, defScope s_common_line, [], []⟩
def d_equation : He.DefD := ⟨("equation", none), "equation", "equation", defArgs s_equation, defBody s_equation, defScope s_equation, [], []⟩
def d_in_line : He.DefD := ⟨("in_line", none), "in_line", "in_line", defArgs s_in_line, defBody s_in_line, defScope s_in_line, [], []⟩
def d_side_by_side : He.DefD := ⟨("side_by_side", none), "side_by_side", "side_by_side", defArgs s_side_by_side, defBody s_side_by_side, defScope s_side_by_side, [], []⟩
def d_square_on : He.DefD := ⟨("square_on", none), "square_on", "square_on", defArgs s_square_on, defBody s_square_on, defScope s_square_on, [], []⟩
def d_all_round : He.DefD := ⟨("all_round", none), "all_round", "all_round", defArgs s_all_round, defBody s_all_round, defScope s_all_round, [], []⟩
def d_as_far : He.DefD := ⟨("as_far", none), "as_far", "as_far", defArgs s_as_far, defBody s_as_far, defScope s_as_far, [], []⟩
def d_lifted : He.DefD := ⟨("lifted", none), "lifted", "lifted", defArgs s_lifted, defBody s_lifted, defScope s_lifted, [], []⟩
def d_sort_of : He.DefD := ⟨("sort_of", none), "sort_of", "sort_of", defArgs s_sort_of, defBody s_sort_of, defScope s_sort_of, [], []⟩
def d_wanted : He.DefD := ⟨("wanted", none), "wanted", "wanted", defArgs s_wanted, defBody s_wanted, defScope s_wanted, [], []⟩
def d_grounds : He.DefD := ⟨("grounds", none), "grounds", "grounds", defArgs s_grounds, defBody s_grounds, defScope s_grounds, [], []⟩
def d_fits : He.DefD := ⟨("fits", none), "fits", "fits", defArgs s_fits, defBody s_fits, defScope s_fits, [], []⟩
def d_near : He.DefD := ⟨("near", none), "near", "near", defArgs s_near, defBody s_near, defScope s_near, [], []⟩
def d_below : He.DefD := ⟨("below", none), "below", "below", defArgs s_below, defBody s_below, defScope s_below, [], []⟩
def d_good : He.DefD := ⟨("good", none), "good", "good", defArgs s_good, defBody s_good, defScope s_good, [], []⟩
def d_weight : He.DefD := ⟨("weight", none), "weight", "weight", defArgs s_weight, defBody s_weight, defScope s_weight, [], []⟩
def d_enter : He.DefD := ⟨("enter", none), "enter", "enter", defArgs s_enter, defBody s_enter, defScope s_enter, [], []⟩
def d_check_row : He.DefD := ⟨("check_row", none), "check_row", "check_row", defArgs s_check_row, defBody s_check_row, defScope s_check_row, [], []⟩
def d_check_next : He.DefD := ⟨("check_next", none), "check_next", "check_next", defArgs s_check_next, defBody s_check_next, defScope s_check_next, [], []⟩
def d_check_grounds : He.DefD := ⟨("check_grounds", none), "check_grounds", "check_grounds", defArgs s_check_grounds, defBody s_check_grounds, defScope s_check_grounds, [], []⟩
def d_anew : He.DefD := ⟨("anew", none), "anew", "anew", defArgs s_anew, defBody s_anew, defScope s_anew, [], []⟩
def d_telling : He.DefD := ⟨("telling", none), "telling", "telling", defArgs s_telling, defBody s_telling, defScope s_telling, [], []⟩
def d_cut : He.DefD := ⟨("cut", none), "cut", "cut", defArgs s_cut, defBody s_cut, defScope s_cut, [], []⟩
def d_figure : He.DefD := ⟨("figure", none), "figure", "figure", defArgs s_figure, defBody s_figure, defScope s_figure, [], []⟩
def d_holds : He.DefD := ⟨("holds", none), "holds", "holds", defArgs s_holds, defBody s_holds, defScope s_holds, [], []⟩
def d_pool : He.DefD := ⟨("_law_pool", none), "_law_pool", "_law_pool", defArgs s_pool, defBody s_pool, defScope s_pool, [], []⟩
def d_take : He.DefD := ⟨("_law_take", none), "_law_take", "_law_take", defArgs s_take, defBody s_take, defScope s_take, [], []⟩
def d_gcd : He.DefD := ⟨("_law_gcd", none), "_law_gcd", "_law_gcd", defArgs s_gcd, defBody s_gcd, defScope s_gcd, [], []⟩
def d_low : He.DefD := ⟨("_law_low", none), "_law_low", "_law_low", defArgs s_low, defBody s_low, defScope s_low, [], []⟩
def d_l_plus : He.DefD := ⟨("_law_plus", none), "_law_plus", "_law_plus", defArgs s_l_plus, defBody s_l_plus, defScope s_l_plus, [], []⟩
def d_l_less : He.DefD := ⟨("_law_less", none), "_law_less", "_law_less", defArgs s_l_less, defBody s_l_less, defScope s_l_less, [], []⟩
def d_l_times : He.DefD := ⟨("_law_times", none), "_law_times", "_law_times", defArgs s_l_times, defBody s_l_times, defScope s_l_times, [], []⟩
def d_even : He.DefD := ⟨("_law_even", none), "_law_even", "_law_even", defArgs s_even, defBody s_even, defScope s_even, [], []⟩
def d_whole : He.DefD := ⟨("_law_whole", none), "_law_whole", "_law_whole", defArgs s_whole, defBody s_whole, defScope s_whole, [], []⟩
def d_is_frac : He.DefD := ⟨("_law_is_frac", none), "_law_is_frac", "_law_is_frac", defArgs s_is_frac, defBody s_is_frac, defScope s_is_frac, [], []⟩
def d_is_place : He.DefD := ⟨("_law_is_place", none), "_law_is_place", "_law_is_place", defArgs s_is_place, defBody s_is_place, defScope s_is_place, [], []⟩
def d_is_line : He.DefD := ⟨("_law_is_line", none), "_law_is_line", "_law_is_line", defArgs s_is_line, defBody s_is_line, defScope s_is_line, [], []⟩
def d_frac : He.DefD := ⟨("_law_frac", none), "_law_frac", "_law_frac", defArgs s_frac, defBody s_frac, defScope s_frac, [], []⟩
def d_place : He.DefD := ⟨("_law_place", none), "_law_place", "_law_place", defArgs s_place, defBody s_place, defScope s_place, [], []⟩
def d_l_grounds : He.DefD := ⟨("_law_grounds", none), "_law_grounds", "_law_grounds", defArgs s_l_grounds, defBody s_l_grounds, defScope s_l_grounds, [], []⟩
def d_sort : He.DefD := ⟨("_law_sort", none), "_law_sort", "_law_sort", defArgs s_sort, defBody s_sort, defScope s_sort, [], []⟩
def d_l_weight : He.DefD := ⟨("_law_weight", none), "_law_weight", "_law_weight", defArgs s_l_weight, defBody s_l_weight, defScope s_l_weight, [], []⟩
def d_making : He.DefD := ⟨("_law_making", none), "_law_making", "_law_making", defArgs s_making, defBody s_making, defScope s_making, [], []⟩
def d_l_near : He.DefD := ⟨("_law_near", none), "_law_near", "_law_near", defArgs s_l_near, defBody s_l_near, defScope s_l_near, [], []⟩
def d_off : He.DefD := ⟨("_law_off", none), "_law_off", "_law_off", defArgs s_off, defBody s_off, defScope s_off, [], []⟩
def d_det : He.DefD := ⟨("_law_det", none), "_law_det", "_law_det", defArgs s_det, defBody s_det, defScope s_det, [], []⟩
def d_so : He.DefD := ⟨("_law_so", none), "_law_so", "_law_so", defArgs s_so, defBody s_so, defScope s_so, [], []⟩
def d_l_root : He.DefD := ⟨("_law_root", none), "_law_root", "_law_root", defArgs s_l_root, defBody s_l_root, defScope s_l_root, [], []⟩
def d_chord : He.DefD := ⟨("_law_chord", none), "_law_chord", "_law_chord", defArgs s_chord, defBody s_chord, defScope s_chord, [], []⟩
def d_parts : He.DefD := ⟨("_law_parts", none), "_law_parts", "_law_parts", defArgs s_parts, defBody s_parts, defScope s_parts, [], []⟩
def d_fail : He.DefD := ⟨("_law_fail", none), "_law_fail", "_law_fail", defArgs s_fail, defBody s_fail, defScope s_fail, [], []⟩
def d_first : He.DefD := ⟨("_law_first", none), "_law_first", "_law_first", defArgs s_first, defBody s_first, defScope s_first, [], []⟩
def d_on_way : He.DefD := ⟨("_law_on_way", none), "_law_on_way", "_law_on_way", defArgs s_on_way, defBody s_on_way, defScope s_on_way, [], []⟩
def d_point : He.DefD := ⟨("_law_point", none), "_law_point", "_law_point", defArgs s_point, defBody s_point, defScope s_point, [], []⟩
def d_line_fits : He.DefD := ⟨("_law_line_fits", none), "_law_line_fits", "_law_line_fits", defArgs s_line_fits, defBody s_line_fits, defScope s_line_fits, [], []⟩
def d_l_fits : He.DefD := ⟨("_law_fits", none), "_law_fits", "_law_fits", defArgs s_l_fits, defBody s_l_fits, defScope s_l_fits, [], []⟩
def d_l_holds : He.DefD := ⟨("_law_holds", none), "_law_holds", "_law_holds", defArgs s_l_holds, defBody s_l_holds, defScope s_l_holds, [], []⟩
def d_plain_place : He.DefD := ⟨("_law_plain_place", none), "_law_plain_place", "_law_plain_place", defArgs s_plain_place, defBody s_plain_place, defScope s_plain_place, [], []⟩
def d_plain_row : He.DefD := ⟨("_law_plain_row", none), "_law_plain_row", "_law_plain_row", defArgs s_plain_row, defBody s_plain_row, defScope s_plain_row, [], []⟩
def d_law : He.DefD := ⟨("law", none), "law", "law", defArgs s_law, defBody s_law, defScope s_law, [], []⟩
def fn : List He.DefD := [d_common_divisor, d_whole_root, d_fraction, d_plus, d_minus, d_root, d_middle, d_share, d_beyond, d_turned, d_between, d_cleared, d_way, d_through, d_along, d_upright, d_meet, d_foot, d_mirror, d_line_at, d_one_form, d_about, d_line_cuts, d_ring_cuts, d_reached, d_common_line, d_equation, d_in_line, d_side_by_side, d_square_on, d_all_round, d_as_far, d_lifted, d_sort_of, d_wanted, d_grounds, d_fits, d_near, d_below, d_good, d_weight, d_enter, d_check_row, d_check_next, d_check_grounds, d_anew, d_telling, d_cut, d_figure, d_holds, d_pool, d_take, d_gcd, d_low, d_l_plus, d_l_less, d_l_times, d_even, d_whole, d_is_frac, d_is_place, d_is_line, d_frac, d_place, d_l_grounds, d_sort, d_l_weight, d_making, d_l_near, d_off, d_det, d_so, d_l_root, d_chord, d_parts, d_fail, d_first, d_on_way, d_point, d_line_fits, d_l_fits, d_l_holds, d_plain_place, d_plain_row, d_law]
def fa : List He.Fa := [.glo "common_divisor", .glo "whole_root", .glo "fraction", .glo "plus", .glo "minus", .glo "root", .glo "middle", .glo "share", .glo "beyond", .glo "turned", .glo "between", .glo "cleared", .glo "way", .glo "through", .glo "along", .glo "upright", .glo "meet", .glo "foot", .glo "mirror", .glo "line_at", .glo "one_form", .glo "about", .glo "line_cuts", .glo "ring_cuts", .glo "reached", .glo "common_line", .glo "equation", .glo "in_line", .glo "side_by_side", .glo "square_on", .glo "all_round", .glo "as_far", .glo "lifted", .glo "sort_of", .glo "wanted", .glo "grounds", .glo "fits", .glo "near", .glo "below", .glo "good", .glo "weight", .glo "enter", .glo "check_row", .glo "check_next", .glo "check_grounds", .glo "anew", .glo "telling", .glo "cut", .glo "figure", .glo "holds", .glo "_law_pool", .glo "_law_take", .glo "_law_gcd", .glo "_law_low", .glo "_law_plus", .glo "_law_less", .glo "_law_times", .glo "_law_even", .glo "_law_whole", .glo "_law_is_frac", .glo "_law_is_place", .glo "_law_is_line", .glo "_law_frac", .glo "_law_place", .glo "_law_grounds", .glo "_law_sort", .glo "_law_weight", .glo "_law_making", .glo "_law_near", .glo "_law_off", .glo "_law_det", .glo "_law_so", .glo "_law_root", .glo "_law_chord", .glo "_law_parts", .glo "_law_fail", .glo "_law_first", .glo "_law_on_way", .glo "_law_point", .glo "_law_line_fits", .glo "_law_fits", .glo "_law_holds", .glo "_law_plain_place", .glo "_law_plain_row", .glo "law", .free "abs", .free "bool", .free "int", .free "isinstance", .free "len", .free "list", .free "min", .free "range", .free "str", .free "sum", .free "tuple", .free "zip", .int "FREE_BOUND" 1000000000, .int "SHARE_BOUND" 1000, .str "LETTERS" k_LETTERS, .str "FIGURES" k_FIGURES, .int "LONGEST" 12, .int "HEAVIEST" 40, .glo "WORDS", .glo "STANDING", .glo "FAILING"]
abbrev R : PySem.W.OpenRow := PySem.W.OpenLaw.row PySem.Challenge.rw_movebook_k31_whole_tellings
def xb (K : PySem.W.Frag) : Bool := wtB K (He.ga K "WORDS") && (txB K (He.ga K "STANDING") standL && (txB K (He.ga K "FAILING") failL))
def tf : List He.Defn := [("telling", none)]
abbrev hk : PySem.W.Hook := hookWN 4 fa fn tellTs tf xb
def names : List PySem.Str := [("BookError" : PySem.Str), ("BadName" : PySem.Str), ("Taken" : PySem.Str), ("NoThing" : PySem.Str), ("WrongSort" : PySem.Str), ("Far" : PySem.Str), ("TooHeavy" : PySem.Str), ("NoNumber" : PySem.Str), ("common_divisor" : PySem.Str), ("whole_root" : PySem.Str), ("fraction" : PySem.Str), ("plus" : PySem.Str), ("minus" : PySem.Str), ("root" : PySem.Str), ("middle" : PySem.Str), ("share" : PySem.Str), ("beyond" : PySem.Str), ("turned" : PySem.Str), ("between" : PySem.Str), ("cleared" : PySem.Str), ("way" : PySem.Str), ("through" : PySem.Str), ("along" : PySem.Str), ("upright" : PySem.Str), ("meet" : PySem.Str), ("foot" : PySem.Str), ("mirror" : PySem.Str), ("line_at" : PySem.Str), ("one_form" : PySem.Str), ("about" : PySem.Str), ("line_cuts" : PySem.Str), ("ring_cuts" : PySem.Str), ("reached" : PySem.Str), ("common_line" : PySem.Str), ("equation" : PySem.Str), ("in_line" : PySem.Str), ("side_by_side" : PySem.Str), ("square_on" : PySem.Str), ("all_round" : PySem.Str), ("as_far" : PySem.Str), ("lifted" : PySem.Str), ("WORDS" : PySem.Str), ("FREE_BOUND" : PySem.Str), ("SHARE_BOUND" : PySem.Str), ("sort_of" : PySem.Str), ("wanted" : PySem.Str), ("grounds" : PySem.Str), ("fits" : PySem.Str), ("near" : PySem.Str), ("below" : PySem.Str), ("LETTERS" : PySem.Str), ("FIGURES" : PySem.Str), ("LONGEST" : PySem.Str), ("good" : PySem.Str), ("HEAVIEST" : PySem.Str), ("weight" : PySem.Str), ("enter" : PySem.Str), ("check_row" : PySem.Str), ("check_next" : PySem.Str), ("check_grounds" : PySem.Str), ("STANDING" : PySem.Str), ("FAILING" : PySem.Str), ("anew" : PySem.Str), ("telling" : PySem.Str), ("cut" : PySem.Str), ("figure" : PySem.Str), ("holds" : PySem.Str), ("_law_pool" : PySem.Str), ("_law_take" : PySem.Str), ("_law_gcd" : PySem.Str), ("_law_low" : PySem.Str), ("_law_plus" : PySem.Str), ("_law_less" : PySem.Str), ("_law_times" : PySem.Str), ("_law_even" : PySem.Str), ("_law_whole" : PySem.Str), ("_law_is_frac" : PySem.Str), ("_law_is_place" : PySem.Str), ("_law_is_line" : PySem.Str), ("_law_frac" : PySem.Str), ("_law_place" : PySem.Str), ("_law_grounds" : PySem.Str), ("_law_sort" : PySem.Str), ("_law_weight" : PySem.Str), ("_law_making" : PySem.Str), ("_law_near" : PySem.Str), ("_law_off" : PySem.Str), ("_law_det" : PySem.Str), ("_law_so" : PySem.Str), ("_law_root" : PySem.Str), ("_law_chord" : PySem.Str), ("_law_parts" : PySem.Str), ("_law_fail" : PySem.Str), ("_law_first" : PySem.Str), ("_law_on_way" : PySem.Str), ("_law_point" : PySem.Str), ("_law_line_fits" : PySem.Str), ("_law_fits" : PySem.Str), ("_law_holds" : PySem.Str), ("_law_plain_place" : PySem.Str), ("_law_plain_row" : PySem.Str)]
theorem facts {P : Program} {w : World} {K : PySem.W.Frag} {h : Heap} {mg : Str → Option Value} {f : Addr} (X : K.In h) (G : h.Ns mainGlobals mg) (hfa : mg ("law" : Str) = some (.ref f)) (c : He.SaysD fa fn K) (cx : xb K = true) (ct : He.SaysT fa fn tellTs w K) :
    ∃ fd : FuncData, (∀ (s : Shared) (v : Value), BindsTo s fd ⟨[v], []⟩ [("_law_script", v)]) ∧ ∀ base : Heap, K.In base → base.Ns mainGlobals mg → LamX.TabB base mg (He.cT K ("telling", none)).1 (He.cT K ("telling", none)).2 → FnOk P w K mg base CX0 11 f fd ["_law_script"] (spLawT K (He.cT K ("telling", none)).2) := by
  have F_common_divisor : Fn K mg "common_divisor" s_common_divisor := by
    obtain ⟨fd, F⟩ := c.def_ 0 (d := d_common_divisor) rfl
    exact ⟨_, fd, F, He.glo_ok X G (c.fact 0 (f := .glo "common_divisor") rfl)⟩
  have F_whole_root : Fn K mg "whole_root" s_whole_root := by
    obtain ⟨fd, F⟩ := c.def_ 1 (d := d_whole_root) rfl
    exact ⟨_, fd, F, He.glo_ok X G (c.fact 1 (f := .glo "whole_root") rfl)⟩
  have F_fraction : Fn K mg "fraction" s_fraction := by
    obtain ⟨fd, F⟩ := c.def_ 2 (d := d_fraction) rfl
    exact ⟨_, fd, F, He.glo_ok X G (c.fact 2 (f := .glo "fraction") rfl)⟩
  have F_plus : Fn K mg "plus" s_plus := by
    obtain ⟨fd, F⟩ := c.def_ 3 (d := d_plus) rfl
    exact ⟨_, fd, F, He.glo_ok X G (c.fact 3 (f := .glo "plus") rfl)⟩
  have F_minus : Fn K mg "minus" s_minus := by
    obtain ⟨fd, F⟩ := c.def_ 4 (d := d_minus) rfl
    exact ⟨_, fd, F, He.glo_ok X G (c.fact 4 (f := .glo "minus") rfl)⟩
  have F_root : Fn K mg "root" s_root := by
    obtain ⟨fd, F⟩ := c.def_ 5 (d := d_root) rfl
    exact ⟨_, fd, F, He.glo_ok X G (c.fact 5 (f := .glo "root") rfl)⟩
  have F_middle : Fn K mg "middle" s_middle := by
    obtain ⟨fd, F⟩ := c.def_ 6 (d := d_middle) rfl
    exact ⟨_, fd, F, He.glo_ok X G (c.fact 6 (f := .glo "middle") rfl)⟩
  have F_share : Fn K mg "share" s_share := by
    obtain ⟨fd, F⟩ := c.def_ 7 (d := d_share) rfl
    exact ⟨_, fd, F, He.glo_ok X G (c.fact 7 (f := .glo "share") rfl)⟩
  have F_beyond : Fn K mg "beyond" s_beyond := by
    obtain ⟨fd, F⟩ := c.def_ 8 (d := d_beyond) rfl
    exact ⟨_, fd, F, He.glo_ok X G (c.fact 8 (f := .glo "beyond") rfl)⟩
  have F_turned : Fn K mg "turned" s_turned := by
    obtain ⟨fd, F⟩ := c.def_ 9 (d := d_turned) rfl
    exact ⟨_, fd, F, He.glo_ok X G (c.fact 9 (f := .glo "turned") rfl)⟩
  have F_between : Fn K mg "between" s_between := by
    obtain ⟨fd, F⟩ := c.def_ 10 (d := d_between) rfl
    exact ⟨_, fd, F, He.glo_ok X G (c.fact 10 (f := .glo "between") rfl)⟩
  have F_cleared : Fn K mg "cleared" s_cleared := by
    obtain ⟨fd, F⟩ := c.def_ 11 (d := d_cleared) rfl
    exact ⟨_, fd, F, He.glo_ok X G (c.fact 11 (f := .glo "cleared") rfl)⟩
  have F_way : Fn K mg "way" s_way := by
    obtain ⟨fd, F⟩ := c.def_ 12 (d := d_way) rfl
    exact ⟨_, fd, F, He.glo_ok X G (c.fact 12 (f := .glo "way") rfl)⟩
  have F_through : Fn K mg "through" s_through := by
    obtain ⟨fd, F⟩ := c.def_ 13 (d := d_through) rfl
    exact ⟨_, fd, F, He.glo_ok X G (c.fact 13 (f := .glo "through") rfl)⟩
  have F_along : Fn K mg "along" s_along := by
    obtain ⟨fd, F⟩ := c.def_ 14 (d := d_along) rfl
    exact ⟨_, fd, F, He.glo_ok X G (c.fact 14 (f := .glo "along") rfl)⟩
  have F_upright : Fn K mg "upright" s_upright := by
    obtain ⟨fd, F⟩ := c.def_ 15 (d := d_upright) rfl
    exact ⟨_, fd, F, He.glo_ok X G (c.fact 15 (f := .glo "upright") rfl)⟩
  have F_meet : Fn K mg "meet" s_meet := by
    obtain ⟨fd, F⟩ := c.def_ 16 (d := d_meet) rfl
    exact ⟨_, fd, F, He.glo_ok X G (c.fact 16 (f := .glo "meet") rfl)⟩
  have F_foot : Fn K mg "foot" s_foot := by
    obtain ⟨fd, F⟩ := c.def_ 17 (d := d_foot) rfl
    exact ⟨_, fd, F, He.glo_ok X G (c.fact 17 (f := .glo "foot") rfl)⟩
  have F_mirror : Fn K mg "mirror" s_mirror := by
    obtain ⟨fd, F⟩ := c.def_ 18 (d := d_mirror) rfl
    exact ⟨_, fd, F, He.glo_ok X G (c.fact 18 (f := .glo "mirror") rfl)⟩
  have F_line_at : Fn K mg "line_at" s_line_at := by
    obtain ⟨fd, F⟩ := c.def_ 19 (d := d_line_at) rfl
    exact ⟨_, fd, F, He.glo_ok X G (c.fact 19 (f := .glo "line_at") rfl)⟩
  have F_one_form : Fn K mg "one_form" s_one_form := by
    obtain ⟨fd, F⟩ := c.def_ 20 (d := d_one_form) rfl
    exact ⟨_, fd, F, He.glo_ok X G (c.fact 20 (f := .glo "one_form") rfl)⟩
  have F_about : Fn K mg "about" s_about := by
    obtain ⟨fd, F⟩ := c.def_ 21 (d := d_about) rfl
    exact ⟨_, fd, F, He.glo_ok X G (c.fact 21 (f := .glo "about") rfl)⟩
  have F_line_cuts : Fn K mg "line_cuts" s_line_cuts := by
    obtain ⟨fd, F⟩ := c.def_ 22 (d := d_line_cuts) rfl
    exact ⟨_, fd, F, He.glo_ok X G (c.fact 22 (f := .glo "line_cuts") rfl)⟩
  have F_ring_cuts : Fn K mg "ring_cuts" s_ring_cuts := by
    obtain ⟨fd, F⟩ := c.def_ 23 (d := d_ring_cuts) rfl
    exact ⟨_, fd, F, He.glo_ok X G (c.fact 23 (f := .glo "ring_cuts") rfl)⟩
  have F_reached : Fn K mg "reached" s_reached := by
    obtain ⟨fd, F⟩ := c.def_ 24 (d := d_reached) rfl
    exact ⟨_, fd, F, He.glo_ok X G (c.fact 24 (f := .glo "reached") rfl)⟩
  have F_common_line : Fn K mg "common_line" s_common_line := by
    obtain ⟨fd, F⟩ := c.def_ 25 (d := d_common_line) rfl
    exact ⟨_, fd, F, He.glo_ok X G (c.fact 25 (f := .glo "common_line") rfl)⟩
  have F_equation : Fn K mg "equation" s_equation := by
    obtain ⟨fd, F⟩ := c.def_ 26 (d := d_equation) rfl
    exact ⟨_, fd, F, He.glo_ok X G (c.fact 26 (f := .glo "equation") rfl)⟩
  have F_in_line : Fn K mg "in_line" s_in_line := by
    obtain ⟨fd, F⟩ := c.def_ 27 (d := d_in_line) rfl
    exact ⟨_, fd, F, He.glo_ok X G (c.fact 27 (f := .glo "in_line") rfl)⟩
  have F_side_by_side : Fn K mg "side_by_side" s_side_by_side := by
    obtain ⟨fd, F⟩ := c.def_ 28 (d := d_side_by_side) rfl
    exact ⟨_, fd, F, He.glo_ok X G (c.fact 28 (f := .glo "side_by_side") rfl)⟩
  have F_square_on : Fn K mg "square_on" s_square_on := by
    obtain ⟨fd, F⟩ := c.def_ 29 (d := d_square_on) rfl
    exact ⟨_, fd, F, He.glo_ok X G (c.fact 29 (f := .glo "square_on") rfl)⟩
  have F_all_round : Fn K mg "all_round" s_all_round := by
    obtain ⟨fd, F⟩ := c.def_ 30 (d := d_all_round) rfl
    exact ⟨_, fd, F, He.glo_ok X G (c.fact 30 (f := .glo "all_round") rfl)⟩
  have F_as_far : Fn K mg "as_far" s_as_far := by
    obtain ⟨fd, F⟩ := c.def_ 31 (d := d_as_far) rfl
    exact ⟨_, fd, F, He.glo_ok X G (c.fact 31 (f := .glo "as_far") rfl)⟩
  have F_lifted : Fn K mg "lifted" s_lifted := by
    obtain ⟨fd, F⟩ := c.def_ 32 (d := d_lifted) rfl
    exact ⟨_, fd, F, He.glo_ok X G (c.fact 32 (f := .glo "lifted") rfl)⟩
  have F_sort_of : Fn K mg "sort_of" s_sort_of := by
    obtain ⟨fd, F⟩ := c.def_ 33 (d := d_sort_of) rfl
    exact ⟨_, fd, F, He.glo_ok X G (c.fact 33 (f := .glo "sort_of") rfl)⟩
  have F_wanted : Fn K mg "wanted" s_wanted := by
    obtain ⟨fd, F⟩ := c.def_ 34 (d := d_wanted) rfl
    exact ⟨_, fd, F, He.glo_ok X G (c.fact 34 (f := .glo "wanted") rfl)⟩
  have F_grounds : Fn K mg "grounds" s_grounds := by
    obtain ⟨fd, F⟩ := c.def_ 35 (d := d_grounds) rfl
    exact ⟨_, fd, F, He.glo_ok X G (c.fact 35 (f := .glo "grounds") rfl)⟩
  have F_fits : Fn K mg "fits" s_fits := by
    obtain ⟨fd, F⟩ := c.def_ 36 (d := d_fits) rfl
    exact ⟨_, fd, F, He.glo_ok X G (c.fact 36 (f := .glo "fits") rfl)⟩
  have F_near : Fn K mg "near" s_near := by
    obtain ⟨fd, F⟩ := c.def_ 37 (d := d_near) rfl
    exact ⟨_, fd, F, He.glo_ok X G (c.fact 37 (f := .glo "near") rfl)⟩
  have F_below : Fn K mg "below" s_below := by
    obtain ⟨fd, F⟩ := c.def_ 38 (d := d_below) rfl
    exact ⟨_, fd, F, He.glo_ok X G (c.fact 38 (f := .glo "below") rfl)⟩
  have F_good : Fn K mg "good" s_good := by
    obtain ⟨fd, F⟩ := c.def_ 39 (d := d_good) rfl
    exact ⟨_, fd, F, He.glo_ok X G (c.fact 39 (f := .glo "good") rfl)⟩
  have F_weight : Fn K mg "weight" s_weight := by
    obtain ⟨fd, F⟩ := c.def_ 40 (d := d_weight) rfl
    exact ⟨_, fd, F, He.glo_ok X G (c.fact 40 (f := .glo "weight") rfl)⟩
  have F_enter : Fn K mg "enter" s_enter := by
    obtain ⟨fd, F⟩ := c.def_ 41 (d := d_enter) rfl
    exact ⟨_, fd, F, He.glo_ok X G (c.fact 41 (f := .glo "enter") rfl)⟩
  have F_check_row : Fn K mg "check_row" s_check_row := by
    obtain ⟨fd, F⟩ := c.def_ 42 (d := d_check_row) rfl
    exact ⟨_, fd, F, He.glo_ok X G (c.fact 42 (f := .glo "check_row") rfl)⟩
  have F_check_next : Fn K mg "check_next" s_check_next := by
    obtain ⟨fd, F⟩ := c.def_ 43 (d := d_check_next) rfl
    exact ⟨_, fd, F, He.glo_ok X G (c.fact 43 (f := .glo "check_next") rfl)⟩
  have F_check_grounds : Fn K mg "check_grounds" s_check_grounds := by
    obtain ⟨fd, F⟩ := c.def_ 44 (d := d_check_grounds) rfl
    exact ⟨_, fd, F, He.glo_ok X G (c.fact 44 (f := .glo "check_grounds") rfl)⟩
  have F_anew : Fn K mg "anew" s_anew := by
    obtain ⟨fd, F⟩ := c.def_ 45 (d := d_anew) rfl
    exact ⟨_, fd, F, He.glo_ok X G (c.fact 45 (f := .glo "anew") rfl)⟩
  have F_telling : FnC K mg "telling" s_telling (He.cT K ("telling", none)).1 := by
    obtain ⟨fd, F⟩ := c.def_ 46 (d := d_telling) rfl
    exact fnC_of F (He.glo_ok X G (c.fact 46 (f := .glo "telling") rfl))
  have F_cut : Fn K mg "cut" s_cut := by
    obtain ⟨fd, F⟩ := c.def_ 47 (d := d_cut) rfl
    exact ⟨_, fd, F, He.glo_ok X G (c.fact 47 (f := .glo "cut") rfl)⟩
  have F_figure : Fn K mg "figure" s_figure := by
    obtain ⟨fd, F⟩ := c.def_ 48 (d := d_figure) rfl
    exact ⟨_, fd, F, He.glo_ok X G (c.fact 48 (f := .glo "figure") rfl)⟩
  have F_holds : Fn K mg "holds" s_holds := by
    obtain ⟨fd, F⟩ := c.def_ 49 (d := d_holds) rfl
    exact ⟨_, fd, F, He.glo_ok X G (c.fact 49 (f := .glo "holds") rfl)⟩
  have F_pool : Fn K mg "_law_pool" s_pool := by
    obtain ⟨fd, F⟩ := c.def_ 50 (d := d_pool) rfl
    exact ⟨_, fd, F, He.glo_ok X G (c.fact 50 (f := .glo "_law_pool") rfl)⟩
  have F_take : Fn K mg "_law_take" s_take := by
    obtain ⟨fd, F⟩ := c.def_ 51 (d := d_take) rfl
    exact ⟨_, fd, F, He.glo_ok X G (c.fact 51 (f := .glo "_law_take") rfl)⟩
  have F_gcd : Fn K mg "_law_gcd" s_gcd := by
    obtain ⟨fd, F⟩ := c.def_ 52 (d := d_gcd) rfl
    exact ⟨_, fd, F, He.glo_ok X G (c.fact 52 (f := .glo "_law_gcd") rfl)⟩
  have F_low : Fn K mg "_law_low" s_low := by
    obtain ⟨fd, F⟩ := c.def_ 53 (d := d_low) rfl
    exact ⟨_, fd, F, He.glo_ok X G (c.fact 53 (f := .glo "_law_low") rfl)⟩
  have F_l_plus : Fn K mg "_law_plus" s_l_plus := by
    obtain ⟨fd, F⟩ := c.def_ 54 (d := d_l_plus) rfl
    exact ⟨_, fd, F, He.glo_ok X G (c.fact 54 (f := .glo "_law_plus") rfl)⟩
  have F_l_less : Fn K mg "_law_less" s_l_less := by
    obtain ⟨fd, F⟩ := c.def_ 55 (d := d_l_less) rfl
    exact ⟨_, fd, F, He.glo_ok X G (c.fact 55 (f := .glo "_law_less") rfl)⟩
  have F_l_times : Fn K mg "_law_times" s_l_times := by
    obtain ⟨fd, F⟩ := c.def_ 56 (d := d_l_times) rfl
    exact ⟨_, fd, F, He.glo_ok X G (c.fact 56 (f := .glo "_law_times") rfl)⟩
  have F_even : Fn K mg "_law_even" s_even := by
    obtain ⟨fd, F⟩ := c.def_ 57 (d := d_even) rfl
    exact ⟨_, fd, F, He.glo_ok X G (c.fact 57 (f := .glo "_law_even") rfl)⟩
  have F_whole : Fn K mg "_law_whole" s_whole := by
    obtain ⟨fd, F⟩ := c.def_ 58 (d := d_whole) rfl
    exact ⟨_, fd, F, He.glo_ok X G (c.fact 58 (f := .glo "_law_whole") rfl)⟩
  have F_is_frac : Fn K mg "_law_is_frac" s_is_frac := by
    obtain ⟨fd, F⟩ := c.def_ 59 (d := d_is_frac) rfl
    exact ⟨_, fd, F, He.glo_ok X G (c.fact 59 (f := .glo "_law_is_frac") rfl)⟩
  have F_is_place : Fn K mg "_law_is_place" s_is_place := by
    obtain ⟨fd, F⟩ := c.def_ 60 (d := d_is_place) rfl
    exact ⟨_, fd, F, He.glo_ok X G (c.fact 60 (f := .glo "_law_is_place") rfl)⟩
  have F_is_line : Fn K mg "_law_is_line" s_is_line := by
    obtain ⟨fd, F⟩ := c.def_ 61 (d := d_is_line) rfl
    exact ⟨_, fd, F, He.glo_ok X G (c.fact 61 (f := .glo "_law_is_line") rfl)⟩
  have F_frac : Fn K mg "_law_frac" s_frac := by
    obtain ⟨fd, F⟩ := c.def_ 62 (d := d_frac) rfl
    exact ⟨_, fd, F, He.glo_ok X G (c.fact 62 (f := .glo "_law_frac") rfl)⟩
  have F_place : Fn K mg "_law_place" s_place := by
    obtain ⟨fd, F⟩ := c.def_ 63 (d := d_place) rfl
    exact ⟨_, fd, F, He.glo_ok X G (c.fact 63 (f := .glo "_law_place") rfl)⟩
  have F_l_grounds : Fn K mg "_law_grounds" s_l_grounds := by
    obtain ⟨fd, F⟩ := c.def_ 64 (d := d_l_grounds) rfl
    exact ⟨_, fd, F, He.glo_ok X G (c.fact 64 (f := .glo "_law_grounds") rfl)⟩
  have F_sort : Fn K mg "_law_sort" s_sort := by
    obtain ⟨fd, F⟩ := c.def_ 65 (d := d_sort) rfl
    exact ⟨_, fd, F, He.glo_ok X G (c.fact 65 (f := .glo "_law_sort") rfl)⟩
  have F_l_weight : Fn K mg "_law_weight" s_l_weight := by
    obtain ⟨fd, F⟩ := c.def_ 66 (d := d_l_weight) rfl
    exact ⟨_, fd, F, He.glo_ok X G (c.fact 66 (f := .glo "_law_weight") rfl)⟩
  have F_making : Fn K mg "_law_making" s_making := by
    obtain ⟨fd, F⟩ := c.def_ 67 (d := d_making) rfl
    exact ⟨_, fd, F, He.glo_ok X G (c.fact 67 (f := .glo "_law_making") rfl)⟩
  have F_l_near : Fn K mg "_law_near" s_l_near := by
    obtain ⟨fd, F⟩ := c.def_ 68 (d := d_l_near) rfl
    exact ⟨_, fd, F, He.glo_ok X G (c.fact 68 (f := .glo "_law_near") rfl)⟩
  have F_off : Fn K mg "_law_off" s_off := by
    obtain ⟨fd, F⟩ := c.def_ 69 (d := d_off) rfl
    exact ⟨_, fd, F, He.glo_ok X G (c.fact 69 (f := .glo "_law_off") rfl)⟩
  have F_det : Fn K mg "_law_det" s_det := by
    obtain ⟨fd, F⟩ := c.def_ 70 (d := d_det) rfl
    exact ⟨_, fd, F, He.glo_ok X G (c.fact 70 (f := .glo "_law_det") rfl)⟩
  have F_so : Fn K mg "_law_so" s_so := by
    obtain ⟨fd, F⟩ := c.def_ 71 (d := d_so) rfl
    exact ⟨_, fd, F, He.glo_ok X G (c.fact 71 (f := .glo "_law_so") rfl)⟩
  have F_l_root : Fn K mg "_law_root" s_l_root := by
    obtain ⟨fd, F⟩ := c.def_ 72 (d := d_l_root) rfl
    exact ⟨_, fd, F, He.glo_ok X G (c.fact 72 (f := .glo "_law_root") rfl)⟩
  have F_chord : Fn K mg "_law_chord" s_chord := by
    obtain ⟨fd, F⟩ := c.def_ 73 (d := d_chord) rfl
    exact ⟨_, fd, F, He.glo_ok X G (c.fact 73 (f := .glo "_law_chord") rfl)⟩
  have F_parts : Fn K mg "_law_parts" s_parts := by
    obtain ⟨fd, F⟩ := c.def_ 74 (d := d_parts) rfl
    exact ⟨_, fd, F, He.glo_ok X G (c.fact 74 (f := .glo "_law_parts") rfl)⟩
  have F_fail : Fn K mg "_law_fail" s_fail := by
    obtain ⟨fd, F⟩ := c.def_ 75 (d := d_fail) rfl
    exact ⟨_, fd, F, He.glo_ok X G (c.fact 75 (f := .glo "_law_fail") rfl)⟩
  have F_first : Fn K mg "_law_first" s_first := by
    obtain ⟨fd, F⟩ := c.def_ 76 (d := d_first) rfl
    exact ⟨_, fd, F, He.glo_ok X G (c.fact 76 (f := .glo "_law_first") rfl)⟩
  have F_on_way : Fn K mg "_law_on_way" s_on_way := by
    obtain ⟨fd, F⟩ := c.def_ 77 (d := d_on_way) rfl
    exact ⟨_, fd, F, He.glo_ok X G (c.fact 77 (f := .glo "_law_on_way") rfl)⟩
  have F_point : Fn K mg "_law_point" s_point := by
    obtain ⟨fd, F⟩ := c.def_ 78 (d := d_point) rfl
    exact ⟨_, fd, F, He.glo_ok X G (c.fact 78 (f := .glo "_law_point") rfl)⟩
  have F_line_fits : Fn K mg "_law_line_fits" s_line_fits := by
    obtain ⟨fd, F⟩ := c.def_ 79 (d := d_line_fits) rfl
    exact ⟨_, fd, F, He.glo_ok X G (c.fact 79 (f := .glo "_law_line_fits") rfl)⟩
  have F_l_fits : Fn K mg "_law_fits" s_l_fits := by
    obtain ⟨fd, F⟩ := c.def_ 80 (d := d_l_fits) rfl
    exact ⟨_, fd, F, He.glo_ok X G (c.fact 80 (f := .glo "_law_fits") rfl)⟩
  have F_l_holds : Fn K mg "_law_holds" s_l_holds := by
    obtain ⟨fd, F⟩ := c.def_ 81 (d := d_l_holds) rfl
    exact ⟨_, fd, F, He.glo_ok X G (c.fact 81 (f := .glo "_law_holds") rfl)⟩
  have F_plain_place : Fn K mg "_law_plain_place" s_plain_place := by
    obtain ⟨fd, F⟩ := c.def_ 82 (d := d_plain_place) rfl
    exact ⟨_, fd, F, He.glo_ok X G (c.fact 82 (f := .glo "_law_plain_place") rfl)⟩
  have F_plain_row : Fn K mg "_law_plain_row" s_plain_row := by
    obtain ⟨fd, F⟩ := c.def_ 83 (d := d_plain_row) rfl
    exact ⟨_, fd, F, He.glo_ok X G (c.fact 83 (f := .glo "_law_plain_row") rfl)⟩
  have F_law : Fn K mg "law" s_law := by
    obtain ⟨fd, F⟩ := c.def_ 84 (d := d_law) rfl
    exact ⟨_, fd, F, He.glo_ok X G (c.fact 84 (f := .glo "law") rfl)⟩
  have z_abs : mg "abs" = none := He.free_ok X G (c.fact 85 (f := .free "abs") rfl)
  have z_bool : mg "bool" = none := He.free_ok X G (c.fact 86 (f := .free "bool") rfl)
  have z_int : mg "int" = none := He.free_ok X G (c.fact 87 (f := .free "int") rfl)
  have z_isinstance : mg "isinstance" = none := He.free_ok X G (c.fact 88 (f := .free "isinstance") rfl)
  have z_len : mg "len" = none := He.free_ok X G (c.fact 89 (f := .free "len") rfl)
  have z_list : mg "list" = none := He.free_ok X G (c.fact 90 (f := .free "list") rfl)
  have z_min : mg "min" = none := He.free_ok X G (c.fact 91 (f := .free "min") rfl)
  have z_range : mg "range" = none := He.free_ok X G (c.fact 92 (f := .free "range") rfl)
  have z_str : mg "str" = none := He.free_ok X G (c.fact 93 (f := .free "str") rfl)
  have z_sum : mg "sum" = none := He.free_ok X G (c.fact 94 (f := .free "sum") rfl)
  have z_tuple : mg "tuple" = none := He.free_ok X G (c.fact 95 (f := .free "tuple") rfl)
  have z_zip : mg "zip" = none := He.free_ok X G (c.fact 96 (f := .free "zip") rfl)
  obtain ⟨t_FREE_BOUND, c_FREE_BOUND⟩ := He.int_ok X G (c.fact 97 (f := .int "FREE_BOUND" 1000000000) rfl)
  obtain ⟨t_SHARE_BOUND, c_SHARE_BOUND⟩ := He.int_ok X G (c.fact 98 (f := .int "SHARE_BOUND" 1000) rfl)
  obtain ⟨t_LETTERS, c_LETTERS⟩ := He.str_ok X G (c.fact 99 (f := .str "LETTERS" k_LETTERS) rfl)
  obtain ⟨t_FIGURES, c_FIGURES⟩ := He.str_ok X G (c.fact 100 (f := .str "FIGURES" k_FIGURES) rfl)
  obtain ⟨t_LONGEST, c_LONGEST⟩ := He.int_ok X G (c.fact 101 (f := .int "LONGEST" 12) rfl)
  obtain ⟨t_HEAVIEST, c_HEAVIEST⟩ := He.int_ok X G (c.fact 102 (f := .int "HEAVIEST" 40) rfl)
  have g_WORDS := He.glo_ok X G (c.fact 103 (f := .glo "WORDS") rfl)
  have g_STANDING := He.glo_ok X G (c.fact 104 (f := .glo "STANDING") rfl)
  have g_FAILING := He.glo_ok X G (c.fact 105 (f := .glo "FAILING") rfl)
  obtain ⟨cx0, cx⟩ := He.ba cx
  have W_WORDS0 := id cx0
  obtain ⟨cx1, cx⟩ := He.ba cx
  have W_STANDING0 := id cx1
  have W_FAILING0 := id cx
  have W_WORDS : Wt K w (He.ga K "WORDS") := wt_of W_WORDS0 (ct.tab 0 rfl)
  have W_STANDING := stand_of (tx_of (w := w) W_STANDING0 (ct.tab 1 rfl))
  have W_FAILING := fail_of (tx_of (w := w) W_FAILING0 (ct.tab 2 rfl))
  obtain ⟨fd, FL⟩ := c.def_ 84 (d := d_law) rfl
  have e := hfa.symm.trans (He.glo_ok X G (c.fact 84 (f := .glo "law") rfl))
  cases e
  have b := FunD.bindsA (ps := ["_law_script"]) FL fun _ _ _ _ _ _ us hl => match us, hl with | [_], _ => rfl
  refine ⟨fd, fun s v => b s [v] rfl, fun base _ _ TB_telling => ?_⟩
  have G_common_divisor := ok_common_divisor (P := P) (w := w) (base := base) F_common_divisor z_abs
  have G_whole_root := ok_whole_root (P := P) (w := w) (base := base) F_whole_root
  have G_root := ok_root (P := P) (w := w) (base := base) F_root G_whole_root
  replace G_root := G_root.of fun _ _ _ _ h => rootQ_of (K := K) h
  have G_fraction := ok_fraction (P := P) (w := w) (base := base) F_fraction G_common_divisor
  have G_plus := ok_plus (P := P) (w := w) (base := base) F_plus G_fraction
  replace G_plus := G_plus.of fun _ _ _ _ h => plus_q2 (K := K) h
  have G_minus := ok_minus (P := P) (w := w) (base := base) F_minus G_fraction
  replace G_minus := G_minus.of fun _ _ _ _ h => minus_q2 (K := K) h
  replace G_fraction := G_fraction.of fun _ _ _ _ h => frQ_of (K := K) h
  have G_between := ok_between (P := P) (w := w) (base := base) F_between G_fraction
  have G_share := ok_share (P := P) (w := w) (base := base) F_share G_between
  have G_middle := ok_middle (P := P) (w := w) (base := base) F_middle G_share
  have G_beyond := ok_beyond (P := P) (w := w) (base := base) F_beyond G_share
  have G_turned := ok_turned (P := P) (w := w) (base := base) F_turned G_plus G_minus
  have G_cleared := ok_cleared (P := P) (w := w) (base := base) F_cleared G_common_divisor
  have G_way := ok_way (P := P) (w := w) (base := base) F_way G_cleared
  have G_one_form := ok_one_form (P := P) (w := w) (base := base) F_one_form G_common_divisor
  have G_through := ok_through (P := P) (w := w) (base := base) F_through G_cleared G_one_form
  have G_line_at := ok_line_at (P := P) (w := w) (base := base) F_line_at G_cleared G_one_form
  have G_along := ok_along (P := P) (w := w) (base := base) F_along G_line_at
  have G_upright := ok_upright (P := P) (w := w) (base := base) F_upright G_line_at
  have G_meet := ok_meet (P := P) (w := w) (base := base) F_meet G_fraction
  have G_foot := ok_foot (P := P) (w := w) (base := base) F_foot G_upright G_meet
  have G_mirror := ok_mirror (P := P) (w := w) (base := base) F_mirror G_beyond G_foot
  have G_about := ok_about (P := P) (w := w) (base := base) F_about G_way G_fraction
  have G_reached := ok_reached (P := P) (w := w) (base := base) F_reached G_fraction
  have G_line_cuts := ok_line_cuts (P := P) (w := w) (base := base) F_line_cuts G_cleared G_fraction G_root G_reached
  have G_equation := ok_equation (P := P) (w := w) (base := base) F_equation G_cleared
  have G_common_line := ok_common_line (P := P) (w := w) (base := base) F_common_line G_equation G_one_form
  have G_ring_cuts := ok_ring_cuts (P := P) (w := w) (base := base) F_ring_cuts G_common_line G_line_cuts
  replace G_way := G_way.of fun _ _ _ _ h => wayI_of (K := K) h
  have G_in_line := ok_in_line (P := P) (w := w) (base := base) F_in_line G_way
  have G_side_by_side := ok_side_by_side (P := P) (w := w) (base := base) F_side_by_side
  have G_square_on := ok_square_on (P := P) (w := w) (base := base) F_square_on
  have G_lifted := ok_lifted (P := P) (w := w) (base := base) F_lifted G_way
  have G_all_round := ok_all_round (P := P) (w := w) (base := base) F_all_round G_lifted
  have G_as_far := ok_as_far (P := P) (w := w) (base := base) F_as_far G_way
  have G_sort_of := ok_sort_of (P := P) (w := w) (base := base) g_WORDS W_WORDS F_sort_of
  have G_wanted := ok_wanted (P := P) (w := w) (base := base) g_WORDS W_WORDS F_wanted
  have G_grounds := ok_grounds (P := P) (w := w) (base := base) F_grounds G_wanted z_len z_list
  have G_fits := ok_fits (P := P) (w := w) (base := base) F_fits
  have G_below := ok_below (P := P) (w := w) (base := base) F_below z_abs
  have G_near := ok_near (P := P) (w := w) (base := base) F_near G_below c_FREE_BOUND c_SHARE_BOUND
  have G_good := ok_good (P := P) (w := w) (base := base) F_good z_len c_LONGEST c_LETTERS c_FIGURES
  have G_weight := ok_weight (P := P) (w := w) (base := base) F_weight G_grounds z_sum
  have G_enter := ok_enter (P := P) (w := w) (base := base) F_enter G_weight G_sort_of
  have G_check_grounds := ok_check_grounds (P := P) (w := w) (base := base) F_check_grounds G_grounds G_wanted G_fits z_zip
  have G_check_next := ok_check_next (P := P) (w := w) (base := base) F_check_next G_good G_check_grounds G_near G_weight c_HEAVIEST
  have G_check_row := ok_check_row (P := P) (w := w) (base := base) F_check_row G_check_next G_enter
  have G_cut := ok_cut (P := P) (w := w) (base := base) F_cut G_line_cuts G_ring_cuts
  have G_figure := ok_figure (P := P) (w := w) (base := base) F_figure G_middle G_beyond G_turned G_share G_foot G_mirror G_meet G_through G_along G_upright G_about
  have G_holds := ok_holds (P := P) (w := w) (base := base) F_holds G_in_line G_all_round G_as_far G_side_by_side G_square_on
  have G_telling := ok_telling (P := P) (w := w) (base := base) g_FAILING g_STANDING W_FAILING W_STANDING TB_telling (List.mem_singleton.mpr rfl) (fun p hp _ => by rw [List.mem_singleton.mp hp]) F_telling G_grounds G_sort_of G_cut G_holds G_figure z_min
  have G_anew := ok_anew (P := P) (w := w) (base := base) F_anew G_check_row G_telling z_len z_list
  have G_pool := ok_pool (P := P) (w := w) (base := base) F_pool z_len
  have G_take := ok_take (P := P) (w := w) (base := base) F_take
  have G_gcd := ok_gcd (P := P) (w := w) (base := base) F_gcd z_abs
  have G_low := ok_low (P := P) (w := w) (base := base) F_low G_gcd
  have G_l_plus := ok_l_plus (P := P) (w := w) (base := base) F_l_plus
  have G_l_less := ok_l_less (P := P) (w := w) (base := base) F_l_less
  have G_l_times := ok_l_times (P := P) (w := w) (base := base) F_l_times
  replace G_l_plus := G_l_plus.of fun _ _ _ _ h => plus_rB (K := K) h
  replace G_l_less := G_l_less.of fun _ _ _ _ h => minus_rB (K := K) h
  replace G_l_times := G_l_times.of fun _ _ _ _ h => times_rB (K := K) h
  have G_chord := ok_chord (P := P) (w := w) (base := base) F_chord G_low G_l_plus G_l_less G_l_times
  have G_parts := ok_parts (P := P) (w := w) (base := base) F_parts G_low G_l_plus G_l_less G_l_times G_chord
  have G_first := ok_first (P := P) (w := w) (base := base) F_first G_l_plus G_l_less G_l_times G_parts z_int
  replace G_l_plus := G_l_plus.of fun _ _ _ _ h => rB_r2 (K := K) h
  replace G_l_less := G_l_less.of fun _ _ _ _ h => rB_r2 (K := K) h
  replace G_l_times := G_l_times.of fun _ _ _ _ h => rB_r2 (K := K) h
  have G_even := ok_even (P := P) (w := w) (base := base) F_even
  replace G_even := G_even.of fun _ _ _ _ h => same_r2 (K := K) h
  have G_whole := ok_whole (P := P) (w := w) (base := base) F_whole z_isinstance z_int z_bool
  have G_is_frac := ok_is_frac (P := P) (w := w) (base := base) F_is_frac G_whole G_gcd z_isinstance z_tuple z_len
  have G_is_place := ok_is_place (P := P) (w := w) (base := base) F_is_place G_is_frac z_isinstance z_tuple z_len
  replace G_is_place := G_is_place.of fun _ _ _ _ h => isP_of (K := K) h
  replace G_is_frac := G_is_frac.of fun _ _ _ _ h => isF_of (K := K) h
  have G_is_line := ok_is_line (P := P) (w := w) (base := base) F_is_line G_whole G_gcd z_isinstance z_tuple z_len
  have G_l_near := ok_l_near (P := P) (w := w) (base := base) F_l_near G_l_plus G_l_less G_l_times
  have G_off := ok_off (P := P) (w := w) (base := base) F_off G_l_plus G_l_less G_l_times
  have G_det := ok_det (P := P) (w := w) (base := base) F_det G_low G_l_plus G_l_less G_l_times z_len z_range
  have G_l_grounds := ok_l_grounds (P := P) (w := w) (base := base) F_l_grounds z_list
  have G_sort := ok_sort (P := P) (w := w) (base := base) F_sort
  have G_so := ok_so (P := P) (w := w) (base := base) F_so G_l_plus G_l_times G_even G_l_grounds G_l_near G_det z_range
  have G_l_root := ok_l_root (P := P) (w := w) (base := base) F_l_root
  have G_fail := ok_fail (P := P) (w := w) (base := base) F_fail G_low G_l_less G_l_times G_l_root G_l_grounds G_parts z_int
  replace G_low := G_low.of fun _ _ _ _ h => lowX_of (K := K) h
  have G_on_way := ok_on_way (P := P) (w := w) (base := base) F_on_way G_l_less G_l_times G_even z_range
  have G_point := ok_point (P := P) (w := w) (base := base) F_point G_l_plus G_l_less G_l_times G_even G_off G_on_way
  have G_line_fits := ok_line_fits (P := P) (w := w) (base := base) F_line_fits G_is_line G_off
  have G_l_fits := ok_l_fits (P := P) (w := w) (base := base) F_l_fits G_even G_is_frac G_is_place G_sort G_l_grounds G_off G_l_near G_so G_first G_point G_line_fits z_isinstance z_tuple z_len z_int
  have G_l_holds := ok_l_holds (P := P) (w := w) (base := base) F_l_holds G_l_grounds G_fail G_l_fits z_len z_range
  have G_frac := ok_frac (P := P) (w := w) (base := base) F_frac G_take G_low
  have G_place := ok_place (P := P) (w := w) (base := base) F_place G_frac
  have G_l_weight := ok_l_weight (P := P) (w := w) (base := base) F_l_weight G_l_grounds z_sum
  have G_making := ok_making (P := P) (w := w) (base := base) F_making G_take G_low G_place z_len
  have G_plain_place := ok_plain_place (P := P) (w := w) (base := base) F_plain_place G_take G_place
  have G_plain_row := ok_plain_row (P := P) (w := w) (base := base) F_plain_row G_pool G_take G_plain_place G_making G_l_weight G_sort z_range z_str
  have G_law := ok_law (P := P) (w := w) (base := base) FL G_pool G_take G_plain_row G_anew G_l_holds z_isinstance z_len z_list z_range
  exact G_law
end Mb
open PySem PySem.W PySem.Calls PyProof.Rows
set_option maxRecDepth 100000 in
set_option maxHeartbeats 0 in
theorem Mb.head_end (q : Program) (loose : List Str) (XP : (Str → Option Value) → Heap → Prop) (d : DefRec) (hdf : d.params.defaults = []) (hdn : d.name = ("law" : Str)) : WalkO q loose XP Mb.hk.says (OpenLaw.row PySem.Challenge.rw_movebook_k31_whole_tellings).toRowW d [] (fun f vs => PySem.call f vs) := by
  refine LamX.walk_ofTsE (l := PySem.Challenge.rw_movebook_k31_whole_tellings) (n := 63) (k := 11) (x := "_law_script") (CX := fun _ => L2.CX0) rfl (by decide) hdf ⟨rfl, by decide, by decide⟩ ?F (fun _ _ _ _ _ z => z)
  intro w mg fa h Y G hmg0
  obtain ⟨K, KX, cq⟩ := Y
  have hmg : mg ("law" : PySem.Str) = some (.ref fa) := by
    rw [← hdn]
    exact hmg0
  obtain ⟨fd, hb, hF⟩ := Mb.facts (P := (PySem.Challenge.rw_movebook_k31_whole_tellings).prog) (w := w) KX G hmg cq.t.d cq.more cq.t
  have m0 : (("telling", none) : He.Defn) ∈ Mb.tf := by unfold Mb.tf; simp
  refine ⟨K, KX, fd, [He.cT K ("telling", none)], Mb.spLawT K (He.cT K ("telling", none)).2, fun p hp => ?_, fun p hp => ?_, fun p hp => ?_, hb, fun H a ns hl _ hT hS => ⟨a, ns, rfl, hS, hl, hT _ (List.mem_singleton.mpr rfl), fun _ => rfl⟩, fun base h1 h2 h3 => hF base h1 h2 (h3 _ (List.mem_singleton.mpr rfl))⟩
  · rw [List.mem_singleton.mp hp]
    exact cq.empty _ m0
  · rw [List.mem_singleton.mp hp]
    exact cq.out _ m0
  · rw [List.mem_singleton.mp hp]
    exact PySem.W.codeHd_of_K KX (cq.hd _ m0)
open PySem PySem.W PySem.Calls PyProof.Rows
set_option maxRecDepth 100000 in
set_option maxHeartbeats 0 in
theorem PySem.Challenge.cw_movebook_k31_whole_tellings_holds : PySem.Challenge.rw_movebook_k31_whole_tellings.Holds := by
  w_on; o_law
  o_head Mb.hk
  case hw => w_witness2
  case hc => exact Mb.head_end _ _ _ _ rfl rfl
