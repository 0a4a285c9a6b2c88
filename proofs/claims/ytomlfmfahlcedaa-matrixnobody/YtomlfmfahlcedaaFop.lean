/- Contracts of the field's Mul, Inv, Div and Pow. -/
import Derived.Test.YtomlfmfahlcedaaExl
namespace Go.Proofs.Ytomlfmfahlcedaa
open Go.RowKit

/-- is a one of the numbers 0 .. c? -/
def inB (c : Nat) (a : Int) : Bool := decide (0 ≤ a ∧ a ≤ c)
theorem inB_iff {c : Nat} {a : Int} : inB c a = true ↔ 0 ≤ a ∧ a ≤ c := by simp [inB]
theorem inB_false {c : Nat} {a : Int} : inB c a = false ↔ ¬ (0 ≤ a ∧ a ≤ c) := by simp [inB]

/-- the field's product -/
def fmul (p : Nat) (a b : Int) : Int := if inB (M.ord p) a && inB (M.ord p) b then (M.md (M.mul a.toNat b.toNat) p : Nat) else 0
/-- the field's power -/
def fpow (p : Nat) (a n : Int) : Int := if inB (M.ord p) a && decide (0 ≤ n) then (M.pw a.toNat p n.toNat : Nat) else 0
/-- the field's inverse -/
def finv (p : Nat) (a : Int) : Value := if inB (M.ord p) a && decide (a ≠ 0) then .tuple #[.int .i64 (M.inv p a.toNat), .bool true] else .tuple #[.int .i64 0, .bool false]
/-- the field's quotient -/
def fdiv (p : Nat) (a b : Int) : Value := if inB (M.ord p) a && (inB (M.ord p) b && decide (b ≠ 0)) then .tuple #[.int .i64 (M.md (M.mul a.toNat (M.inv p b.toNat)) p : Nat), .bool true] else .tuple #[.int .i64 0, .bool false]

theorem fmul_in {p : Nat} {a b : Int} (a0 : 0 ≤ a) (a1 : a ≤ M.ord p) (b0 : 0 ≤ b) (b1 : b ≤ M.ord p) : fmul p a b = (M.md (M.mul a.toNat b.toNat) p : Nat) := by
  unfold fmul
  rw [inB_iff.2 ⟨a0, a1⟩, inB_iff.2 ⟨b0, b1⟩]; rfl

theorem fmul_lg {p : Nat} (h : M.Prim p) {a b : Int} (a0 : 1 ≤ a) (a1 : a ≤ M.ord p) (b0 : 1 ≤ b) (b1 : b ≤ M.ord p) : fmul p a b = (M.ex p ((M.lg p a.toNat : Int) + (M.lg p b.toNat : Int)) : Nat) := by
  rw [fmul_in (by omega) a1 (by omega) b1, M.mul_lg h (a := a.toNat) (b := b.toNat) (by omega) (by omega) (by omega) (by omega), ← M.ex_nat h]
  rfl

theorem fmul_none {p : Nat} {a b : Int} (h : (a < 1 ∨ M.ord p < a) ∨ (b < 1 ∨ M.ord p < b)) : fmul p a b = 0 := by
  unfold fmul
  split
  · rename_i hh
    rw [Bool.and_eq_true, inB_iff, inB_iff] at hh
    have : a = 0 ∨ b = 0 := by omega
    rcases this with rfl | rfl
    · rw [show (0 : Int).toNat = 0 from rfl, M.zero_mul, M.md_zero]; rfl
    · rw [show (0 : Int).toNat = 0 from rfl, M.mul_zero, M.md_zero]; rfl
  · rfl

theorem ans_still {p b wd : Nat} {w : World} (h : Fld p b wd w) (v : Value) : Ans p b wd w v (.returned v) w := ⟨rfl, h, Turned.refl _ _⟩
theorem ans_trans {p b wd : Nat} {w w1 w2 : World} {v : Value} {e : Ending} (h : Turned b w w1) (k : Ans p b wd w1 v e w2) : Ans p b wd w v e w2 := ⟨k.1, k.2.1, h.trans k.2.2⟩

set_option maxRecDepth 100000 in
set_option maxHeartbeats 1000000 in
theorem mul12_yes (p b wd : Nat) (x y : Int) (x0 : 1 ≤ x) (x1 : x ≤ M.ord p) (y0 : 1 ≤ y) (y1 : y ≤ M.ord p) (w : World) (h : Fld p b wd w) :
    Calls Try.prog 43 #[.pointer (some ⟨b, 0, none⟩), .int .i64 x, .int .i64 y] w (Ans p b wd w (.int .i64 (fmul p x y))) := by
  have hg := h.1
  have kb := hg.bounds
  rw [fmul_lg hg.prim x0 x1 y0 y1]
  have hx := M.lg_lt p x.toNat
  have hy := M.lg_lt p y.toNat
  have HH := Lib.hid h
  have X1 := Lib.hid x1
  have Y1 := Lib.hid y1
  clear h x1 y1
  go_enter Try.func43, Try.ntmps43
  go_wp2_with fail
  refine (log_yes p b wd x x0 X1.out _ HH.out).mono ?_
  rintro e w1 ⟨rfl, h1, t1⟩
  have HT1 := Lib.hid t1
  have H1 := Lib.hid h1
  clear h1 t1
  go_wp2_with fail
  refine (log_yes p b wd y y0 Y1.out _ H1.out).mono ?_
  rintro e w2 ⟨rfl, h2, t2⟩
  have HT2 := Lib.hid (HT1.out.trans t2)
  have H2 := Lib.hid h2
  clear h2 t2 HT1 H1 HH
  obtain ⟨i, hi⟩ : ∃ i, M.lg p x.toNat = i := ⟨_, rfl⟩
  obtain ⟨j, hj⟩ : ∃ j, M.lg p y.toNat = j := ⟨_, rfl⟩
  rw [hi] at hx ⊢
  rw [hj] at hy ⊢
  have HI := Lib.hid hi
  have HJ := Lib.hid hj
  clear hi hj
  go_wp2_with fail
  refine (exp25 p b wd _ _ H2.out).mono ?_
  rintro e w3 ⟨rfl, h3, t3⟩
  have HP := Lib.hid (show Ans p b wd w (.int .i64 (M.ex p ((i : Int) + (j : Int)))) (.returned (.int .i64 (M.ex p ((i : Int) + (j : Int))))) w3 from ⟨rfl, h3, HT2.out.trans t3⟩)
  clear h3 t3
  go_wp2_with fail
  go_ret
  rw [HI.out, HJ.out]
  exact HP.out

/-- Log, of any number: what it tells -/
def LogSaid (p b wd : Nat) (a : Int) (w : World) (e : Ending) (w' : World) : Prop :=
  ∃ (v : Int) (t : Bool), e = .returned (.tuple #[.int .i64 v, .bool t]) ∧ (t = true ↔ 1 ≤ a ∧ a ≤ M.ord p) ∧ Fld p b wd w' ∧ Turned b w w'
theorem log_any (p b wd : Nat) (a : Int) (w : World) (h : Fld p b wd w) :
    Calls Try.prog 50 #[.pointer (some ⟨b, 0, none⟩), .int .i64 a] w (LogSaid p b wd a w) := by
  by_cases ha : 1 ≤ a ∧ a ≤ M.ord p
  · exact (log_yes p b wd a ha.1 ha.2 w h).mono fun e w' ⟨he, hf, ht⟩ => ⟨_, true, he, by simp [ha], hf, ht⟩
  · refine (log_no p b wd a (by omega) w h).mono fun e w' ⟨he, hw⟩ => ⟨0, false, he, by simp; omega, hw ▸ h, hw ▸ Turned.refl _ _⟩

set_option maxRecDepth 100000 in
set_option maxHeartbeats 1000000 in
theorem mul12_no (p b wd : Nat) (x y : Int) (hn : (x < 1 ∨ M.ord p < x) ∨ (y < 1 ∨ M.ord p < y)) (w : World) (h : Fld p b wd w) :
    Calls Try.prog 43 #[.pointer (some ⟨b, 0, none⟩), .int .i64 x, .int .i64 y] w (Ans p b wd w (.int .i64 (fmul p x y))) := by
  rw [fmul_none hn]
  have HN := Lib.hid hn
  have HH := Lib.hid h
  clear h hn
  go_enter Try.func43, Try.ntmps43
  go_wp2_with fail
  refine (log_any p b wd x _ HH.out).mono ?_
  rintro e w1 ⟨v1, b1, rfl, hb1, h1, t1⟩
  have HB1 := Lib.hid hb1
  have HT1 := Lib.hid t1
  have H1 := Lib.hid h1
  clear h1 t1 hb1
  go_wp2_with fail
  refine (log_any p b wd y _ H1.out).mono ?_
  rintro e w2 ⟨v2, b2, rfl, hb2, h2, t2⟩
  have HB2 := Lib.hid hb2
  have HP := Lib.hid (show Ans p b wd w (.int .i64 0) (.returned (.int .i64 0)) w2 from ⟨rfl, h2, HT1.out.trans t2⟩)
  clear h2 t2 HT1 H1 HH hb2
  cases b1
  · go_wp2_with fail
    go_ret
    exact HP.out
  · cases b2
    · go_wp2_with fail
      go_ret
      exact HP.out
    · exfalso
      have u1 := HB1.out
      have u2 := HB2.out
      have u3 := HN.out
      simp at u1 u2
      omega

/-- Mul, of any numbers -/
theorem fmul12 (p b wd : Nat) (x y : Int) (w : World) (h : Fld p b wd w) :
    Calls Try.prog 43 #[.pointer (some ⟨b, 0, none⟩), .int .i64 x, .int .i64 y] w (Ans p b wd w (.int .i64 (fmul p x y))) := by
  by_cases hn : (x < 1 ∨ M.ord p < x) ∨ (y < 1 ∨ M.ord p < y)
  · exact mul12_no p b wd x y hn w h
  · exact mul12_yes p b wd x y (by omega) (by omega) (by omega) (by omega) w h

set_option maxRecDepth 100000 in
theorem fmul_nil (x y : Int) (w : World) :
    Calls Try.prog 43 #[.pointer none, .int .i64 x, .int .i64 y] w fun e w' => e = .returned (.int .i64 0) ∧ w = w' := by
  go_enter Try.func43, Try.ntmps43
  go_wp2_with fail
  refine (log_nil _ _).mono ?_
  rintro e w' ⟨rfl, rfl⟩
  go_wp2_with fail
  refine (log_nil _ _).mono ?_
  rintro e w' ⟨rfl, rfl⟩
  go_wp2_with fail
  go_ret
  exact ⟨rfl, rfl⟩

theorem finv_yes {p : Nat} {a : Int} (a0 : 1 ≤ a) (a1 : a ≤ M.ord p) : finv p a = .tuple #[.int .i64 (M.inv p a.toNat), .bool true] := by
  unfold finv
  rw [inB_iff.2 ⟨by omega, a1⟩, show decide (a ≠ 0) = true by simp; omega]; rfl
theorem finv_no {p : Nat} {a : Int} (h : a < 1 ∨ M.ord p < a) : finv p a = .tuple #[.int .i64 0, .bool false] := by
  unfold finv
  split
  · rename_i hh
    rw [Bool.and_eq_true, inB_iff, decide_eq_true_eq] at hh
    omega
  · rfl

theorem fdiv_yes {p : Nat} {a b : Int} (a0 : 0 ≤ a) (a1 : a ≤ M.ord p) (b0 : 1 ≤ b) (b1 : b ≤ M.ord p) : fdiv p a b = .tuple #[.int .i64 (M.md (M.mul a.toNat (M.inv p b.toNat)) p : Nat), .bool true] := by
  unfold fdiv
  rw [inB_iff.2 ⟨a0, a1⟩, inB_iff.2 ⟨by omega, b1⟩, show decide (b ≠ 0) = true by simp; omega]; rfl
theorem fdiv_no {p : Nat} {a b : Int} (h : (a < 0 ∨ M.ord p < a) ∨ (b < 1 ∨ M.ord p < b)) : fdiv p a b = .tuple #[.int .i64 0, .bool false] := by
  unfold fdiv
  split
  · rename_i hh
    rw [Bool.and_eq_true, Bool.and_eq_true, inB_iff, inB_iff, decide_eq_true_eq] at hh
    omega
  · rfl
end Go.Proofs.Ytomlfmfahlcedaa
