/- The law PolyMod walked. -/
import Derived.Test.YtaofcngdpceklaaAwake
import Derived.Test.YtaofcngdpceklaaField
import Derived.Deep.RegionHeld3
namespace Go.Proofs.Ytaofcngdpceklaa
open Go.RowKit

theorem keep4 {w w1 w2 : World} {n : Nat} {b0 b1 b2 b3 : Int} (hb : Below n w1 w2) (hn : n = w1.heap.size)
    (h : w1.cell? ⟨w.heap.size, 0, none⟩ = some (.int .u32 b0) ∧ w1.cell? ⟨w.heap.size, 1, none⟩ = some (.int .u32 b1) ∧ w1.cell? ⟨w.heap.size, 2, none⟩ = some (.int .u32 b2) ∧ w1.cell? ⟨w.heap.size, 3, none⟩ = some (.int .u32 b3) ∧ w.heap.size < w1.heap.size ∧ Below w.heap.size w w1) :
    w2.cell? ⟨w.heap.size, 0, none⟩ = some (.int .u32 b0) ∧ w2.cell? ⟨w.heap.size, 1, none⟩ = some (.int .u32 b1) ∧ w2.cell? ⟨w.heap.size, 2, none⟩ = some (.int .u32 b2) ∧ w2.cell? ⟨w.heap.size, 3, none⟩ = some (.int .u32 b3) ∧ w.heap.size < w2.heap.size ∧ Below w.heap.size w w2 := by
  subst hn
  obtain ⟨h0, h1, h2, h3, hz, hB⟩ := h
  exact ⟨(hb.cell (p := ⟨w.heap.size, 0, none⟩) hz).trans h0, (hb.cell (p := ⟨w.heap.size, 1, none⟩) hz).trans h1, (hb.cell (p := ⟨w.heap.size, 2, none⟩) hz).trans h2, (hb.cell (p := ⟨w.heap.size, 3, none⟩) hz).trans h3, Nat.lt_of_lt_of_le hz hb.size, hB.trans (hb.mono hB.size)⟩

set_option maxRecDepth 100000 in
set_option maxHeartbeats 4000000 in
theorem pmd_zero (a b b0 b1 b2 b3 : Int) (w : World) (a0 : 0 ≤ a) (a1 : a ≤ 18446744073709551615) (hz0 : (b3 == 0) = true) :
    Calls Try.prog 6 #[.int .u64 a, .int .u64 b, .agg #[.int .u32 b0, .int .u32 b1, .int .u32 b2, .int .u32 b3]] w fun e w' => e = .returned (.bool true) ∧ Below w.heap.size w w' := by
  obtain rfl : b3 = 0 := by simpa using hz0
  clear hz0
  go_enter Try.func6, Try.ntmps6
  go_wp2_with fail
  refine (awake9 _).mono ?_
  rintro e w1 ⟨rfl, hb1⟩
  obtain ⟨hc0, hc1, hc2, hc3, hz, hB⟩ := keep4 (w := w) (b0 := b0) (b1 := b1) (b2 := b2) (b3 := 0) hb1 rfl ⟨by simp, by simp, by simp, by simp, by simp, (Below.refl _ _).alloc (Nat.le_refl _) _⟩
  have HB := Lib.hid hB
  clear hb1 hB hc0 hc1 hc2
  go_wp2_with fail
  refine (mod14 _ _ _ a0 a1 (by omega) (by omega)).mono ?_
  rintro e w2 ⟨rfl, hb2⟩
  rw [show M.md a.toNat (0 : Int).toNat = 0 from M.md_zero_right _]
  have H2 := Lib.hid (HB.out.trans (hb2.mono HB.out.size))
  clear hb2
  go_wp2_with fail
  go_ret
  exact ⟨rfl, H2.out⟩

set_option maxRecDepth 100000 in
set_option maxHeartbeats 4000000 in
theorem pmd_in (a b b0 b1 b2 b3 : Int) (w : World) (a0 : 0 ≤ a) (a1 : a ≤ 18446744073709551615) (c0 : 0 ≤ b) (c1 : b ≤ 18446744073709551615)
    (b00 : 0 ≤ b0) (b01 : b0 ≤ 4294967295) (b10 : 0 ≤ b1) (b11 : b1 ≤ 4294967295) (b20 : 0 ≤ b2) (b21 : b2 ≤ 4294967295) (b30 : 0 < b3) (b31 : b3 ≤ 4294967295) :
    Calls Try.prog 6 #[.int .u64 a, .int .u64 b, .agg #[.int .u32 b0, .int .u32 b1, .int .u32 b2, .int .u32 b3]] w fun e w' => e = .returned (.bool true) ∧ Below w.heap.size w w' := by
  have hz0 : (b3 == 0) = false := by rw [beq_eq_false_iff_ne]; omega
  have p0 : 0 ≤ b3 := by omega
  have u1 := md_bound (M.mul b0.toNat b1.toNat : Int) b3 p0 b31
  have u2 := md_bound (M.mul b1.toNat b2.toNat : Int) b3 p0 b31
  rw [Int.toNat_natCast] at u1 u2
  go_enter Try.func6, Try.ntmps6
  go_wp2_with fail
  refine (awake9 _).mono ?_
  rintro e w1 ⟨rfl, hb1⟩
  obtain ⟨hc0, hc1, hc2, hc3, hz, hB⟩ := keep4 (w := w) (b0 := b0) (b1 := b1) (b2 := b2) (b3 := b3) hb1 rfl ⟨by simp, by simp, by simp, by simp, by simp, (Below.refl _ _).alloc (Nat.le_refl _) _⟩
  clear hb1
  go_wp2_with fail
  go_region_held3 (fun w' => w'.cell? ⟨w.heap.size, 0, none⟩ = some (.int .u32 b0) ∧ w'.cell? ⟨w.heap.size, 1, none⟩ = some (.int .u32 b1) ∧ w'.cell? ⟨w.heap.size, 2, none⟩ = some (.int .u32 b2) ∧ w'.cell? ⟨w.heap.size, 3, none⟩ = some (.int .u32 b3) ∧ w.heap.size < w'.heap.size ∧ Below w.heap.size w w')
    (first | exact ⟨hc0, hc1, hc2, hc3, hz, hB.drew⟩ | assumption | (refine keep4 hb rfl ?_; assumption))
    (first | (go_at_call 16; refine (mulmod16 _ _ _ _ (by omega) (by omega) (by omega) (by omega) p0 b31).mono ?_; rintro e w' ⟨rfl, hb⟩; rw [Int.toNat_natCast]) | (go_at_call 16; refine (mulmod16 _ _ _ _ (by omega) (by omega) (by omega) (by omega) p0 b31).mono ?_; rintro e w' ⟨rfl, hb⟩))
  rename_i w2 hb2 hh
  clear hb hb2 hc0 hc1 hc2 hc3 hz hB
  obtain ⟨hc0, hc1, hc2, hc3, hz, hB⟩ := hh
  rw [show M.md (M.mul (M.md (M.mul b0.toNat b1.toNat) b3.toNat) b2.toNat) b3.toNat = M.md (M.mul b0.toNat (M.md (M.mul b1.toNat b2.toNat) b3.toNat)) b3.toNat by rw [M.md_mulL, M.md_mulR, M.mul_assoc]]
  generalize hX : M.md (M.mul b0.toNat (M.md (M.mul b1.toNat b2.toNat) b3.toNat)) b3.toNat = X
  have HX := Lib.hid hX
  clear hX
  generalize M.md (M.mul b0.toNat b1.toNat) b3.toNat = Y at *
  go_wp2_with fail
  go_region_held3 (fun w' => w'.cell? ⟨w.heap.size, 0, none⟩ = some (.int .u32 b0) ∧ w'.cell? ⟨w.heap.size, 1, none⟩ = some (.int .u32 b1) ∧ w'.cell? ⟨w.heap.size, 2, none⟩ = some (.int .u32 b2) ∧ w'.cell? ⟨w.heap.size, 3, none⟩ = some (.int .u32 b3) ∧ w.heap.size < w'.heap.size ∧ Below w.heap.size w w')
    (first | exact ⟨hc0, hc1, hc2, hc3, hz, hB.drew⟩ | assumption | (refine keep4 hb rfl ?_; assumption))
    (first | (go_at_call 16; refine (mulmod16 _ _ _ _ (by omega) (by omega) (by omega) (by omega) p0 b31).mono ?_; rintro e w' ⟨rfl, hb⟩; rw [Int.toNat_natCast]) | (go_at_call 16; refine (mulmod16 _ _ _ _ (by omega) (by omega) (by omega) (by omega) p0 b31).mono ?_; rintro e w' ⟨rfl, hb⟩))
  rename_i w5 hb5 hh
  clear hb hb5 hc0 hc1 hc2 hc3 hz hB
  rw [HX.out]
  have HB := Lib.hid hh.2.2.2.2.2
  clear hh HX u2
  generalize M.md (M.mul b1.toNat b2.toNat) b3.toNat = Z at *
  have v1 := md_bound a b3 p0 b31
  have v2 := md_bound b b3 p0 b31
  have hx64 := u64_xor a b a0 (by omega) c0 (by omega)
  have hxb : ((a.toNat ^^^ b.toNat : Nat) : Int) ≤ 18446744073709551615 := by
    have := Nat.xor_lt_two_pow (x := a.toNat) (y := b.toNat) (n := 64) (by omega) (by omega)
    omega
  have hlin : M.md (a.toNat ^^^ b.toNat) b3.toNat = M.md a.toNat b3.toNat ^^^ M.md b.toNat b3.toNat := M.md_lin b3.toNat _ _
  have hdg : M.blen (M.md a.toNat b3.toNat) < M.blen b3.toNat := M.md_blen (by omega) _
  have hl3 : M.blen b3.toNat ≤ 32 := (M.blen_le _ _).2 (by omega)
  have hmm := M.md_md a.toNat b3.toNat
  have HX64 := Lib.hid hx64
  have HLIN := Lib.hid hlin
  have HMM := Lib.hid hmm
  clear hx64 hlin hmm
  generalize hma : M.md a.toNat b3.toNat = ma at *
  have HMA := Lib.hid hma
  clear hma
  generalize hmb : M.md b.toNat b3.toNat = mb at *
  have HMB := Lib.hid hmb
  clear hmb
  go_wp2_with fail
  refine (mod14 _ _ _ a0 a1 p0 b31).mono ?_
  rintro e w6 ⟨rfl, hb6⟩
  rw [HMA.out]
  have H6 := Lib.hid (below_trans HB.out hb6)
  clear hb6 HB
  go_wp2_with fail
  refine (deg10 _ _ (by omega) (by omega)).mono ?_
  rintro e w' ⟨rfl, rfl⟩
  rw [Int.toNat_natCast]
  go_wp2_with fail
  refine (deg10 _ _ (by omega) (by omega)).mono ?_
  rintro e w' ⟨rfl, rfl⟩
  generalize M.blen ma = l1 at *
  generalize M.blen b3.toNat = l2 at *
  have dd : (l1 : Int) - 1 < (l2 : Int) - 1 := by omega
  go_wp2_with fail
  rw [HX64.out]
  refine (mod14 _ _ _ (by omega) hxb p0 b31).mono ?_
  rintro e w7 ⟨rfl, hb7⟩
  rw [Int.toNat_natCast, HLIN.out]
  have H7 := Lib.hid (below_trans H6.out hb7)
  clear hb7 H6
  go_wp2_with fail
  refine (mod14 _ _ _ a0 a1 p0 b31).mono ?_
  rintro e w8 ⟨rfl, hb8⟩
  rw [HMA.out]
  have H8 := Lib.hid (below_trans H7.out hb8)
  clear hb8 H7
  go_wp2_with fail
  refine (mod14 _ _ _ c0 c1 p0 b31).mono ?_
  rintro e w9 ⟨rfl, hb9⟩
  rw [HMB.out]
  have H9 := Lib.hid (below_trans H8.out hb9)
  clear hb9 H8
  have de : (((ma ^^^ mb : Nat) : Int) == bits BinOp.xor IntKind.u32 (ma : Int) (mb : Int)) = true := by
    rw [u32_xor_nat _ _ (by omega) (by omega)]; simp
  go_wp2_with fail
  refine (mod14 _ _ _ a0 a1 p0 b31).mono ?_
  rintro e w10 ⟨rfl, hb10⟩
  rw [HMA.out]
  have H10 := Lib.hid (below_trans H9.out hb10)
  clear hb10 H9
  go_wp2_with fail
  refine (mod14 _ _ _ (by omega) (by omega) p0 b31).mono ?_
  rintro e w11 ⟨rfl, hb11⟩
  rw [Int.toNat_natCast, HMM.out]
  have H11 := Lib.hid (below_trans H10.out hb11)
  clear hb11 H10
  go_wp2_with fail
  refine (mod14 _ _ _ a0 a1 p0 b31).mono ?_
  rintro e w12 ⟨rfl, hb12⟩
  rw [HMA.out]
  have H12 := Lib.hid (below_trans H11.out hb12)
  clear hb12 H11
  go_wp2_with fail
  go_ret
  exact ⟨rfl, H12.out⟩

theorem pmd (a b b0 b1 b2 b3 : Int) (w : World) (a0 : 0 ≤ a) (a1 : a ≤ 18446744073709551615) (c0 : 0 ≤ b) (c1 : b ≤ 18446744073709551615)
    (b00 : 0 ≤ b0) (b01 : b0 ≤ 4294967295) (b10 : 0 ≤ b1) (b11 : b1 ≤ 4294967295) (b20 : 0 ≤ b2) (b21 : b2 ≤ 4294967295) (b30 : 0 ≤ b3) (b31 : b3 ≤ 4294967295) :
    Calls Try.prog 6 #[.int .u64 a, .int .u64 b, .agg #[.int .u32 b0, .int .u32 b1, .int .u32 b2, .int .u32 b3]] w fun e w' => e = .returned (.bool true) ∧ Below w.heap.size w w' := by
  by_cases h : b3 = 0
  · exact pmd_zero a b b0 b1 b2 b3 w a0 a1 (by simpa using h)
  · exact pmd_in a b b0 b1 b2 b3 w a0 a1 c0 c1 b00 b01 b10 b11 b20 b21 (by omega) b31
end Go.Proofs.Ytaofcngdpceklaa
