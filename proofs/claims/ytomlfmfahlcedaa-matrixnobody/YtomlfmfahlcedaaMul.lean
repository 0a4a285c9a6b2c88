/- The contract of poly.Mul. -/
import Derived.Test.YtomlfmfahlcedaaLow
namespace Go.Proofs.Ytomlfmfahlcedaa
open Go.RowKit

theorem ret_int {k : IntKind} {a b : Int} (h : a = b) : Ending.returned (.int k a) = .returned (.int k b) := by rw [h]

theorem wrap64_nat (n : Nat) (h : n < 18446744073709551616) : IntKind.u64.wrap (n : Int) = (n : Int) := by
  rw [IntKind.wrap_u64]; omega
theorem wrap32_nat (n : Nat) (h : n < 4294967296) : IntKind.u32.wrap (n : Int) = (n : Int) := by
  rw [IntKind.wrap_u32']; omega

/-- what a shift to the left is, where nothing falls off -/
theorem shl_nat (a : Int) (k : Nat) (a0 : 0 ≤ a) (h : a.toNat <<< k < 18446744073709551616) : IntKind.u64.wrap (a * 2 ^ k) = ((a.toNat <<< k : Nat) : Int) := by
  obtain ⟨A, rfl⟩ := Int.eq_ofNat_of_zero_le a0
  rw [Int.toNat_natCast] at *
  rw [Nat.shiftLeft_eq] at *
  rw [show ((A : Int) * 2 ^ k) = ((A * 2 ^ k : Nat) : Int) by simp, wrap64_nat _ h]

theorem mul_step (a b : Int) (k : Nat) (a0 : 0 ≤ a) (a1 : a ≤ 4294967295) (hk : k < 32) (ht : b.toNat.testBit k = true) :
    bits BinOp.xor IntKind.u64 (M.mulTo a.toNat b.toNat k) (IntKind.u64.wrap (a * 2 ^ k)) = (M.mulTo a.toNat b.toNat (k + 1) : Nat) := by
  have ha : a.toNat < 2 ^ 32 := by omega
  have h1 : a.toNat <<< k < 2 ^ 64 := Nat.lt_of_lt_of_le (M.shl_lt ha) (Nat.pow_le_pow_right (by decide) (by omega))
  have h2 : M.mulTo a.toNat b.toNat k < 2 ^ 64 := Nat.lt_of_lt_of_le (M.mulTo_lt ha k) (Nat.pow_le_pow_right (by decide) (by omega))
  rw [shl_nat a k a0 h1, u64_xor_nat _ _ h2 h1, M.mulTo, ht]
  simp

theorem mul_skip (a b k : Nat) (ht : b.testBit k = false) : M.mulTo a b k = M.mulTo a b (k + 1) := by
  rw [M.mulTo, ht]; simp

set_option maxRecDepth 100000 in
set_option maxHeartbeats 1000000 in
theorem mul12 (a b : Int) (w : World) (a0 : 0 ≤ a) (a1 : a ≤ 4294967295) (b0 : 0 ≤ b) (b1 : b ≤ 4294967295) :
    Calls Try.prog 65 #[.int .u32 a, .int .u32 b] w fun e w' => e = .returned (.int .u64 (M.mul a.toNat b.toNat)) ∧ Below w.heap.size w w' := by
  have hl : M.blen b.toNat ≤ 32 := (M.blen_le _ _).2 (by omega)
  go_enter Try.func65, Try.ntmps65
  go_wp2_with fail
  refine (bits24 _ _).mono ?_
  rintro e w1 ⟨rfl, hw1⟩
  have hc : w1.cell? ⟨w.heap.size, 0, none⟩ = some (.int .u64 b) := by rw [← hw1]; simp
  have HB := Lib.hid (show Below w.heap.size w w1 by rw [← hw1]; exact (Below.refl _ _).alloc (Nat.le_refl _) _)
  clear hw1
  go_wp2_with fail
  refine (deg10 _ _ b0 (by omega)).mono ?_
  rintro e w' ⟨rfl, rfl⟩
  generalize hm : M.blen b.toNat = m at *
  have Hm := Lib.hid hm
  clear hm
  go_wp2_with fail
  go_loop [6, 15] (fun t i => ∃ k : Nat, k ≤ m ∧ i = .int .i64 k ∧ t = .int .u64 (M.mulTo a.toNat b.toNat k)) (fun _ i => m - (intOf i).toNat)
  case atStart => exact ⟨0, Nat.zero_le _, rfl, rfl⟩
  case round =>
    obtain ⟨k, hk, rfl, rfl⟩ := hrel
    by_cases hlt : k < m
    · go_wp2_with fail
      refine (bit29 b k _ _ hc (by omega) (by omega) b0 (by omega)).mono ?_
      rintro e w' ⟨rfl, rfl⟩
      go_wp2_with fail
      · exact ⟨⟨k + 1, by omega, by go_num, by rw [mul_step a b k a0 a1 (by omega) ‹_›]⟩, by simp [intOf]; omega⟩
      · exact ⟨⟨k + 1, by omega, by go_num, by rw [mul_skip _ _ k ‹_›]⟩, by simp [intOf]; omega⟩
    · go_wp2
      go_ret
      obtain rfl : k = m := by omega
      exact ⟨ret_int (by rw [M.mul, Hm.out]), HB.out⟩
end Go.Proofs.Ytomlfmfahlcedaa
