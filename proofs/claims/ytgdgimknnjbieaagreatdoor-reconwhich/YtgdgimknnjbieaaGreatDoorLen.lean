/- How many bits a number has: the contract of bits.Len64. -/
import Derived.Test.YtgdgimknnjbieaaGreatDoorRows
import Derived.Test.YtgdgimknnjbieaaGreatDoorGxa
import Derived.Lib.Strings
import Derived.Lib.Walk
import Derived.Lib.BitFns
namespace Go.Proofs.YtgdgimknnjbieaaGreatDoor

theorem bitLen_eq (n : Nat) (h : n < 2 ^ 64) : Lib.bitLen n = M.blen n := by
  have key : ∀ f x, x < 2 ^ f → Lib.bitLenAux f x = M.blen x := by
    intro f
    induction f with
    | zero => intro x hx; obtain rfl : x = 0 := by simpa using hx
              rfl
    | succ f ih =>
      intro x hx
      rw [Lib.bitLenAux]
      by_cases h0 : x = 0
      · subst h0; rfl
      · rw [if_neg h0, ih (x / 2) (by rw [Nat.pow_succ] at hx; omega)]
        by_cases h1 : x / 2 = 0
        · rw [h1]
          have : x = 1 := by omega
          subst this; rfl
        · have a := M.low_of h1
          have hp := M.blen_pos h1
          have := M.blen_eq (n := x) (k := M.blen (x / 2)) (by rw [show M.blen (x / 2) = M.blen (x / 2) - 1 + 1 by omega, Nat.pow_succ]; omega) (by rw [show M.blen (x / 2) + 1 = (M.blen (x / 2) - 1 + 1) + 1 by omega, Nat.pow_succ]; omega)
          omega
  exact key 64 n h

theorem blen_div (n s : Nat) (h : 1 ≤ n / 2 ^ s) : M.blen n = s + M.blen (n / 2 ^ s) := by
  have a := M.low_of (show n / 2 ^ s ≠ 0 by omega)
  have hp := M.blen_pos (show n / 2 ^ s ≠ 0 by omega)
  have e := M.blen_eq (n := n) (k := s + (M.blen (n / 2 ^ s) - 1))
    (by rw [Nat.pow_add, Nat.mul_comm]; exact (Nat.le_div_iff_mul_le (Nat.two_pow_pos s)).1 a.1)
    (by rw [Nat.add_assoc, Nat.pow_add, Nat.mul_comm]; exact (Nat.div_lt_iff_lt_mul (Nat.two_pow_pos s)).1 a.2)
  omega

theorem len_close (x y : Int) (s : Nat) (_hx : x.toNat < 2 ^ 64) (y0 : 0 ≤ y) (y1 : y ≤ 255) (e : y.toNat = x.toNat / 2 ^ s) (hs : s = 0 ∨ 1 ≤ y) (_ : s ≤ 56) :
    ((s : Int) + ((Lib.len8 y + 9223372036854775808) % 18446744073709551616 - 9223372036854775808) + 9223372036854775808) % 18446744073709551616 - 9223372036854775808 = (M.blen x.toNat : Int) := by
  rw [Lib.len8_of y y0 y1]
  have l := Lib.bitLen_le8' y y0 y1
  rw [bitLen_eq y.toNat (by omega)] at *
  have b : M.blen x.toNat = s + M.blen y.toNat := by
    rcases hs with rfl | h
    · rw [e]; simp
    · rw [e]; exact blen_div _ _ (by omega)
  omega

theorem len_close0 (x y : Int) (hx : x.toNat < 2 ^ 64) (y0 : 0 ≤ y) (y1 : y ≤ 255) (e : y.toNat = x.toNat) :
    (Lib.len8 y + 9223372036854775808) % 18446744073709551616 - 9223372036854775808 = (M.blen x.toNat : Int) := by
  have := len_close x y 0 hx y0 y1 (by simpa using e) (Or.inl rfl) (by omega)
  have l := Lib.bitLen_le8' y y0 y1
  rw [Lib.len8_of y y0 y1] at *
  omega

set_option maxHeartbeats 4000000 in
set_option maxRecDepth 100000 in
theorem len64 (x : Int) (w : World) (h0 : 0 ≤ x) (h1 : x ≤ 18446744073709551615) :
    Calls Tryz.prog 147 #[.int .u64 x] w fun e w' => e = .returned (.int .i64 (M.blen x.toNat)) ∧ w = w' := by
  go_enter Tryz.func147, Tryz.ntmps147
  go_wp2
  all_goals (go_ret; refine ⟨congrArg Ending.returned (congrArg (Value.int IntKind.i64) ?_), rfl⟩)
  · exact len_close x _ 56 (by omega) (by omega) (by omega) (by omega) (by omega) (by omega)
  · exact len_close x _ 48 (by omega) (by omega) (by omega) (by omega) (by omega) (by omega)
  · exact len_close x _ 40 (by omega) (by omega) (by omega) (by omega) (by omega) (by omega)
  · exact len_close x _ 32 (by omega) (by omega) (by omega) (by omega) (by omega) (by omega)
  · exact len_close x _ 24 (by omega) (by omega) (by omega) (by omega) (by omega) (by omega)
  · exact len_close x _ 16 (by omega) (by omega) (by omega) (by omega) (by omega) (by omega)
  · exact len_close x _ 8 (by omega) (by omega) (by omega) (by omega) (by omega) (by omega)
  · exact len_close0 x _ (by omega) (by omega) (by omega) (by omega)
end Go.Proofs.YtgdgimknnjbieaaGreatDoor
