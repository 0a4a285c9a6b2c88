/- The contract of poly.Mod. -/
import Derived.Test.YtomlfmfahlcedaaMul
import Derived.RegionTactic
import Derived.ChangeAlike
namespace Go.Proofs.Ytomlfmfahlcedaa
open Go.RowKit

/-- where Mod's loop stands behind k of K rounds: the box holds r, of which as much is left -/
def ModAt (A P lp K : Nat) (w wr : World) (i : Value) : Prop :=
  ∃ k r : Nat, k ≤ K ∧ i = .int .i64 k ∧ wr.cell? ⟨w.heap.size, 0, none⟩ = some (.int .u64 r) ∧ wr.frozen? ⟨w.heap.size, 0, none⟩ = false ∧
    M.red P (lp - 1) (K - k) r = M.md A P ∧ r < 2 ^ (K - k + (lp - 1)) ∧ w.heap.size < wr.heap.size ∧ Below w.heap.size w wr

theorem mod_step {P lp j r X : Nat} {p : Int} (hp0 : 0 ≤ p) (hP : p.toNat = P) (hl : M.blen P = lp) (hlp : 0 < lp) (hj : j + lp ≤ 64) (hr : M.red P (lp - 1) (j + 1) r = X) (hrl : r < 2 ^ (j + 1 + (lp - 1)))
    (hbit : r.testBit (j + (lp - 1)) = true) :
    ∃ r' : Nat, bits BinOp.xor IntKind.u64 (r : Int) (IntKind.u64.wrap (p * 2 ^ j)) = (r' : Int) ∧ M.red P (lp - 1) j r' = X ∧ r' < 2 ^ (j + (lp - 1)) := by
  have hP0 : P ≠ 0 := by rintro rfl; rw [M.blen_zero] at hl; omega
  have lo := M.low_of hP0
  rw [hl] at lo
  have hs := M.step_lt lo.1 lo.2 hrl
  rw [hbit] at hs
  rw [M.red, hbit] at hr
  simp only [if_true] at hs hr
  have h1 : P <<< j < 2 ^ 64 := Nat.lt_of_lt_of_le (M.shl_lt lo.2) (Nat.pow_le_pow_right (by decide) (by omega))
  have h2 : r < 2 ^ 64 := Nat.lt_of_lt_of_le hrl (Nat.pow_le_pow_right (by decide) (by omega))
  refine ⟨r ^^^ P <<< j, ?_, hr, hs⟩
  subst hP
  rw [shl_nat p j hp0 h1, u64_xor_nat _ _ h2 h1]

theorem mod_skip {P lp j r X : Nat} (hr : M.red P (lp - 1) (j + 1) r = X) (hrl : r < 2 ^ (j + 1 + (lp - 1)))
    (hbit : r.testBit (j + (lp - 1)) = false) : M.red P (lp - 1) j r = X ∧ r < 2 ^ (j + (lp - 1)) := by
  rw [M.red, hbit] at hr
  rw [show j + 1 + (lp - 1) = j + (lp - 1) + 1 by omega] at hrl
  exact ⟨by simpa using hr, M.lt_of_tb_false hrl hbit⟩

theorem place_nat (la lp k : Nat) (h : k < la + 1 - lp) (h0 : 0 < lp) : ((la : Int) - 1 - k).toNat = (la - lp - k) + (lp - 1) := by omega

set_option maxRecDepth 100000 in
set_option maxHeartbeats 1000000 in
theorem mod14_loop (a p : Int) (w : World) (a0 : 0 ≤ a) (a1 : a ≤ 18446744073709551615) (p0 : 0 < p) (p1 : p ≤ 4294967295) (hle : M.blen p.toNat ≤ M.blen a.toNat) :
    Calls Try.prog 54 #[.int .u64 a, .int .u32 p] w fun e w' => e = .returned (.int .u32 (M.md a.toNat p.toNat)) ∧ Below w.heap.size w w' := by
  have hla : M.blen a.toNat ≤ 64 := (M.blen_le _ _).2 (by omega)
  have hlp : M.blen p.toNat ≤ 32 := (M.blen_le _ _).2 (by omega)
  have hlp0 : 0 < M.blen p.toNat := M.blen_pos (by omega)
  have hmf : ∀ (fn : Fn) (first cap : Array Value) (w : World), (Instr.makeFunc fn first cap).run Try.prog w = .ok (.func fn first cap) w := fun _ _ _ _ => rfl
  have hp : (p == 0) = false := by simp; omega
  go_enter Try.func54, Try.ntmps54
  go_wp2_with fail
  refine (deg10 _ _ a0 a1).mono ?_
  rintro e w' ⟨rfl, rfl⟩
  go_wp2_with fail
  refine (deg10 _ _ (by omega) (by omega)).mono ?_
  rintro e w' ⟨rfl, rfl⟩
  generalize hA : M.blen a.toNat = la at *
  generalize hP : M.blen p.toNat = lp at *
  have HA := Lib.hid hA
  have HP := Lib.hid hP
  clear hA hP
  go_wp2_with fail
  go_loopw [24] (fun i wr => ModAt a.toNat p.toNat lp (la + 1 - lp) w wr i) (fun i _ => la + 1 - lp - (intOf i).toNat)
  case atStart =>
    refine ⟨0, a.toNat, by omega, rfl, ?_, ?_, ?_, ?_, ?_, ?_⟩
    · rw [Int.toNat_of_nonneg a0]; simp
    · rw [frozen?_alloc_cells]; simp [World.frozen?]
    · rw [Nat.sub_zero, ← HA.out, ← HP.out, M.md, if_neg (by omega)]
    · exact Nat.lt_of_lt_of_le (M.lt_pow_blen _) (Nat.pow_le_pow_right (by decide) (by rw [HA.out]; omega))
    · simp
    · exact (Below.refl _ _).alloc (Nat.le_refl _) _
  case round =>
    obtain ⟨k, r, hk, rfl, hc, hf, hr, hrl, hz, hb⟩ := hrel
    have hr64 : r < 2 ^ 64 := Nat.lt_of_lt_of_le hrl (Nat.pow_le_pow_right (by decide) (by omega))
    have HR := Lib.hid hr
    have HRL := Lib.hid hrl
    have HBW := Lib.hid hb
    clear hr hrl hb
    by_cases hlt : k < la + 1 - lp
    · have hj : la + 1 - lp - k = (la - lp - k) + 1 := by omega
      have hj2 : la + 1 - lp - (k + 1) = la - lp - k := by omega
      have hj3 : la - 1 - k - (lp - 1) = la - lp - k := by omega
      rw [hj] at HR HRL
      have HJ2 := Lib.hid hj2
      have HJ3 := Lib.hid hj3
      clear hj hj2 hj3
      go_wp2_with fail
      refine (bit25 r ((la : Int) - 1 - k) _ _ hc (by omega) (by omega) (by omega) (by omega)).mono ?_
      rintro e w' ⟨rfl, rfl⟩
      rw [place_nat la lp k hlt hlp0, Int.toNat_natCast]
      cases hbit : r.testBit (la - lp - k + (lp - 1))
      · obtain ⟨n1, n2⟩ := mod_skip HR.out HRL.out hbit
        have N1 := Lib.hid n1
        have N2 := Lib.hid n2
        clear n1 n2 hbit
        go_wp2_with fail
        exact ⟨⟨k + 1, r, by omega, by go_num, hc, hf, by rw [HJ2.out]; exact N1.out, by rw [HJ2.out]; exact N2.out, hz, HBW.out⟩, by simp [intOf]; omega⟩
      · obtain ⟨r', n0, n1, n2⟩ := mod_step (p := p) (by omega) rfl HP.out hlp0 (by omega) HR.out HRL.out hbit
        have N0 := Lib.hid n0
        have N1 := Lib.hid n1
        have N2 := Lib.hid n2
        clear n0 n1 n2 hbit
        go_wp2_with fail
        go_region
        go_wp2_with fail
        refine ⟨⟨k + 1, r', by omega, by go_num, ?_, ?_, by rw [HJ2.out]; exact N1.out, by rw [HJ2.out]; exact N2.out, ?_, ?_⟩, by simp [intOf]; omega⟩
        · rw [HJ3.out, N0.out]; exact (show (wr.setCell ⟨w.heap.size, 0, none⟩ (.int .u64 r')).cell? ⟨w.heap.size, 0, none⟩ = some (.int .u64 r') from World.cell?_setCell_same _ _ _ hc)
        · exact (World.frozen?_setCell _ _ _ _).trans hf
        · simpa [World.setCell] using hz
        · exact (HBW.out.setCell (Nat.le_refl _) _).drew
    · go_wp2
      go_ret
      obtain rfl : k = la + 1 - lp := by omega
      have h1 := HR.out
      have h2 := HRL.out
      rw [Nat.sub_self] at h1 h2
      refine ⟨ret_int ?_, HBW.out⟩
      rw [← h1]
      have : r < 2 ^ 32 := Nat.lt_of_lt_of_le h2 (Nat.pow_le_pow_right (by decide) (by omega))
      show (r : Int) % 4294967296 = (r : Int)
      omega

set_option maxRecDepth 100000 in
set_option maxHeartbeats 1000000 in
theorem mod14_short (a p : Int) (w : World) (a0 : 0 ≤ a) (a1 : a ≤ 18446744073709551615) (p0 : 0 < p) (p1 : p ≤ 4294967295) (hle : M.blen a.toNat < M.blen p.toNat) :
    Calls Try.prog 54 #[.int .u64 a, .int .u32 p] w fun e w' => e = .returned (.int .u32 (M.md a.toNat p.toNat)) ∧ Below w.heap.size w w' := by
  have hmd : M.md a.toNat p.toNat = a.toNat := M.md_small (by omega) ((M.blen_le _ _).1 (by omega))
  have HMD := Lib.hid hmd
  clear hmd
  have hla : M.blen a.toNat ≤ 64 := (M.blen_le _ _).2 (by omega)
  have hlp : M.blen p.toNat ≤ 32 := (M.blen_le _ _).2 (by omega)
  have ha32 : a ≤ 4294967295 := by
    have := (M.blen_le a.toNat 32).1 (by omega)
    omega
  have hmf : ∀ (fn : Fn) (first cap : Array Value) (w : World), (Instr.makeFunc fn first cap).run Try.prog w = .ok (.func fn first cap) w := fun _ _ _ _ => rfl
  have hp : (p == 0) = false := by simp; omega
  go_enter Try.func54, Try.ntmps54
  go_wp2_with fail
  refine (deg10 _ _ a0 a1).mono ?_
  rintro e w' ⟨rfl, rfl⟩
  go_wp2_with fail
  refine (deg10 _ _ (by omega) (by omega)).mono ?_
  rintro e w' ⟨rfl, rfl⟩
  generalize hA : M.blen a.toNat = la at *
  generalize hP : M.blen p.toNat = lp at *
  clear hA hP
  go_wp2_with fail
  refine wp_loop_rounds 1 ?_
  rw [rounds_succ]
  go_wp2_with fail
  go_ret
  refine ⟨ret_int ?_, (Below.refl _ _).alloc (Nat.le_refl _) _⟩
  rw [HMD.out]
  omega

set_option maxRecDepth 100000 in
theorem mod14_zero (a : Int) (w : World) :
    Calls Try.prog 54 #[.int .u64 a, .int .u32 0] w fun e w' => e = .returned (.int .u32 0) ∧ w = w' := by
  go_enter Try.func54, Try.ntmps54
  go_wp2
  go_ret
  exact ⟨rfl, rfl⟩

theorem mod14 (a p : Int) (w : World) (a0 : 0 ≤ a) (a1 : a ≤ 18446744073709551615) (p0 : 0 ≤ p) (p1 : p ≤ 4294967295) :
    Calls Try.prog 54 #[.int .u64 a, .int .u32 p] w fun e w' => e = .returned (.int .u32 (M.md a.toNat p.toNat)) ∧ Below w.heap.size w w' := by
  by_cases hz : p = 0
  · subst hz
    refine (mod14_zero a w).mono ?_
    rintro e w' ⟨rfl, rfl⟩
    exact ⟨ret_int (by simp [M.md_zero_right]), Below.refl _ _⟩
  · by_cases hle : M.blen p.toNat ≤ M.blen a.toNat
    · exact mod14_loop a p w a0 a1 (by omega) p1 hle
    · exact mod14_short a p w a0 a1 (by omega) p1 (by omega)

theorem md_bound (a p : Int) (p0 : 0 ≤ p) (p1 : p ≤ 4294967295) : (M.md a.toNat p.toNat : Int) ≤ 4294967295 := by
  by_cases hz : p.toNat = 0
  · rw [hz, M.md_zero_right]; decide
  · have h := M.md_lt hz a.toNat
    have hl : M.blen p.toNat ≤ 32 := (M.blen_le _ _).2 (by omega)
    have := Nat.lt_of_lt_of_le h (Nat.pow_le_pow_right (n := 2) (by decide) (show M.blen p.toNat - 1 ≤ 32 by omega))
    omega

theorem mul_bound (a b : Int) (a1 : a ≤ 4294967295) (b1 : b ≤ 4294967295) : (M.mul a.toNat b.toNat : Int) ≤ 18446744073709551615 := by
  have h := M.mul_lt (a := a.toNat) (b := b.toNat) (l := 32) (k := 32) (by omega) (by omega)
  omega

set_option maxRecDepth 100000 in
theorem mulmod16 (a b p : Int) (w : World) (a0 : 0 ≤ a) (a1 : a ≤ 4294967295) (b0 : 0 ≤ b) (b1 : b ≤ 4294967295) (p0 : 0 ≤ p) (p1 : p ≤ 4294967295) :
    Calls Try.prog 56 #[.int .u32 a, .int .u32 b, .int .u32 p] w fun e w' => e = .returned (.int .u32 (M.md (M.mul a.toNat b.toNat) p.toNat)) ∧ Below w.heap.size w w' := by
  have hm := mul_bound a b a1 b1
  go_enter Try.func56, Try.ntmps56
  go_wp2_with fail
  refine (mul12 _ _ _ a0 a1 b0 b1).mono ?_
  rintro e w1 ⟨rfl, hb1⟩
  have H1 := Lib.hid hb1
  clear hb1
  go_wp2_with fail
  refine (mod14 _ _ _ (by omega) hm p0 p1).mono ?_
  rintro e w2 ⟨rfl, hb2⟩
  rw [Int.toNat_natCast]
  have H2 := Lib.hid hb2
  clear hb2
  go_wp2_with fail
  go_ret
  exact ⟨rfl, H1.out.trans (H2.out.mono H1.out.size)⟩
end Go.Proofs.Ytomlfmfahlcedaa
