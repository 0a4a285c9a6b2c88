/- Contracts of the lowest functions: the degree; the two closures that ask a bit, and the function that makes one. The contract of poly.Mul. The contract of poly.Mod. The contract of poly.Irreducible. The contract of poly.powerOfX. The contract of poly.primesOf. The contract of poly.Primitive. -/
import Derived.Test.YtgdgimknnjbieaaGreatDoorLen
import Derived.WalkKit
import Derived.WalkSpells
import Derived.Lib.Hide
import Derived.RegionTactic
import Derived.ChangeAlike
import Derived.Test.YtgdgimknnjbieaaGreatDoorGxa

namespace Go.Proofs.YtgdgimknnjbieaaGreatDoor
open Go.RowKit

theorem bit_ask (n k : Int) (h0 : 0 ≤ n) (h1 : n ≤ 18446744073709551615) : (bits BinOp.and IntKind.u64 (n / 2 ^ k.toNat) 1 == 1) = n.toNat.testBit k.toNat := by
  obtain ⟨N, rfl⟩ := Int.eq_ofNat_of_zero_le h0
  have e : ((N : Int) / 2 ^ k.toNat) = ((N / 2 ^ k.toNat : Nat) : Int) := by simp
  have hd : N / 2 ^ k.toNat ≤ N := Nat.div_le_self _ _
  rw [e, show (1 : Int) = ((1 : Nat) : Int) from rfl, u64_and_nat _ _ (by omega) (by omega), Nat.and_one_is_mod, Int.toNat_natCast, Nat.testBit_eq_decide_div_mod_eq]
  generalize N / 2 ^ k.toNat % 2 = r
  rw [Bool.eq_iff_iff]
  simp
  omega

set_option maxRecDepth 100000 in
theorem bit29 (n k : Int) (a : Addr) (w : World) (hc : w.cell? a = some (.int .u64 n)) (hk0 : 0 ≤ k) (hk : k < 64) (h0 : 0 ≤ n) (h1 : n ≤ 18446744073709551615) :
    Calls Tryz.prog 187 #[.int .i64 k, .pointer (some a)] w fun e w' => e = .returned (.bool (n.toNat.testBit k.toNat)) ∧ w = w' := by
  have hb := Lib.hid (bit_ask n k h0 h1)
  go_enter Tryz.func187, Tryz.ntmps187
  go_wp2
  go_ret
  exact ⟨by rw [hb.out]; rfl, rfl⟩

set_option maxRecDepth 100000 in
theorem bit25 (n k : Int) (a : Addr) (w : World) (hc : w.cell? a = some (.int .u64 n)) (hk0 : 0 ≤ k) (hk : k < 64) (h0 : 0 ≤ n) (h1 : n ≤ 18446744073709551615) :
    Calls Tryz.prog 186 #[.int .i64 k, .pointer (some a)] w fun e w' => e = .returned (.bool (n.toNat.testBit k.toNat)) ∧ w = w' := by
  have hb := Lib.hid (bit_ask n k h0 h1)
  go_enter Tryz.func186, Tryz.ntmps186
  go_wp2
  go_ret
  exact ⟨by rw [hb.out]; rfl, rfl⟩

set_option maxRecDepth 100000 in
theorem bits24 (n : Int) (w : World) :
    Calls Tryz.prog 176 #[.int .u64 n] w fun e w' => e = .returned (.func (.func 187) #[] #[.pointer (some ⟨w.heap.size, 0, none⟩)]) ∧ w.alloc (.cells #[.int .u64 n] 144) = w' := by
  have hmf : ∀ (fn : Fn) (first cap : Array Value) (w : World), (Instr.makeFunc fn first cap).run Tryz.prog w = .ok (.func fn first cap) w := fun _ _ _ _ => rfl
  go_enter Tryz.func176, Tryz.ntmps176
  go_wp2
  go_ret
  exact ⟨rfl, rfl⟩

set_option maxRecDepth 100000 in
theorem deg10 (x : Int) (w : World) (h0 : 0 ≤ x) (h1 : x ≤ 18446744073709551615) :
    Calls Tryz.prog 101 #[.int .u64 x] w fun e w' => e = .returned (.int .i64 ((M.blen x.toNat : Int) - 1)) ∧ w = w' := by
  have hl : M.blen x.toNat ≤ 64 := (M.blen_le _ _).2 (by omega)
  generalize hm : M.blen x.toNat = m at *
  have hc : ∀ w, Calls Tryz.prog 147 #[.int .u64 x] w fun e w' => e = .returned (.int .i64 (m : Int)) ∧ w = w' := fun w => hm ▸ len64 x w h0 h1
  have HC := Lib.hid hc
  clear hc hm h0 h1
  go_enter Tryz.func101, Tryz.ntmps101
  go_wp2_with fail
  refine (HC.out _).mono ?_
  rintro e w' ⟨rfl, rfl⟩
  go_wp2
  go_ret
  exact ⟨rfl, rfl⟩
end Go.Proofs.YtgdgimknnjbieaaGreatDoor

namespace Go.Proofs.YtgdgimknnjbieaaGreatDoor
open Go.RowKit

theorem ret_int {k : IntKind} {a b : Int} (h : a = b) : Ending.returned (.int k a) = .returned (.int k b) := by rw [h]

theorem wrap64_nat (n : Nat) (h : n < 18446744073709551616) : IntKind.u64.wrap (n : Int) = (n : Int) := by
  rw [IntKind.wrap_u64]; omega

/-- what a shift to the left is, where nothing falls off -/
theorem shl_nat (a : Int) (k : Nat) (a0 : 0 ≤ a) (h : a.toNat <<< k < 18446744073709551616) : IntKind.u64.wrap (a * 2 ^ k) = ((a.toNat <<< k : Nat) : Int) := by
  obtain ⟨A, rfl⟩ := Int.eq_ofNat_of_zero_le a0
  rw [Int.toNat_natCast] at *
  rw [Nat.shiftLeft_eq] at *
  rw [show ((A : Int) * 2 ^ k) = ((A * 2 ^ k : Nat) : Int) by simp, wrap64_nat _ h]

theorem mul_step (a b : Int) (k : Nat) (a0 : 0 ≤ a) (a1 : a ≤ 4294967295) (hk : k < 32) (ht : b.toNat.testBit k = true) :
    bits BinOp.xor IntKind.u64 (M.mulTo a.toNat b.toNat k) (IntKind.u64.wrap (a * 2 ^ k)) = (M.mulTo a.toNat b.toNat (k + 1) : Nat) := by
  have ha : a.toNat < 2 ^ 32 := by omega
  have h1 : a.toNat <<< k < 2 ^ 64 := Nat.lt_of_lt_of_le (M.shl_lt ha) (Nat.pow_le_pow_right (by decide) (by omega))
  have h2 : M.mulTo a.toNat b.toNat k < 2 ^ 64 := Nat.lt_of_lt_of_le (M.mulTo_lt ha k) (Nat.pow_le_pow_right (by decide) (by omega))
  rw [shl_nat a k a0 h1, u64_xor_nat _ _ h2 h1, M.mulTo, ht]
  simp

theorem mul_skip (a b k : Nat) (ht : b.testBit k = false) : M.mulTo a b k = M.mulTo a b (k + 1) := by
  rw [M.mulTo, ht]; simp

set_option maxRecDepth 100000 in
set_option maxHeartbeats 1000000 in
theorem mul12 (a b : Int) (w : World) (a0 : 0 ≤ a) (a1 : a ≤ 4294967295) (b0 : 0 ≤ b) (b1 : b ≤ 4294967295) :
    Calls Tryz.prog 188 #[.int .u32 a, .int .u32 b] w fun e w' => e = .returned (.int .u64 (M.mul a.toNat b.toNat)) ∧ Below w.heap.size w w' := by
  have hl : M.blen b.toNat ≤ 32 := (M.blen_le _ _).2 (by omega)
  go_enter Tryz.func188, Tryz.ntmps188
  go_wp2_with fail
  refine (bits24 _ _).mono ?_
  rintro e w1 ⟨rfl, hw1⟩
  have hc : w1.cell? ⟨w.heap.size, 0, none⟩ = some (.int .u64 b) := by rw [← hw1]; simp
  have HB := Lib.hid (show Below w.heap.size w w1 by rw [← hw1]; exact (Below.refl _ _).alloc (Nat.le_refl _) _)
  clear hw1
  go_wp2_with fail
  refine (deg10 _ _ b0 (by omega)).mono ?_
  rintro e w' ⟨rfl, rfl⟩
  generalize hm : M.blen b.toNat = m at *
  have Hm := Lib.hid hm
  clear hm
  go_wp2_with fail
  go_loop [6, 15] (fun t i => ∃ k : Nat, k ≤ m ∧ i = .int .i64 k ∧ t = .int .u64 (M.mulTo a.toNat b.toNat k)) (fun _ i => m - (intOf i).toNat)
  case atStart => exact ⟨0, Nat.zero_le _, rfl, rfl⟩
  case round =>
    obtain ⟨k, hk, rfl, rfl⟩ := hrel
    by_cases hlt : k < m
    · go_wp2_with fail
      refine (bit29 b k _ _ hc (by omega) (by omega) b0 (by omega)).mono ?_
      rintro e w' ⟨rfl, rfl⟩
      go_wp2_with fail
      · exact ⟨⟨k + 1, by omega, by go_num, by rw [mul_step a b k a0 a1 (by omega) ‹_›]⟩, by simp [intOf]; omega⟩
      · exact ⟨⟨k + 1, by omega, by go_num, by rw [mul_skip _ _ k ‹_›]⟩, by simp [intOf]; omega⟩
    · go_wp2
      go_ret
      obtain rfl : k = m := by omega
      exact ⟨ret_int (by rw [M.mul, Hm.out]), HB.out⟩
end Go.Proofs.YtgdgimknnjbieaaGreatDoor

namespace Go.Proofs.YtgdgimknnjbieaaGreatDoor
open Go.RowKit

/-- where Mod's loop stands behind k of K rounds: the box holds r, of which as much is left -/
def ModAt (A P lp K : Nat) (w wr : World) (i : Value) : Prop :=
  ∃ k r : Nat, k ≤ K ∧ i = .int .i64 k ∧ wr.cell? ⟨w.heap.size, 0, none⟩ = some (.int .u64 r) ∧ wr.frozen? ⟨w.heap.size, 0, none⟩ = false ∧
    M.red P (lp - 1) (K - k) r = M.md A P ∧ r < 2 ^ (K - k + (lp - 1)) ∧ w.heap.size < wr.heap.size ∧ Below w.heap.size w wr

theorem mod_step {P lp j r X : Nat} {p : Int} (hp0 : 0 ≤ p) (hP : p.toNat = P) (hl : M.blen P = lp) (hlp : 0 < lp) (hj : j + lp ≤ 64) (hr : M.red P (lp - 1) (j + 1) r = X) (hrl : r < 2 ^ (j + 1 + (lp - 1)))
    (hbit : r.testBit (j + (lp - 1)) = true) :
    ∃ r' : Nat, bits BinOp.xor IntKind.u64 (r : Int) (IntKind.u64.wrap (p * 2 ^ j)) = (r' : Int) ∧ M.red P (lp - 1) j r' = X ∧ r' < 2 ^ (j + (lp - 1)) := by
  have hP0 : P ≠ 0 := by rintro rfl; rw [M.blen_zero] at hl; omega
  have lo := M.low_of hP0
  rw [hl] at lo
  have hs := M.step_lt lo.1 lo.2 hrl
  rw [hbit] at hs
  rw [M.red, hbit] at hr
  simp only [if_true] at hs hr
  have h1 : P <<< j < 2 ^ 64 := Nat.lt_of_lt_of_le (M.shl_lt lo.2) (Nat.pow_le_pow_right (by decide) (by omega))
  have h2 : r < 2 ^ 64 := Nat.lt_of_lt_of_le hrl (Nat.pow_le_pow_right (by decide) (by omega))
  refine ⟨r ^^^ P <<< j, ?_, hr, hs⟩
  subst hP
  rw [shl_nat p j hp0 h1, u64_xor_nat _ _ h2 h1]

theorem mod_skip {P lp j r X : Nat} (hr : M.red P (lp - 1) (j + 1) r = X) (hrl : r < 2 ^ (j + 1 + (lp - 1)))
    (hbit : r.testBit (j + (lp - 1)) = false) : M.red P (lp - 1) j r = X ∧ r < 2 ^ (j + (lp - 1)) := by
  rw [M.red, hbit] at hr
  rw [show j + 1 + (lp - 1) = j + (lp - 1) + 1 by omega] at hrl
  exact ⟨by simpa using hr, M.lt_of_tb_false hrl hbit⟩

theorem place_nat (la lp k : Nat) (h : k < la + 1 - lp) (h0 : 0 < lp) : ((la : Int) - 1 - k).toNat = (la - lp - k) + (lp - 1) := by omega

set_option maxRecDepth 100000 in
set_option maxHeartbeats 1000000 in
theorem mod14_loop (a p : Int) (w : World) (a0 : 0 ≤ a) (a1 : a ≤ 18446744073709551615) (p0 : 0 < p) (p1 : p ≤ 4294967295) (hle : M.blen p.toNat ≤ M.blen a.toNat) :
    Calls Tryz.prog 175 #[.int .u64 a, .int .u32 p] w fun e w' => e = .returned (.int .u32 (M.md a.toNat p.toNat)) ∧ Below w.heap.size w w' := by
  have hla : M.blen a.toNat ≤ 64 := (M.blen_le _ _).2 (by omega)
  have hlp : M.blen p.toNat ≤ 32 := (M.blen_le _ _).2 (by omega)
  have hlp0 : 0 < M.blen p.toNat := M.blen_pos (by omega)
  have hmf : ∀ (fn : Fn) (first cap : Array Value) (w : World), (Instr.makeFunc fn first cap).run Tryz.prog w = .ok (.func fn first cap) w := fun _ _ _ _ => rfl
  have hp : (p == 0) = false := by simp; omega
  go_enter Tryz.func175, Tryz.ntmps175
  go_wp2_with fail
  refine (deg10 _ _ a0 a1).mono ?_
  rintro e w' ⟨rfl, rfl⟩
  go_wp2_with fail
  refine (deg10 _ _ (by omega) (by omega)).mono ?_
  rintro e w' ⟨rfl, rfl⟩
  generalize hA : M.blen a.toNat = la at *
  generalize hP : M.blen p.toNat = lp at *
  have HA := Lib.hid hA
  have HP := Lib.hid hP
  clear hA hP
  go_wp2_with fail
  go_loopw [24] (fun i wr => ModAt a.toNat p.toNat lp (la + 1 - lp) w wr i) (fun i _ => la + 1 - lp - (intOf i).toNat)
  case atStart =>
    refine ⟨0, a.toNat, by omega, rfl, ?_, ?_, ?_, ?_, ?_, ?_⟩
    · rw [Int.toNat_of_nonneg a0]; simp
    · rw [frozen?_alloc_cells]; simp [World.frozen?]
    · rw [Nat.sub_zero, ← HA.out, ← HP.out, M.md, if_neg (by omega)]
    · exact Nat.lt_of_lt_of_le (M.lt_pow_blen _) (Nat.pow_le_pow_right (by decide) (by rw [HA.out]; omega))
    · simp
    · exact (Below.refl _ _).alloc (Nat.le_refl _) _
  case round =>
    obtain ⟨k, r, hk, rfl, hc, hf, hr, hrl, hz, hb⟩ := hrel
    have hr64 : r < 2 ^ 64 := Nat.lt_of_lt_of_le hrl (Nat.pow_le_pow_right (by decide) (by omega))
    have HR := Lib.hid hr
    have HRL := Lib.hid hrl
    have HBW := Lib.hid hb
    clear hr hrl hb
    by_cases hlt : k < la + 1 - lp
    · have hj : la + 1 - lp - k = (la - lp - k) + 1 := by omega
      have hj2 : la + 1 - lp - (k + 1) = la - lp - k := by omega
      have hj3 : la - 1 - k - (lp - 1) = la - lp - k := by omega
      rw [hj] at HR HRL
      have HJ2 := Lib.hid hj2
      have HJ3 := Lib.hid hj3
      clear hj hj2 hj3
      go_wp2_with fail
      refine (bit25 r ((la : Int) - 1 - k) _ _ hc (by omega) (by omega) (by omega) (by omega)).mono ?_
      rintro e w' ⟨rfl, rfl⟩
      rw [place_nat la lp k hlt hlp0, Int.toNat_natCast]
      cases hbit : r.testBit (la - lp - k + (lp - 1))
      · obtain ⟨n1, n2⟩ := mod_skip HR.out HRL.out hbit
        have N1 := Lib.hid n1
        have N2 := Lib.hid n2
        clear n1 n2 hbit
        go_wp2_with fail
        exact ⟨⟨k + 1, r, by omega, by go_num, hc, hf, by rw [HJ2.out]; exact N1.out, by rw [HJ2.out]; exact N2.out, hz, HBW.out⟩, by simp [intOf]; omega⟩
      · obtain ⟨r', n0, n1, n2⟩ := mod_step (p := p) (by omega) rfl HP.out hlp0 (by omega) HR.out HRL.out hbit
        have N0 := Lib.hid n0
        have N1 := Lib.hid n1
        have N2 := Lib.hid n2
        clear n0 n1 n2 hbit
        go_wp2_with fail
        go_region
        go_wp2_with fail
        refine ⟨⟨k + 1, r', by omega, by go_num, ?_, ?_, by rw [HJ2.out]; exact N1.out, by rw [HJ2.out]; exact N2.out, ?_, ?_⟩, by simp [intOf]; omega⟩
        · rw [HJ3.out, N0.out]; exact (show (wr.setCell ⟨w.heap.size, 0, none⟩ (.int .u64 r')).cell? ⟨w.heap.size, 0, none⟩ = some (.int .u64 r') from World.cell?_setCell_same _ _ _ hc)
        · exact (World.frozen?_setCell _ _ _ _).trans hf
        · simpa [World.setCell] using hz
        · exact (HBW.out.setCell (Nat.le_refl _) _).drew
    · go_wp2
      go_ret
      obtain rfl : k = la + 1 - lp := by omega
      have h1 := HR.out
      have h2 := HRL.out
      rw [Nat.sub_self] at h1 h2
      refine ⟨ret_int ?_, HBW.out⟩
      rw [← h1]
      have : r < 2 ^ 32 := Nat.lt_of_lt_of_le h2 (Nat.pow_le_pow_right (by decide) (by omega))
      show (r : Int) % 4294967296 = (r : Int)
      omega

set_option maxRecDepth 100000 in
set_option maxHeartbeats 1000000 in
theorem mod14_short (a p : Int) (w : World) (a0 : 0 ≤ a) (a1 : a ≤ 18446744073709551615) (p0 : 0 < p) (p1 : p ≤ 4294967295) (hle : M.blen a.toNat < M.blen p.toNat) :
    Calls Tryz.prog 175 #[.int .u64 a, .int .u32 p] w fun e w' => e = .returned (.int .u32 (M.md a.toNat p.toNat)) ∧ Below w.heap.size w w' := by
  have hmd : M.md a.toNat p.toNat = a.toNat := M.md_small (by omega) ((M.blen_le _ _).1 (by omega))
  have HMD := Lib.hid hmd
  clear hmd
  have hla : M.blen a.toNat ≤ 64 := (M.blen_le _ _).2 (by omega)
  have hlp : M.blen p.toNat ≤ 32 := (M.blen_le _ _).2 (by omega)
  have ha32 : a ≤ 4294967295 := by
    have := (M.blen_le a.toNat 32).1 (by omega)
    omega
  have hmf : ∀ (fn : Fn) (first cap : Array Value) (w : World), (Instr.makeFunc fn first cap).run Tryz.prog w = .ok (.func fn first cap) w := fun _ _ _ _ => rfl
  have hp : (p == 0) = false := by simp; omega
  go_enter Tryz.func175, Tryz.ntmps175
  go_wp2_with fail
  refine (deg10 _ _ a0 a1).mono ?_
  rintro e w' ⟨rfl, rfl⟩
  go_wp2_with fail
  refine (deg10 _ _ (by omega) (by omega)).mono ?_
  rintro e w' ⟨rfl, rfl⟩
  generalize hA : M.blen a.toNat = la at *
  generalize hP : M.blen p.toNat = lp at *
  clear hA hP
  go_wp2_with fail
  refine wp_loop_rounds 1 ?_
  rw [rounds_succ]
  go_wp2_with fail
  go_ret
  refine ⟨ret_int ?_, (Below.refl _ _).alloc (Nat.le_refl _) _⟩
  rw [HMD.out]
  omega

set_option maxRecDepth 100000 in
theorem mod14_zero (a : Int) (w : World) :
    Calls Tryz.prog 175 #[.int .u64 a, .int .u32 0] w fun e w' => e = .returned (.int .u32 0) ∧ w = w' := by
  go_enter Tryz.func175, Tryz.ntmps175
  go_wp2
  go_ret
  exact ⟨rfl, rfl⟩

theorem mod14 (a p : Int) (w : World) (a0 : 0 ≤ a) (a1 : a ≤ 18446744073709551615) (p0 : 0 ≤ p) (p1 : p ≤ 4294967295) :
    Calls Tryz.prog 175 #[.int .u64 a, .int .u32 p] w fun e w' => e = .returned (.int .u32 (M.md a.toNat p.toNat)) ∧ Below w.heap.size w w' := by
  by_cases hz : p = 0
  · subst hz
    refine (mod14_zero a w).mono ?_
    rintro e w' ⟨rfl, rfl⟩
    exact ⟨ret_int (by simp [M.md_zero_right]), Below.refl _ _⟩
  · by_cases hle : M.blen p.toNat ≤ M.blen a.toNat
    · exact mod14_loop a p w a0 a1 (by omega) p1 hle
    · exact mod14_short a p w a0 a1 (by omega) p1 (by omega)

theorem md_bound (a p : Int) (p0 : 0 ≤ p) (p1 : p ≤ 4294967295) : (M.md a.toNat p.toNat : Int) ≤ 4294967295 := by
  by_cases hz : p.toNat = 0
  · rw [hz, M.md_zero_right]; decide
  · have h := M.md_lt hz a.toNat
    have hl : M.blen p.toNat ≤ 32 := (M.blen_le _ _).2 (by omega)
    have := Nat.lt_of_lt_of_le h (Nat.pow_le_pow_right (n := 2) (by decide) (show M.blen p.toNat - 1 ≤ 32 by omega))
    omega

theorem mul_bound (a b : Int) (a1 : a ≤ 4294967295) (b1 : b ≤ 4294967295) : (M.mul a.toNat b.toNat : Int) ≤ 18446744073709551615 := by
  have h := M.mul_lt (a := a.toNat) (b := b.toNat) (l := 32) (k := 32) (by omega) (by omega)
  omega

set_option maxRecDepth 100000 in
theorem mulmod16 (a b p : Int) (w : World) (a0 : 0 ≤ a) (a1 : a ≤ 4294967295) (b0 : 0 ≤ b) (b1 : b ≤ 4294967295) (p0 : 0 ≤ p) (p1 : p ≤ 4294967295) :
    Calls Tryz.prog 177 #[.int .u32 a, .int .u32 b, .int .u32 p] w fun e w' => e = .returned (.int .u32 (M.md (M.mul a.toNat b.toNat) p.toNat)) ∧ Below w.heap.size w w' := by
  have hm := mul_bound a b a1 b1
  go_enter Tryz.func177, Tryz.ntmps177
  go_wp2_with fail
  refine (mul12 _ _ _ a0 a1 b0 b1).mono ?_
  rintro e w1 ⟨rfl, hb1⟩
  have H1 := Lib.hid hb1
  clear hb1
  go_wp2_with fail
  refine (mod14 _ _ _ (by omega) hm p0 p1).mono ?_
  rintro e w2 ⟨rfl, hb2⟩
  rw [Int.toNat_natCast]
  have H2 := Lib.hid hb2
  clear hb2
  go_wp2_with fail
  go_ret
  exact ⟨rfl, H1.out.trans (H2.out.mono H1.out.size)⟩
end Go.Proofs.YtgdgimknnjbieaaGreatDoor

namespace Go.Proofs.YtgdgimknnjbieaaGreatDoor
open Go.RowKit

set_option maxRecDepth 100000 in
set_option maxHeartbeats 1000000 in
theorem irr18_out (p : Int) (w : World) (p0 : 0 ≤ p) (p1 : p ≤ 4294967295) (h : M.blen p.toNat < 2 ∨ 17 < M.blen p.toNat) :
    Calls Tryz.prog 148 #[.int .u32 p] w fun e w' => e = .returned (.bool false) ∧ w = w' := by
  go_enter Tryz.func148, Tryz.ntmps148
  go_wp2_with fail
  refine (deg10 _ _ p0 (by omega)).mono ?_
  rintro e w' ⟨rfl, rfl⟩
  have hl : M.blen p.toNat ≤ 32 := (M.blen_le _ _).2 (by omega)
  generalize M.blen p.toNat = l at *
  by_cases h2 : l < 2
  · have : decide ((l : Int) - 1 < 1) = true := by simp; omega
    go_wp2
    go_ret
    exact ⟨rfl, rfl⟩
  · have : decide ((l : Int) - 1 < 1) = false := by simp; omega
    have : decide (16 < (l : Int) - 1) = true := by simp; omega
    go_wp2
    go_ret
    exact ⟨rfl, rfl⟩

def IrrAt (P N : Nat) (w wr : World) (i : Value) : Prop := ∃ k : Nat, k ≤ N ∧ i = .int .u32 k ∧ M.noDiv P k = true ∧ Below w.heap.size w wr

theorem noDiv_false' {p n m : Nat} (h2 : 2 ≤ n) (hm : n < m) (h : M.md p n = 0) : M.noDiv p m = false := M.noDiv_false h2 hm h

set_option maxRecDepth 100000 in
set_option maxHeartbeats 1000000 in
theorem irr18_in (p : Int) (w : World) (p0 : 0 ≤ p) (p1 : p ≤ 4294967295) (h2 : 2 ≤ M.blen p.toNat) (h17 : M.blen p.toNat ≤ 17) :
    Calls Tryz.prog 148 #[.int .u32 p] w fun e w' => e = .returned (.bool (M.noDiv p.toNat (2 ^ ((M.blen p.toNat - 1) / 2 + 1)))) ∧ Below w.heap.size w w' := by
  go_enter Tryz.func148, Tryz.ntmps148
  go_wp2_with fail
  refine (deg10 _ _ p0 (by omega)).mono ?_
  rintro e w' ⟨rfl, rfl⟩
  generalize hL : M.blen p.toNat = l at *
  have HL := Lib.hid hL
  clear hL
  have d1 : decide ((l : Int) - 1 < 1) = false := by simp; omega
  have d2 : decide (16 < (l : Int) - 1) = false := by simp; omega
  go_wp2_with fail
  obtain ⟨N, hN, hN9⟩ : ∃ N : Nat, N = 2 ^ ((l - 1) / 2 + 1) ∧ N ≤ 512 := ⟨_, rfl, show 2 ^ ((l - 1) / 2 + 1) ≤ 2 ^ 9 from Nat.pow_le_pow_right (by decide) (by omega)⟩
  have e : (2 : Int) ^ ((l - 1) / 2 + 1) % 4294967296 = (N : Int) := by
    rw [show (2 : Int) ^ ((l - 1) / 2 + 1) = ((2 ^ ((l - 1) / 2 + 1) : Nat) : Int) by simp, ← hN]; omega
  rw [e]
  have HN := Lib.hid hN
  clear e hN
  go_loopw [18] (fun i wr => IrrAt p.toNat N w wr i) (fun i _ => N - (intOf i).toNat)
  case atStart => exact ⟨0, by omega, rfl, rfl, Below.refl _ _⟩
  case round =>
    obtain ⟨k, hk, rfl, hnd, hb⟩ := hrel
    have HND := Lib.hid hnd
    have HB := Lib.hid hb
    clear hnd hb
    by_cases hlt : k < N
    · go_wp2_with fail
      refine (deg10 _ _ (by omega) (by omega)).mono ?_
      rintro e w' ⟨rfl, rfl⟩
      rw [Int.toNat_natCast]
      have hbl : M.blen k ≤ 64 := (M.blen_le _ _).2 (Nat.lt_of_lt_of_le (show k < 2 ^ 9 by omega) (by decide))
      have hb2 : 2 ≤ M.blen k ↔ 2 ≤ k := by have := M.lt_blen k 1; omega
      generalize M.blen k = lk at *
      by_cases hk2 : 2 ≤ k
      · have d3 : decide (1 ≤ (lk : Int) - 1) = true := by simp; omega
        have d4 : 1 ≤ (lk : Int) - 1 := by omega
        clear hb2
        go_wp2_with fail
        refine (mod14 _ _ _ p0 (by omega) (by omega) (by omega)).mono ?_
        rintro e w2 ⟨rfl, hb2⟩
        rw [Int.toNat_natCast]
        have H2 := Lib.hid (HB.out.trans (hb2.mono HB.out.size))
        clear hb2
        by_cases hz : M.md p.toNat k = 0
        · have hr := noDiv_false' hk2 hlt hz
          have HR := Lib.hid hr
          clear hr
          have hd : ((M.md p.toNat k : Int) == 0) = true := by simp [hz]
          clear hz
          generalize M.md p.toNat k = m at *
          go_wp2_with fail
          go_ret
          exact ⟨by rw [HL.out, ← HN.out, HR.out]; rfl, H2.out⟩
        · have hr := M.noDiv_succ HND.out (Or.inr hz)
          have HR := Lib.hid hr
          clear hr
          have hd : ((M.md p.toNat k : Int) == 0) = false := by simpa using hz
          clear hz
          generalize M.md p.toNat k = m at *
          go_wp2_with fail
          exact ⟨⟨k + 1, by omega, by go_num, HR.out, H2.out⟩, by simp [intOf]; omega⟩
      · have d3 : decide (1 ≤ (lk : Int) - 1) = false := by simp; omega
        have hr := M.noDiv_succ HND.out (Or.inl (show k < 2 by omega))
        have HR := Lib.hid hr
        clear hr hb2
        go_wp2_with fail
        exact ⟨⟨k + 1, by omega, by go_num, HR.out, HB.out⟩, by simp [intOf]; omega⟩
    · go_wp2_with fail
      go_ret
      obtain rfl : k = N := by omega
      exact ⟨by rw [HL.out, ← HN.out, HND.out]; rfl, HB.out⟩

theorem irr18 (p : Int) (w : World) (p0 : 0 ≤ p) (p1 : p ≤ 4294967295) :
    Calls Tryz.prog 148 #[.int .u32 p] w fun e w' => e = .returned (.bool (M.irr p.toNat)) ∧ Below w.heap.size w w' := by
  by_cases h : M.blen p.toNat < 2 ∨ 17 < M.blen p.toNat
  · refine (irr18_out p w p0 p1 h).mono ?_
    rintro e w' ⟨rfl, rfl⟩
    have : M.irr p.toNat = false := by
      unfold M.irr
      rcases h with h | h
      · simp [show ¬ 2 ≤ M.blen p.toNat by omega]
      · simp [show ¬ M.blen p.toNat ≤ 17 by omega]
    exact ⟨by rw [this], Below.refl _ _⟩
  · refine (irr18_in p w p0 p1 (by omega) (by omega)).mono ?_
    rintro e w' ⟨rfl, hb⟩
    have : M.irr p.toNat = M.noDiv p.toNat (2 ^ ((M.blen p.toNat - 1) / 2 + 1)) := by
      unfold M.irr
      simp [show 2 ≤ M.blen p.toNat by omega, show M.blen p.toNat ≤ 17 by omega]
    exact ⟨by rw [this], hb⟩
end Go.Proofs.YtgdgimknnjbieaaGreatDoor

namespace Go.Proofs.YtgdgimknnjbieaaGreatDoor
open Go.RowKit

theorem pw_bound (a n : Nat) (p : Int) (p0 : 0 ≤ p) (p1 : p ≤ 4294967295) : (M.pw a p.toNat n : Int) ≤ 4294967295 := by
  have := md_bound (M.pw a p.toNat n : Int) p p0 p1
  rwa [Int.toNat_natCast, M.pw_md] at this

def PoxAt (N P m : Nat) (w wr : World) (t i : Value) : Prop :=
  ∃ k : Nat, k ≤ m ∧ i = .int .i64 k ∧ t = .int .u32 (M.pw 2 P (N >>> (m - k))) ∧ wr.cell? ⟨w.heap.size, 0, none⟩ = some (.int .u64 N) ∧ w.heap.size < wr.heap.size ∧ Below w.heap.size w wr

set_option maxRecDepth 100000 in
set_option maxHeartbeats 1000000 in
theorem pox27 (n p : Int) (w : World) (n0 : 0 ≤ n) (n1 : n ≤ 4294967295) (p0 : 0 ≤ p) (p1 : p ≤ 4294967295) :
    Calls Tryz.prog 149 #[.int .u32 n, .int .u32 p] w fun e w' => e = .returned (.int .u32 (M.pw 2 p.toNat n.toNat)) ∧ Below w.heap.size w w' := by
  have hl : M.blen n.toNat ≤ 32 := (M.blen_le _ _).2 (by omega)
  go_enter Tryz.func149, Tryz.ntmps149
  go_wp2_with fail
  refine (bits24 _ _).mono ?_
  rintro e w1 ⟨rfl, hw1⟩
  have hc : w1.cell? ⟨w.heap.size, 0, none⟩ = some (.int .u64 n) := by rw [← hw1]; simp
  have hz : w.heap.size < w1.heap.size := by rw [← hw1]; simp
  have HB := Lib.hid (show Below w.heap.size w w1 by rw [← hw1]; exact (Below.refl _ _).alloc (Nat.le_refl _) _)
  clear hw1
  go_wp2_with fail
  refine (deg10 _ _ n0 (by omega)).mono ?_
  rintro e w' ⟨rfl, rfl⟩
  generalize hm : M.blen n.toNat = m at *
  have Hm := Lib.hid hm
  clear hm
  go_wp2_with fail
  refine (mod14 _ _ _ (by omega) (by omega) p0 p1).mono ?_
  rintro e w2 ⟨rfl, hb2⟩
  have hc2 := (hb2.cell (p := ⟨w.heap.size, 0, none⟩) hz).trans hc
  have hz2 : w.heap.size < w2.heap.size := Nat.lt_of_lt_of_le hz hb2.size
  have HB2 := Lib.hid (HB.out.trans (hb2.mono (Nat.le_of_lt hz)))
  clear hb2 hc hz HB
  go_wp2_with fail
  go_loopw [7, 19] (fun t i wr => PoxAt n.toNat p.toNat m w wr t i) (fun _ i _ => m - (intOf i).toNat)
  case atStart =>
    refine ⟨0, Nat.zero_le _, rfl, ?_, ?_, hz2, HB2.out⟩
    · rw [Nat.sub_zero, ← Hm.out, Nat.shiftRight_eq_div_pow, Nat.div_eq_of_lt (M.lt_pow_blen _)]; rfl
    · rw [hc2, Int.toNat_of_nonneg n0]
  case round =>
    obtain ⟨k, hk, rfl, rfl, hc, hz, hb⟩ := hrel
    have HB := Lib.hid hb
    clear hb
    rw [Int.toNat_of_nonneg n0] at hc
    by_cases hlt : k < m
    · have hs := M.pw_shift (a := 2) (p := p.toNat) (n := n.toNat) hlt
      have hpb := pw_bound 2 (n.toNat >>> (m - k)) p p0 p1
      generalize M.pw 2 p.toNat (n.toNat >>> (m - k)) = r at *
      generalize hnx : M.pw 2 p.toNat (n.toNat >>> (m - (k + 1))) = nx at *
      have HNX := Lib.hid hnx
      have HS := Lib.hid hs
      clear hnx hs
      go_wp2_with fail
      refine (mulmod16 _ _ _ _ (by omega) hpb (by omega) hpb p0 p1).mono ?_
      rintro e w3 ⟨rfl, hb3⟩
      have hc3 := (hb3.cell (p := ⟨w.heap.size, 0, none⟩) hz).trans hc
      have hz3 : w.heap.size < w3.heap.size := Nat.lt_of_lt_of_le hz hb3.size
      have HB3 := Lib.hid (HB.out.trans (hb3.mono (Nat.le_of_lt hz)))
      clear hb3 hc hz HB
      have hsb := md_bound (M.mul r r : Int) p p0 p1
      rw [Int.toNat_natCast] at *
      generalize M.md (M.mul r r) p.toNat = s at *
      go_wp2_with fail
      refine (bit29 n ((m : Int) - 1 - k) _ _ hc3 (by omega) (by omega) n0 (by omega)).mono ?_
      rintro e w' ⟨rfl, rfl⟩
      rw [show ((m : Int) - 1 - k).toNat = m - 1 - k by omega]
      cases hbit : n.toNat.testBit (m - 1 - k)
      · have h2 := HS.out
        rw [hbit] at h2
        have HN := Lib.hid (show nx = s by simpa using h2)
        clear h2 hbit
        go_wp2_with fail
        exact ⟨⟨k + 1, by omega, by go_num, by rw [HNX.out, HN.out], by rw [Int.toNat_of_nonneg n0]; exact hc3, hz3, HB3.out⟩, by simp [intOf]; omega⟩
      · have h2 := HS.out
        rw [hbit] at h2
        have HN := Lib.hid (show nx = M.md (M.mul s 2) p.toNat by simpa using h2)
        clear h2 hbit
        go_wp2_with fail
        refine (mulmod16 _ _ _ _ (by omega) hsb (by omega) (by omega) p0 p1).mono ?_
        rintro e w4 ⟨rfl, hb4⟩
        have hc4 := (hb4.cell (p := ⟨w.heap.size, 0, none⟩) hz3).trans hc3
        have hz4 : w.heap.size < w4.heap.size := Nat.lt_of_lt_of_le hz3 hb4.size
        have HB4 := Lib.hid (HB3.out.trans (hb4.mono (Nat.le_of_lt hz3)))
        clear hb4 hc3 hz3 HB3
        go_wp2_with fail
        exact ⟨⟨k + 1, by omega, by go_num, by rw [HNX.out, HN.out], by rw [Int.toNat_of_nonneg n0]; exact hc4, hz4, HB4.out⟩, by simp [intOf]; omega⟩
    · go_wp2
      go_ret
      obtain rfl : k = m := by omega
      exact ⟨ret_int (by rw [Nat.sub_self]; rfl), HB.out⟩
end Go.Proofs.YtgdgimknnjbieaaGreatDoor

namespace Go.Proofs.YtgdgimknnjbieaaGreatDoor
open Go.RowKit

theorem info23 : (Tryz.prog.info? 66).map (fun i => (i.zero, i.size, i.bytes)) = some (some (.int .u32 0), 1, 4) := by kernel_rfl

def u32s (l : List Nat) : List Value := l.map fun (x : Nat) => Value.int .u32 (x : Int)

def PrmAt (N : Nat) (w wr : World) (tn v tq : Value) : Prop :=
  ∃ (n q : Nat) (l : List Nat), tn = .int .u32 n ∧ tq = .int .u32 q ∧ n ≤ 65535 ∧ q ≤ 65536 ∧ M.PrimInv N n q l ∧ wr.ownsRow w.heap.size 66 1 v l.length (u32s l) ∧ Below w.heap.size w wr

def InrAt (N q : Nat) (l : List Nat) (tn : Value) : Prop := ∃ n : Nat, tn = .int .u32 n ∧ n ≤ 65535 ∧ M.InnerInv N n q l

/-- what primesOf leaves: the primes of n, in memory of its own -/
def PrmPost (N : Nat) (w : World) (e : Ending) (w' : World) : Prop :=
  ∃ (v : Value) (l : List Nat), e = .returned v ∧ M.Primes N l ∧ l.length ≤ 65535 ∧ w'.ownsRow w.heap.size 66 1 v l.length (u32s l) ∧ Below w.heap.size w w'

theorem u32s_snoc (l : List Nat) (q : Nat) : u32s (l ++ [q]) = u32s l ++ [.int .u32 (q : Int)] := by simp [u32s]

set_option maxRecDepth 100000 in
set_option maxHeartbeats 2000000 in
theorem prm28 (n : Int) (w : World) (n0 : 1 ≤ n) (n1 : n ≤ 65535) :
    Calls Tryz.prog 150 #[.int .u32 n] w (PrmPost n.toNat w) := by
  obtain ⟨i0, hi, hz0, hz1, hz2⟩ := info_parts info23
  obtain ⟨N, rfl⟩ := Int.eq_ofNat_of_zero_le (show 0 ≤ n by omega)
  go_enter Tryz.func150, Tryz.ntmps150
  go_wp2_with fail
  go_loopw [0, 3, 4] (fun tn v tq wr => PrmAt N w wr tn v tq) (fun _ _ tq _ => 65536 - (intOf tq).toNat)
  case atStart => exact ⟨N, 2, [], rfl, rfl, by omega, by omega, M.PrimInv.start (by omega), (World.ownsRow_nil w w.heap.size 66 1 :), Below.refl _ _⟩
  case round =>
    obtain ⟨n, q, l, rfl, rfl, hn, hq, hinv, hown, hb⟩ := hrel
    have HI := Lib.hid hinv
    have HO := Lib.hid hown
    have HB := Lib.hid hb
    have hp := hinv.pos
    have h2 := hinv.two
    have hln := hinv.len
    clear hown
    by_cases hlt : q ≤ n
    · by_cases hd : n % q = 0
      · have hid := hinv.inner hd
        have HID := Lib.hid hid
        have hsz := hb.size
        clear hid hinv hb
        go_wp2_with (at_builtin; refine wpList_append_own _ rfl _ _ 193 rfl w.heap.size 66 i0 (.int .u32 0) 1 4 Tryz.underlying193 hi hz0 hz1 hz2 rfl (by decide) _ _ _ rfl (HO.out.alloc _) ⟨wr.heap.size, 0, none⟩ 1 1 [.int .u32 (q : Int)] rfl rfl ?c1 ?c2 ?c3 ?c4 ?c5 ?_)
        case c1 =>
          intro j u hj
          match j, hj with
          | 0, hj => simp at hj; subst hj; simp [Addr.add]
        case c2 => intro u hu; simp at hu; subst hu; rfl
        case c3 => unfold maxLen; omega
        case c4 => omega
        case c5 => simp; omega
        intro v' w1 hown' hgrow _
        have hb1 := (HB.out.alloc hsz (.cells #[.int .u32 (q : Int)] 66)).grown hgrow (by simp; omega) (fun k hk => (HO.out.lt k hk).1)
        have HB1 := Lib.hid hb1
        rw [← u32s_snoc, show l.length + 1 = (l ++ [q]).length by simp] at hown'
        have HO1 := Lib.hid hown'
        clear hown' hgrow hb1 HO HB
        go_wp2_with fail
        go_loop [0] (fun tn => InrAt N q (l ++ [q]) tn) (fun tn => (intOf tn).toNat)
        case atStart => exact ⟨n, rfl, hn, HID.out⟩
        case round =>
          obtain ⟨m, rfl, hm, hin⟩ := hrel
          have HIN := Lib.hid hin
          have hp := hin.pos
          clear hin hd
          by_cases hd : m % q = 0
          · have hs := HIN.out.step hd
            have HS := Lib.hid hs
            have hlt2 : m / q < m := Nat.div_lt_self hp h2
            have HE := Lib.hid (show ((m : Int) / (q : Int) % 4294967296) = ((m / q : Nat) : Int) by rw [← Int.natCast_ediv]; generalize m / q = z at *; omega)
            clear hs
            go_wp2_with fail
            rw [HE.out]
            exact ⟨⟨m / q, rfl, by omega, HS.out⟩, by show ((m / q : Nat) : Int).toNat < ((m : Nat) : Int).toNat; rw [Int.toNat_natCast, Int.toNat_natCast]; exact hlt2⟩
          · have hs := HIN.out.done hd
            have HS := Lib.hid hs
            clear hs
            go_wp2_with fail
            exact ⟨⟨m, q + 1, l ++ [q], rfl, by go_num, hm, by omega, HS.out, HO1.out, HB1.out⟩, by simp [intOf]; omega⟩
      · have hs := hinv.skip hd
        have HS := Lib.hid hs
        clear hs hinv hb
        go_wp2_with fail
        exact ⟨⟨n, q + 1, l, rfl, by go_num, hn, by omega, HS.out, HO.out, HB.out⟩, by simp [intOf]; omega⟩
    · have hs := hinv.primes (by omega)
      have HS := Lib.hid hs
      clear hs hinv hb
      go_wp2_with fail
      go_ret
      exact ⟨_, l, rfl, HS.out, by omega, HO.out, HB.out⟩
end Go.Proofs.YtgdgimknnjbieaaGreatDoor

namespace Go.Proofs.YtgdgimknnjbieaaGreatDoor
open Go.RowKit

/-- a bool that says whether P holds; memory only grew -/
def Says (P : Prop) (w : World) (e : Ending) (w' : World) : Prop := ∃ b : Bool, e = .returned (.bool b) ∧ (b = true ↔ P) ∧ Below w.heap.size w w'

theorem Says.yes {P : Prop} {w w' : World} (h : P) (hb : Below w.heap.size w w') : Says P w (.returned (.bool true)) w' := ⟨true, rfl, by simp [h], hb⟩
theorem Says.no {P : Prop} {w w' : World} (h : ¬ P) (hb : Below w.heap.size w w') : Says P w (.returned (.bool false)) w' := ⟨false, rfl, by simp [h], hb⟩

def PrAt (P c g : Nat) (l : List Nat) (w wr : World) (i : Value) : Prop :=
  ∃ k : Nat, k ≤ l.length ∧ i = .int .i64 k ∧ (∀ x, x ∈ l.take k → M.pw 2 P (c / x) ≠ 1) ∧ (∀ j (h : j < l.length), wr.cell? ⟨g, j, none⟩ = some (.int .u32 (l[j] : Nat))) ∧ g < wr.heap.size ∧ Below w.heap.size w wr

set_option maxRecDepth 100000 in
set_option maxHeartbeats 2000000 in
theorem prim20_in (p : Int) (w : World) (p0 : 0 ≤ p) (p1 : p ≤ 4294967295) (hirr : M.irr p.toNat = true) :
    Calls Tryz.prog 102 #[.int .u32 p] w (Says (M.Prim p.toNat) w) := by
  have hbl := M.irr_blen hirr
  have HPI := Lib.hid (fun l => M.prim_iff (l := l) hirr)
  have HI := Lib.hid hirr
  clear hirr
  go_enter Tryz.func102, Tryz.ntmps102
  go_wp2_with fail
  refine (irr18 _ _ p0 p1).mono ?_
  rintro e w1 ⟨rfl, hb1⟩
  rw [HI.out]
  have HB1 := Lib.hid hb1
  clear hb1
  go_wp2_with fail
  refine (deg10 _ _ p0 (by omega)).mono ?_
  rintro e w' ⟨rfl, rfl⟩
  generalize hlb : M.blen p.toNat = l at *
  have HLB := Lib.hid hlb
  clear hlb
  go_wp2_with fail
  obtain ⟨c, hc, c1, c2⟩ : ∃ c : Nat, 2 ^ (l - 1) - 1 = c ∧ 1 ≤ c ∧ c ≤ 65535 := by
    refine ⟨_, rfl, ?_, ?_⟩
    · have : 2 ^ 1 ≤ 2 ^ (l - 1) := Nat.pow_le_pow_right (by decide) (by omega)
      omega
    · have : 2 ^ (l - 1) ≤ 2 ^ 16 := Nat.pow_le_pow_right (by decide) (by omega)
      omega
  have e0 : (2 : Int) ^ (l - 1) = (c : Int) + 1 := by
    rw [show (2 : Int) ^ (l - 1) = ((2 ^ (l - 1) : Nat) : Int) by simp]
    have := Nat.two_pow_pos (l - 1)
    omega
  rw [e0, show ((c : Int) + 1 - 1) % 4294967296 = (c : Int) by omega, show ((c : Int) + 1) % 4294967296 = (c : Int) + 1 by omega, show ((c : Int) + 1 - 1) % 4294967296 = (c : Int) by omega]
  rw [hc] at HPI
  have HC := Lib.hid hc
  clear e0 hc
  refine (pox27 _ _ _ (by omega) (by omega) p0 p1).mono ?_
  rintro e w2 ⟨rfl, hb2⟩
  rw [Int.toNat_natCast]
  have HB2 := Lib.hid (HB1.out.trans (hb2.mono HB1.out.size))
  clear hb2
  by_cases h1 : M.pw 2 p.toNat c = 1
  · rw [h1]
    go_wp2_with fail
    refine (prm28 _ _ (by omega) (by omega)).mono ?_
    rintro e w3 ⟨v, L, rfl, hL, hLn, hown, hb3⟩
    have HL := Lib.hid hL
    have HB3 := Lib.hid (HB2.out.trans (hb3.mono HB2.out.size))
    clear hL hb3
    have hown2 := hown
    rcases hown2 with ⟨_, ⟨rfl, h0⟩ | ⟨g, cap, cur, rfl, hg, hcell, hcap, hcm, hcz, htk⟩⟩
    · have hpr : M.Prim p.toNat := by
        obtain rfl : L = [] := List.eq_nil_of_length_eq_zero h0
        exact (HPI.out [] HL.out).2 ⟨h1, by simp⟩
      have HPR := Lib.hid hpr
      clear hpr hown h0 h1
      go_wp2_with fail
      refine wp_loop_rounds 1 ?_
      rw [rounds_succ]
      go_wp2_with fail
      go_ret
      exact Says.yes HPR.out HB3.out
    · have hcl : ∀ j (h : j < L.length), w3.cell? ⟨g, j, none⟩ = some (.int .u32 (L[j] : Nat)) := fun j h => by
        have := hown.cells (g := g) rfl j (.int .u32 (L[j] : Nat)) (by simp [u32s, h])
        by_cases hj : j = 0
        · subst hj; simpa [Addr.add] using this
        · simpa [Addr.add, hj] using this
      have hgz : g < w3.heap.size := (hown.lt g rfl).2
      have hle := HL.out.1
      have HLE := Lib.hid hle
      have HCL := Lib.hid hcl
      have HH1 := Lib.hid h1
      clear hown hcell hcz htk hcl hle h1
      go_wp2_with fail
      go_loopw [21] (fun i wr => PrAt p.toNat c g L w wr i) (fun i _ => L.length - (intOf i).toNat)
      case atStart => exact ⟨0, by omega, rfl, by simp, HCL.out, hgz, HB3.out⟩
      case round =>
        clear HCL HB3 hgz
        obtain ⟨k, hk, rfl, hall, hcl, hgz, hb⟩ := hrel
        have HCL := Lib.hid hcl
        have HA := Lib.hid hall
        have HB := Lib.hid hb
        clear hcl hall hb
        by_cases hlt : k < L.length
        · have hck := HCL.out k hlt
          have hx := HLE.out L[k] (List.getElem_mem hlt)
          have hxc : L[k] ≤ c := Nat.le_of_dvd (by omega) hx.2
          have hx2 := hx.1
          generalize hxe : L[k] = x at *
          have HXE := Lib.hid hxe
          clear hx hxe
          have hcx : c / x ≤ c := Nat.div_le_self _ _
          have hE : ((c : Int) / (x : Int) % 4294967296) = ((c / x : Nat) : Int) := by rw [← Int.natCast_ediv]; generalize c / x = z at *; omega
          have HE := Lib.hid hE
          generalize hcz : c / x = z at *
          have HCZ := Lib.hid hcz
          clear hE hcz
          go_wp2_with fail
          rw [HE.out]
          refine (pox27 _ _ _ (by omega) (by omega) p0 p1).mono ?_
          rintro e w4 ⟨rfl, hb4⟩
          rw [Int.toNat_natCast]
          have hgz4 : g < w4.heap.size := Nat.lt_of_lt_of_le hgz hb4.size
          have HCL4 := Lib.hid (fun j h => (hb4.cell (p := ⟨g, j, none⟩) hgz).trans (HCL.out j h))
          have HB4 := Lib.hid (HB.out.trans (hb4.mono HB.out.size))
          clear hb4
          by_cases hone : M.pw 2 p.toNat z = 1
          · have hpr : ¬ M.Prim p.toNat := fun h => ((HPI.out L HL.out).1 h).2 x (HXE.out ▸ List.getElem_mem hlt) (by rw [HCZ.out]; exact hone)
            have HPR := Lib.hid hpr
            clear hpr
            rw [hone]
            clear hone
            go_wp2_with fail
            go_ret
            exact Says.no HPR.out HB4.out
          · have hne : ((M.pw 2 p.toNat z : Int) == 1) = false := by rw [beq_eq_false_iff_ne]; omega
            have HONE := Lib.hid hone
            clear hone
            have HN := Lib.hid (show ∀ y, y ∈ L.take (k + 1) → M.pw 2 p.toNat (c / y) ≠ 1 by
              intro y hy
              rw [List.take_succ_eq_append_getElem hlt, List.mem_append] at hy
              rcases hy with hy | hy
              · exact HA.out y hy
              · obtain rfl : y = x := by rw [← HXE.out]; simpa using hy
                rw [HCZ.out]; exact HONE.out)
            generalize M.pw 2 p.toNat z = r at *
            go_wp2_with fail
            exact ⟨⟨k + 1, by omega, by go_num, HN.out, HCL4.out, hgz4, HB4.out⟩, by simp [intOf]; omega⟩
        · have hpr : M.Prim p.toNat := (HPI.out L HL.out).2 ⟨HH1.out, fun x hx => HA.out x (by rwa [List.take_of_length_le (by omega)])⟩
          have HPR := Lib.hid hpr
          clear hpr
          go_wp2_with fail
          go_ret
          exact Says.yes HPR.out HB.out
  · have hne : ((M.pw 2 p.toNat c : Int) != 1) = true := by rw [bne_iff_ne]; omega
    have hpr : ¬ M.Prim p.toNat := fun h => h1 (by
      have := h.2.1
      rwa [HLB.out, HC.out] at this)
    have HPR := Lib.hid hpr
    clear hpr h1
    generalize M.pw 2 p.toNat c = r at *
    go_wp2_with fail
    go_ret
    exact Says.no HPR.out HB2.out

set_option maxRecDepth 100000 in
set_option maxHeartbeats 1000000 in
theorem prim20_out (p : Int) (w : World) (p0 : 0 ≤ p) (p1 : p ≤ 4294967295) (hirr : M.irr p.toNat = false) :
    Calls Tryz.prog 102 #[.int .u32 p] w (Says (M.Prim p.toNat) w) := by
  have HN := Lib.hid (show ¬ M.Prim p.toNat from fun h => by rw [h.1] at hirr; cases hirr)
  have HI := Lib.hid hirr
  clear hirr
  go_enter Tryz.func102, Tryz.ntmps102
  go_wp2_with fail
  refine (irr18 _ _ p0 p1).mono ?_
  rintro e w1 ⟨rfl, hb1⟩
  rw [HI.out]
  have HB1 := Lib.hid hb1
  clear hb1
  go_wp2_with fail
  go_ret
  exact Says.no HN.out HB1.out

theorem prim20 (p : Int) (w : World) (p0 : 0 ≤ p) (p1 : p ≤ 4294967295) : Calls Tryz.prog 102 #[.int .u32 p] w (Says (M.Prim p.toNat) w) := by
  cases h : M.irr p.toNat
  · exact prim20_out p w p0 p1 h
  · exact prim20_in p w p0 p1 h
end Go.Proofs.YtgdgimknnjbieaaGreatDoor
