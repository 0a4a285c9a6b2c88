/- Contracts of the document's own answers for layer 1: Deg, Mul, power, Mod, MulMod. Contracts of the document's own answers for layer 1: Irreducible, Primitive, Power. Contracts of the document's own answers for layer 1: Primitive, Power. -/
import Derived.Test.YtgdgimknnjbieaaGreatDoorGxb
import Derived.Test.YtgdgimknnjbieaaGreatDoorGxa

namespace Go.Proofs.YtgdgimknnjbieaaGreatDoor
open Go.RowKit

def RdegAt (A : Nat) (t0 t3 : Value) : Prop := ∃ x n : Nat, t0 = .int .u64 x ∧ t3 = .int .i64 ((n : Int) - 1) ∧ M.blen A = n + M.blen x ∧ x < 2 ^ 64

set_option maxRecDepth 100000 in
set_option maxHeartbeats 1000000 in
theorem rdeg11 (x : Int) (w : World) (h0 : 0 ≤ x) (h1 : x ≤ 18446744073709551615) :
    Calls Tryz.prog 184 #[.int .u64 x] w fun e w' => e = .returned (.int .i64 ((M.blen x.toNat : Int) - 1)) ∧ w = w' := by
  have hA : M.blen x.toNat ≤ 64 := (M.blen_le _ _).2 (by omega)
  go_enter Tryz.func184, Tryz.ntmps184
  go_wp2_with fail
  go_loop [0, 3] (fun t0 t3 => RdegAt x.toNat t0 t3) (fun t0 _ => (intOf t0).toNat)
  case atStart => exact ⟨x.toNat, 0, by rw [Int.toNat_of_nonneg h0], rfl, by omega, by omega⟩
  case round =>
    obtain ⟨y, n, rfl, rfl, hy, hy64⟩ := hrel
    have HY := Lib.hid hy
    have hn : n ≤ 64 := by omega
    by_cases hlt : 0 < y
    · have hh := M.blen_half (x := y) (by omega)
      have HN := Lib.hid (show M.blen x.toNat = (n + 1) + M.blen (y / 2) by omega)
      clear hy hh
      go_wp2_with fail
      refine ⟨⟨y / 2, n + 1, by simp, by go_num, HN.out, by omega⟩, ?_⟩
      show ((y : Int) / 2).toNat < (y : Int).toNat
      omega
    · obtain rfl : y = 0 := by omega
      clear hy
      go_wp2_with fail
      go_ret
      have := HY.out
      rw [M.blen_zero] at this
      exact ⟨ret_int (by omega), rfl⟩

set_option maxRecDepth 100000 in
theorem rpower26 (n : Int) (w : World) (h0 : 0 ≤ n) (h1 : n < 64) :
    Calls Tryz.prog 185 #[.int .i64 n] w fun e w' => e = .returned (.int .u64 ((2 ^ n.toNat : Nat) : Int)) ∧ w = w' := by
  go_enter Tryz.func185, Tryz.ntmps185
  go_wp2_with fail
  go_loop [3, 4] (fun x i => ∃ k : Nat, k ≤ n.toNat ∧ i = .int .i64 k ∧ x = .int .u64 ((2 ^ k : Nat) : Int)) (fun _ i => n.toNat - (intOf i).toNat)
  case atStart => exact ⟨0, by omega, rfl, rfl⟩
  case round =>
    obtain ⟨k, hk, rfl, rfl⟩ := hrel
    by_cases hlt : (k : Int) < n
    · have hb : 2 ^ (k + 1) < 2 ^ 64 := Nat.pow_lt_pow_right (by decide) (by omega)
      have HP := Lib.hid (show IntKind.u64.wrap (2 * ((2 ^ k : Nat) : Int)) = ((2 ^ (k + 1) : Nat) : Int) by
        rw [show (2 * ((2 ^ k : Nat) : Int)) = ((2 ^ (k + 1) : Nat) : Int) by rw [Nat.pow_succ]; omega]
        exact wrap64_nat _ hb)
      clear hb
      generalize 2 ^ k = y at *
      go_wp2_with fail
      exact ⟨⟨k + 1, by omega, by go_num, by rw [HP.out]⟩, by simp [intOf]; omega⟩
    · go_wp2_with fail
      go_ret
      obtain rfl : k = n.toNat := by omega
      exact ⟨rfl, rfl⟩

def RmulAt (A B : Nat) (tb tout tx : Value) : Prop := ∃ k : Nat, k ≤ 32 ∧ tb = .int .u32 (B / 2 ^ k : Nat) ∧ tout = .int .u64 (M.mulTo A B k) ∧ tx = .int .u64 (A <<< k : Nat)

set_option maxRecDepth 100000 in
set_option maxHeartbeats 1000000 in
theorem rmul13 (a b : Int) (w : World) (a0 : 0 ≤ a) (a1 : a ≤ 4294967295) (b0 : 0 ≤ b) (b1 : b ≤ 4294967295) :
    Calls Tryz.prog 174 #[.int .u32 a, .int .u32 b] w fun e w' => e = .returned (.int .u64 (M.mul a.toNat b.toNat)) ∧ w = w' := by
  go_enter Tryz.func174, Tryz.ntmps174
  go_wp2_with fail
  go_loop [1, 5, 6] (fun tb tout tx => RmulAt a.toNat b.toNat tb tout tx) (fun tb _ _ => (intOf tb).toNat)
  case atStart => exact ⟨0, by omega, by simp [Int.toNat_of_nonneg b0], rfl, by simp [Int.toNat_of_nonneg a0]⟩
  case round =>
    obtain ⟨k, hk, rfl, rfl, rfl⟩ := hrel
    have ha : a.toNat < 2 ^ 32 := by omega
    have hx : a.toNat <<< k < 2 ^ 64 := Nat.lt_of_lt_of_le (M.shl_lt ha) (Nat.pow_le_pow_right (by decide) (by omega))
    have ho : M.mulTo a.toNat b.toNat k < 2 ^ 64 := Nat.lt_of_lt_of_le (M.mulTo_lt ha k) (Nat.pow_le_pow_right (by decide) (by omega))
    by_cases hlt : 0 < b.toNat / 2 ^ k
    · have hk2 : k < 32 := by
        rcases Nat.lt_or_ge k 32 with h | h
        · exact h
        · have : b.toNat / 2 ^ k = 0 := Nat.div_eq_of_lt (Nat.lt_of_lt_of_le (show b.toNat < 2 ^ 32 by omega) (Nat.pow_le_pow_right (by decide) h))
          omega
      have hx2 : a.toNat <<< (k + 1) < 2 ^ 64 := Nat.lt_of_lt_of_le (M.shl_lt ha) (Nat.pow_le_pow_right (by decide) (by omega))
      have HX := Lib.hid (show IntKind.u64.wrap (2 * ((a.toNat <<< k : Nat) : Int)) = ((a.toNat <<< (k + 1) : Nat) : Int) by
        rw [show (2 * ((a.toNat <<< k : Nat) : Int)) = ((a.toNat <<< (k + 1) : Nat) : Int) by rw [Nat.shiftLeft_succ]; omega]
        exact wrap64_nat _ hx2)
      have HQ := Lib.hid (show b.toNat / 2 ^ (k + 1) = b.toNat / 2 ^ k / 2 by rw [Nat.pow_succ, Nat.div_div_eq_div_mul])
      have HO := Lib.hid (show bits BinOp.xor IntKind.u64 (M.mulTo a.toNat b.toNat k) (a.toNat <<< k : Nat) = ((M.mulTo a.toNat b.toNat k ^^^ a.toNat <<< k : Nat) : Int) from u64_xor_nat _ _ ho hx)
      have HM := Lib.hid (show M.mulTo a.toNat b.toNat (k + 1) = M.mulTo a.toNat b.toNat k ^^^ (if b.toNat / 2 ^ k % 2 = 1 then a.toNat <<< k else 0) by
        rw [M.mulTo, Nat.testBit_eq_decide_div_mod_eq]; simp)
      have hq32 : b.toNat / 2 ^ k < 2 ^ 32 := Nat.lt_of_le_of_lt (Nat.div_le_self _ _) (by omega)
      clear hx ho hx2
      generalize hx3 : a.toNat <<< (k + 1) = x2 at *
      have HX3 := Lib.hid hx3
      clear hx3
      generalize hm1 : M.mulTo a.toNat b.toNat (k + 1) = m1 at *
      have HM1 := Lib.hid hm1
      clear hm1
      generalize hb2 : b.toNat / 2 ^ (k + 1) = b2 at *
      have HB2 := Lib.hid hb2
      clear hb2
      generalize M.mulTo a.toNat b.toNat k = m0 at *
      generalize a.toNat <<< k = x at *
      generalize b.toNat / 2 ^ k = q at *
      by_cases hq : q % 2 = 1
      · have h2 := HM.out
        rw [if_pos hq] at h2
        have HM2 := Lib.hid h2
        clear h2
        go_wp2_with fail
        refine ⟨⟨k + 1, by omega, ?_, ?_, ?_⟩, ?_⟩
        · rw [HB2.out, HQ.out]; simp
        · rw [HM1.out, HM2.out, HO.out]
        · rw [HX3.out, HX.out]
        · show ((q : Int) / 2).toNat < (q : Int).toNat
          omega
      · have h2 := HM.out
        rw [if_neg hq, Nat.xor_zero] at h2
        have HM2 := Lib.hid h2
        clear h2
        go_wp2_with fail
        refine ⟨⟨k + 1, by omega, ?_, ?_, ?_⟩, ?_⟩
        · rw [HB2.out, HQ.out]; simp
        · rw [HM1.out, HM2.out]
        · rw [HX3.out, HX.out]
        · show ((q : Int) / 2).toNat < (q : Int).toNat
          omega
    · have hz : b.toNat / 2 ^ k = 0 := Nat.eq_zero_of_not_pos hlt
      have HL := Lib.hid (show M.mul a.toNat b.toNat = M.mulTo a.toNat b.toNat k from M.mul_eq (by
        rcases Nat.lt_or_ge b.toNat (2 ^ k) with h | h
        · exact h
        · have := Nat.div_pos h (Nat.two_pow_pos k)
          omega))
      rw [hz]
      clear hz hlt hx ho
      go_wp2_with fail
      go_ret
      exact ⟨ret_int (by rw [HL.out]), rfl⟩

def RmodAt (A P : Nat) (t : Value) : Prop := ∃ r : Nat, t = .int .u64 r ∧ M.md r P = M.md A P ∧ r < 2 ^ 64

theorem rmod_step {P r : Nat} (hP : P ≠ 0) (hl : M.blen P ≤ M.blen r) (hr : r < 2 ^ 64) :
    M.blen (r ^^^ P <<< (M.blen r - M.blen P)) < M.blen r ∧ P <<< (M.blen r - M.blen P) < 2 ^ 64 ∧ r ^^^ P <<< (M.blen r - M.blen P) < 2 ^ 64 := by
  have pP := M.blen_pos hP
  have hr0 : r ≠ 0 := by rintro rfl; rw [M.blen_zero] at hl; omega
  have pr := M.blen_pos hr0
  have lp := M.low_of hP
  have lr := M.low_of hr0
  have hs : P <<< (M.blen r - M.blen P) < 2 ^ (M.blen r - 1 + 1) := by
    have := M.shl_lt (k := M.blen r - M.blen P) lp.2
    rwa [show M.blen P - 1 + 1 + (M.blen r - M.blen P) = M.blen r - 1 + 1 by omega] at this
  have ht : (P <<< (M.blen r - M.blen P)).testBit (M.blen r - 1) = true := by
    rw [Nat.testBit_shiftLeft, show M.blen r - 1 - (M.blen r - M.blen P) = M.blen P - 1 by omega, M.tb_top lp.1 lp.2]
    simp; omega
  have h1 : r ^^^ P <<< (M.blen r - M.blen P) < 2 ^ (M.blen r - 1) := by
    apply M.lt_of_tb_false (Nat.xor_lt_two_pow lr.2 hs)
    rw [Nat.testBit_xor, ht, M.tb_top lr.1 lr.2]; rfl
  have h2 := (M.blen_le _ _).2 h1
  have h64 := (M.blen_le r 64).2 hr
  refine ⟨by omega, Nat.lt_of_lt_of_le hs (Nat.pow_le_pow_right (by decide) (by omega)), Nat.lt_of_lt_of_le h1 (Nat.pow_le_pow_right (by decide) (by omega))⟩

set_option maxRecDepth 100000 in
set_option maxHeartbeats 1000000 in
theorem rmod15_in (a p : Int) (w : World) (a0 : 0 ≤ a) (a1 : a ≤ 18446744073709551615) (p0 : 0 < p) (p1 : p ≤ 4294967295) :
    Calls Tryz.prog 173 #[.int .u64 a, .int .u32 p] w fun e w' => e = .returned (.int .u32 (M.md a.toNat p.toNat)) ∧ w = w' := by
  have hlp : M.blen p.toNat ≤ 32 := (M.blen_le _ _).2 (by omega)
  have hlp0 : 0 < M.blen p.toNat := M.blen_pos (by omega)
  have hp : (p == 0) = false := by simp; omega
  go_enter Tryz.func173, Tryz.ntmps173
  go_wp2_with fail
  refine (rdeg11 _ _ (by omega) (by omega)).mono ?_
  rintro e w' ⟨rfl, rfl⟩
  generalize hP : M.blen p.toNat = lp at *
  have HP := Lib.hid hP
  clear hP
  go_wp2_with fail
  go_loop [0] (fun t => RmodAt a.toNat p.toNat t) (fun t => M.blen (intOf t).toNat)
  case atStart => exact ⟨a.toNat, by rw [Int.toNat_of_nonneg a0], rfl, by omega⟩
  case round =>
    obtain ⟨r, rfl, hr, hr64⟩ := hrel
    have HR := Lib.hid hr
    have hlr : M.blen r ≤ 64 := (M.blen_le _ _).2 hr64
    clear hr
    by_cases hle : lp ≤ M.blen r
    · obtain ⟨s1, s2, s3⟩ := rmod_step (P := p.toNat) (r := r) (by omega) (by rw [HP.out]; exact hle) hr64
      rw [HP.out] at s1 s2 s3
      have HS := Lib.hid (M.md_xor_shl r p.toNat (M.blen r - lp))
      have HX := Lib.hid (u64_xor_nat r (p.toNat <<< (M.blen r - lp)) hr64 s2)
      have HT := Lib.hid (shl_nat p (M.blen r - lp) (by omega) s2)
      have S1 := Lib.hid s1
      have S3 := Lib.hid s3
      clear s1 s2 s3
      generalize hl : M.blen r = lr at *
      have HL := Lib.hid hl
      clear hl
      go_wp2_with fail
      refine (rdeg11 _ _ (by omega) (by omega)).mono ?_
      rintro e w' ⟨rfl, rfl⟩
      rw [Int.toNat_natCast, HL.out]
      go_wp2_with fail
      refine (rdeg11 _ _ (by omega) (by omega)).mono ?_
      rintro e w' ⟨rfl, rfl⟩
      rw [Int.toNat_natCast, HL.out]
      go_wp2_with fail
      refine (rpower26 _ _ (by omega) (by omega)).mono ?_
      rintro e w' ⟨rfl, rfl⟩
      rw [show ((lr : Int) - 1 - ((lp : Int) - 1)).toNat = lr - lp by omega]
      go_wp2_with fail
      rw [HT.out, HX.out]
      refine ⟨⟨_, rfl, by rw [HS.out, HR.out], S3.out⟩, ?_⟩
      show M.blen (((r ^^^ p.toNat <<< (lr - lp) : Nat) : Int)).toNat < M.blen ((r : Nat) : Int).toNat
      rw [Int.toNat_natCast, Int.toNat_natCast, HL.out]
      exact S1.out
    · have hsm : M.md r p.toNat = r := M.md_small (by omega) (by rw [HP.out]; exact (M.blen_le _ _).1 (by omega))
      have hr32 : r < 2 ^ 32 := (M.blen_le _ _).1 (by omega)
      have HSM := Lib.hid hsm
      clear hsm
      generalize hl : M.blen r = lr at *
      have HL := Lib.hid hl
      clear hl
      go_wp2_with fail
      refine (rdeg11 _ _ (by omega) (by omega)).mono ?_
      rintro e w' ⟨rfl, rfl⟩
      rw [Int.toNat_natCast, HL.out]
      go_wp2_with fail
      go_ret
      refine ⟨ret_int ?_, rfl⟩
      rw [← HR.out, HSM.out]

set_option maxRecDepth 100000 in
theorem rmod15_zero (a : Int) (w : World) :
    Calls Tryz.prog 173 #[.int .u64 a, .int .u32 0] w fun e w' => e = .returned (.int .u32 0) ∧ w = w' := by
  go_enter Tryz.func173, Tryz.ntmps173
  go_wp2
  go_ret
  exact ⟨rfl, rfl⟩

theorem rmod15 (a p : Int) (w : World) (a0 : 0 ≤ a) (a1 : a ≤ 18446744073709551615) (p0 : 0 ≤ p) (p1 : p ≤ 4294967295) :
    Calls Tryz.prog 173 #[.int .u64 a, .int .u32 p] w fun e w' => e = .returned (.int .u32 (M.md a.toNat p.toNat)) ∧ w = w' := by
  by_cases hz : p = 0
  · subst hz
    refine (rmod15_zero a w).mono ?_
    rintro e w' ⟨rfl, rfl⟩
    exact ⟨ret_int (by simp [M.md_zero_right]), rfl⟩
  · exact rmod15_in a p w a0 a1 (by omega) p1

set_option maxRecDepth 100000 in
theorem rmulmod17 (a b p : Int) (w : World) (a0 : 0 ≤ a) (a1 : a ≤ 4294967295) (b0 : 0 ≤ b) (b1 : b ≤ 4294967295) (p0 : 0 ≤ p) (p1 : p ≤ 4294967295) :
    Calls Tryz.prog 137 #[.int .u32 a, .int .u32 b, .int .u32 p] w fun e w' => e = .returned (.int .u32 (M.md (M.mul a.toNat b.toNat) p.toNat)) ∧ w = w' := by
  have hm := mul_bound a b a1 b1
  go_enter Tryz.func137, Tryz.ntmps137
  go_wp2_with fail
  refine (rmul13 _ _ _ a0 a1 b0 b1).mono ?_
  rintro e w' ⟨rfl, rfl⟩
  go_wp2_with fail
  refine (rmod15 _ _ _ (by omega) hm p0 p1).mono ?_
  rintro e w' ⟨rfl, rfl⟩
  rw [Int.toNat_natCast]
  go_wp2_with fail
  go_ret
  exact ⟨rfl, rfl⟩
end Go.Proofs.YtgdgimknnjbieaaGreatDoor

namespace Go.Proofs.YtgdgimknnjbieaaGreatDoor
open Go.RowKit
end Go.Proofs.YtgdgimknnjbieaaGreatDoor

namespace Go.Proofs.YtgdgimknnjbieaaGreatDoor
open Go.RowKit

def RpwAt (P R : Nat) (ta tn tout : Value) : Prop :=
  ∃ a n out : Nat, ta = .int .u32 a ∧ tn = .int .u64 n ∧ tout = .int .u32 out ∧ a ≤ 4294967295 ∧ out ≤ 4294967295 ∧ n < 2 ^ 64 ∧ M.md out P = out ∧ M.md (M.mul out (M.pw a P n)) P = R

theorem rpw_odd {P R a n out : Nat} (h : M.md (M.mul out (M.pw a P n)) P = R) (hn : n % 2 = 1) :
    M.md (M.mul (M.md (M.mul out a) P) (M.pw (M.md (M.mul a a) P) P (n / 2))) P = R := by
  have e : M.pw (M.md (M.mul a a) P) P (n / 2) = M.pw a P (2 * (n / 2)) := M.pw_sq a P (n / 2)
  rw [e, M.md_mulL, M.mul_assoc, M.mul_comm a, ← h]
  have : M.pw a P n = M.md (M.mul (M.pw a P (2 * (n / 2))) a) P := by
    have : n = 2 * (n / 2) + 1 := by omega
    rw [this, M.pw, show (2 * (n / 2) + 1) / 2 = n / 2 by omega]
  rw [this, M.md_mulR]

theorem rpw_even {P R a n out : Nat} (h : M.md (M.mul out (M.pw a P n)) P = R) (hn : ¬ n % 2 = 1) :
    M.md (M.mul out (M.pw (M.md (M.mul a a) P) P (n / 2))) P = R := by
  have e : M.pw (M.md (M.mul a a) P) P (n / 2) = M.pw a P (2 * (n / 2)) := M.pw_sq a P (n / 2)
  rw [e, show 2 * (n / 2) = n by omega, h]

set_option maxRecDepth 100000 in
set_option maxHeartbeats 1000000 in
theorem rpow22 (a n p : Int) (w : World) (a0 : 0 ≤ a) (a1 : a ≤ 4294967295) (n0 : 0 ≤ n) (n1 : n ≤ 18446744073709551615) (p0 : 0 ≤ p) (p1 : p ≤ 4294967295) :
    Calls Tryz.prog 179 #[.int .u32 a, .int .u64 n, .int .u32 p] w fun e w' => e = .returned (.int .u32 (M.pw a.toNat p.toNat n.toNat)) ∧ w = w' := by
  have hmb := md_bound 1 p p0 p1
  go_enter Tryz.func179, Tryz.ntmps179
  go_wp2_with fail
  refine (rmod15 _ _ _ (by omega) (by omega) p0 p1).mono ?_
  rintro e w' ⟨rfl, rfl⟩
  go_wp2_with fail
  go_loop [0, 1, 7] (fun ta tn tout => RpwAt p.toNat (M.pw a.toNat p.toNat n.toNat) ta tn tout) (fun _ tn _ => (intOf tn).toNat)
  case atStart =>
    refine ⟨a.toNat, n.toNat, M.md 1 p.toNat, by rw [Int.toNat_of_nonneg a0], by rw [Int.toNat_of_nonneg n0], rfl, by omega, ?_, by omega, M.md_md _ _, ?_⟩
    · have : (1 : Int).toNat = 1 := rfl
      rw [this] at hmb; omega
    · rw [M.md_mulL, M.one_mul, M.pw_md]
  case round =>
    obtain ⟨b, m, out, rfl, rfl, rfl, hb, ho, hm64, hmd, hR⟩ := hrel
    have HMD := Lib.hid hmd
    have HR := Lib.hid hR
    clear hmd hR hmb
    by_cases hlt : 0 < m
    · have hsb := md_bound (M.mul b b : Int) p p0 p1
      have hob := md_bound (M.mul out b : Int) p p0 p1
      rw [Int.toNat_natCast] at hsb hob
      by_cases hodd : m % 2 = 1
      · have HN := Lib.hid (rpw_odd HR.out hodd)
        go_wp2_with fail
        refine (rmulmod17 _ _ _ _ (by omega) (by omega) (by omega) (by omega) p0 p1).mono ?_
        rintro e w' ⟨rfl, rfl⟩
        rw [Int.toNat_natCast, Int.toNat_natCast]
        go_wp2_with fail
        refine (rmulmod17 _ _ _ _ (by omega) (by omega) (by omega) (by omega) p0 p1).mono ?_
        rintro e w' ⟨rfl, rfl⟩
        rw [Int.toNat_natCast]
        go_wp2_with fail
        refine ⟨⟨M.md (M.mul b b) p.toNat, m / 2, M.md (M.mul out b) p.toNat, rfl, by simp, rfl, by omega, by omega, by omega, M.md_md _ _, HN.out⟩, ?_⟩
        show ((m : Int) / 2).toNat < (m : Int).toNat
        omega
      · have HN := Lib.hid (rpw_even HR.out hodd)
        go_wp2_with fail
        refine (rmulmod17 _ _ _ _ (by omega) (by omega) (by omega) (by omega) p0 p1).mono ?_
        rintro e w' ⟨rfl, rfl⟩
        rw [Int.toNat_natCast]
        go_wp2_with fail
        refine ⟨⟨M.md (M.mul b b) p.toNat, m / 2, out, rfl, by simp, rfl, by omega, by omega, by omega, HMD.out, HN.out⟩, ?_⟩
        show ((m : Int) / 2).toNat < (m : Int).toNat
        omega
    · obtain rfl : m = 0 := by omega
      go_wp2_with fail
      go_ret
      refine ⟨ret_int ?_, rfl⟩
      have := HR.out
      rw [M.pw, M.md_mulR, M.mul_one, HMD.out] at this
      rw [this]
end Go.Proofs.YtgdgimknnjbieaaGreatDoor
