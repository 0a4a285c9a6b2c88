/- Contracts of the document's own answers for layer 1: Primitive, Power. -/
import Derived.Test.YtjojbkkdligpgaaReg
import Derived.Test.YtjojbkkdligpgaaPox
namespace Go.Proofs.Ytjojbkkdligpgaa
open Go.RowKit

/-- a bool that says whether P holds; the world is as it was -/
def SaysStill (P : Prop) (w : World) (e : Ending) (w' : World) : Prop := ∃ b : Bool, e = .returned (.bool b) ∧ (b = true ↔ P) ∧ w = w'

def RprAt (P C : Nat) (tn tx : Value) : Prop := ∃ n : Nat, 1 ≤ n ∧ n ≤ C ∧ tn = .int .u64 n ∧ tx = .int .u32 (M.pw 2 P n) ∧ ∀ m, 1 ≤ m → m < n → M.pw 2 P m ≠ 1

set_option maxHeartbeats 2000000 in
theorem rprim21_in (p : Int) (w : World) (p0 : 0 ≤ p) (p1 : p ≤ 4294967295) (hirr : M.irr p.toNat = true) (h2 : M.md 2 p.toNat ≠ 0) :
    Calls Try.prog 30 #[.int .u32 p] w (SaysStill (M.Prim p.toNat) w) := by
  have hbl := M.irr_blen hirr
  obtain ⟨C, hC, hC1, hC2⟩ : ∃ C : Nat, 2 ^ (M.blen p.toNat - 1) = C + 1 ∧ 1 ≤ C ∧ C ≤ 65535 := by
    refine ⟨2 ^ (M.blen p.toNat - 1) - 1, ?_, M.count_pos hbl.1, ?_⟩
    · have := Nat.two_pow_pos (M.blen p.toNat - 1)
      omega
    · have : 2 ^ (M.blen p.toNat - 1) ≤ 2 ^ 16 := Nat.pow_le_pow_right (by decide) (by omega)
      omega
  have HFEW := Lib.hid (show ∀ n, (∀ m, 1 ≤ m → m < n → M.pw 2 p.toNat m ≠ 1) → n ≤ C by
    intro n hn
    have := M.pw_few hirr h2 hn
    omega)
  have HNE := Lib.hid (M.pw_ne hirr h2)
  have HPF := Lib.hid (show ∀ n, 1 ≤ n → M.pw 2 p.toNat n = 1 → (∀ m, 1 ≤ m → m < n → M.pw 2 p.toNat m ≠ 1) → (n = C ↔ M.Prim p.toNat) by
    intro n a b c
    have := M.prim_first hirr a b c
    rwa [hC, Nat.add_sub_cancel] at this)
  have HI := Lib.hid hirr
  have HC := Lib.hid hC
  clear hirr h2 hC
  have HX := Lib.hid (show M.md (M.mul (1 : Int).toNat (2 : Int).toNat) p.toNat = M.pw 2 p.toNat 1 by
    rw [M.pw, M.pw, M.md_mulL]; rfl)
  go_enter Try.func30, Try.ntmps30
  go_wp2_with fail
  refine (rirr19 _ _ p0 p1).mono ?_
  rintro e w' ⟨rfl, rfl⟩
  rw [HI.out]
  go_wp2_with fail
  refine (rmulmod17 _ _ _ _ (by omega) (by omega) (by omega) (by omega) p0 p1).mono ?_
  rintro e w' ⟨rfl, rfl⟩
  rw [HX.out]
  go_wp2_with fail
  go_loop [3, 4] (fun tn tx => RprAt p.toNat C tn tx) (fun tn _ => C - (intOf tn).toNat)
  case atStart => exact ⟨1, by omega, hC1, rfl, rfl, fun m a b => by omega⟩
  case round =>
    obtain ⟨n, hn1, hnC, rfl, rfl, hmin⟩ := hrel
    have HM := Lib.hid hmin
    have hpb := pw_bound 2 n p p0 p1
    have hn0 := HNE.out n
    clear hmin
    by_cases h1 : M.pw 2 p.toNat n = 1
    · have HIFF := Lib.hid (HPF.out n hn1 h1 HM.out)
      rw [h1]
      clear h1 hn0 hpb
      go_wp2_with fail
      refine (rdeg11 _ _ (by omega) (by omega)).mono ?_
      rintro e w' ⟨rfl, rfl⟩
      go_wp2_with fail
      refine (rpower26 _ _ (by omega) (by omega)).mono ?_
      rintro e w' ⟨rfl, rfl⟩
      rw [show ((M.blen p.toNat : Int) - 1).toNat = M.blen p.toNat - 1 by omega, HC.out, show ((C + 1 : Nat) : Int) = (C : Int) + 1 by omega]
      by_cases hnc : n = C
      · have d : ((n : Int) == (C : Int)) = true := by rw [beq_iff_eq]; omega
        have HP := Lib.hid (HIFF.out.1 hnc)
        clear hnc
        go_wp2_with fail
        go_ret
        exact ⟨true, rfl, by simp [HP.out], rfl⟩
      · have d : ((n : Int) == (C : Int)) = false := by rw [beq_eq_false_iff_ne]; omega
        have HP := Lib.hid (show ¬ M.Prim p.toNat from fun h => hnc (HIFF.out.2 h))
        clear hnc
        go_wp2_with fail
        go_ret
        exact ⟨false, rfl, by simp [HP.out], rfl⟩
    · have d1 : ((M.pw 2 p.toNat n : Int) != 1) = true := by rw [bne_iff_ne]; omega
      have d0 : ((M.pw 2 p.toNat n : Int) != 0) = true := by rw [bne_iff_ne]; omega
      have hmin' : ∀ m, 1 ≤ m → m < n + 1 → M.pw 2 p.toNat m ≠ 1 := fun m a b => by
        rcases Nat.lt_or_ge m n with h | h
        · exact HM.out m a h
        · obtain rfl : m = n := by omega
          exact h1
      have hle := HFEW.out _ hmin'
      have HM' := Lib.hid hmin'
      have HE := Lib.hid (show M.pw 2 p.toNat (n + 1) = M.md (M.mul (M.pw 2 p.toNat n) (2 : Int).toNat) p.toNat from rfl)
      clear hmin' h1
      generalize hN : M.pw 2 p.toNat (n + 1) = nx at *
      have HN := Lib.hid hN
      generalize M.pw 2 p.toNat n = r at *
      clear hN
      go_wp2_with fail
      refine (rmulmod17 _ _ _ _ (by omega) (by omega) (by omega) (by omega) p0 p1).mono ?_
      rintro e w' ⟨rfl, rfl⟩
      rw [Int.toNat_natCast, ← HE.out]
      go_wp2_with fail
      exact ⟨⟨n + 1, by omega, hle, by go_num, by rw [HN.out], HM'.out⟩, by simp [intOf]; omega⟩

set_option maxHeartbeats 1000000 in
theorem rprim21_x (p : Int) (w : World) (p0 : 0 ≤ p) (p1 : p ≤ 4294967295) (hirr : M.irr p.toNat = true) (h2 : M.md 2 p.toNat = 0) :
    Calls Try.prog 30 #[.int .u32 p] w (SaysStill (M.Prim p.toNat) w) := by
  have HN := Lib.hid (show ¬ M.Prim p.toNat from fun h => M.prim_two_ne h h2)
  have HI := Lib.hid hirr
  have HX := Lib.hid (show M.md (M.mul (1 : Int).toNat (2 : Int).toNat) p.toNat = 0 by rw [show M.mul (1 : Int).toNat (2 : Int).toNat = 2 from rfl, h2])
  clear hirr h2
  go_enter Try.func30, Try.ntmps30
  go_wp2_with fail
  refine (rirr19 _ _ p0 p1).mono ?_
  rintro e w' ⟨rfl, rfl⟩
  rw [HI.out]
  go_wp2_with fail
  refine (rmulmod17 _ _ _ _ (by omega) (by omega) (by omega) (by omega) p0 p1).mono ?_
  rintro e w' ⟨rfl, rfl⟩
  rw [HX.out]
  go_wp2_with fail
  refine wp_loop_rounds 1 ?_
  rw [rounds_succ]
  go_wp2_with fail
  go_ret
  exact ⟨false, rfl, by simp [HN.out], rfl⟩

set_option maxHeartbeats 1000000 in
theorem rprim21_out (p : Int) (w : World) (p0 : 0 ≤ p) (p1 : p ≤ 4294967295) (hirr : M.irr p.toNat = false) :
    Calls Try.prog 30 #[.int .u32 p] w (SaysStill (M.Prim p.toNat) w) := by
  have HN := Lib.hid (show ¬ M.Prim p.toNat from fun h => by rw [h.1] at hirr; cases hirr)
  have HI := Lib.hid hirr
  clear hirr
  go_enter Try.func30, Try.ntmps30
  go_wp2_with fail
  refine (rirr19 _ _ p0 p1).mono ?_
  rintro e w' ⟨rfl, rfl⟩
  rw [HI.out]
  go_wp2_with fail
  go_ret
  exact ⟨false, rfl, by simp [HN.out], rfl⟩

theorem rprim21 (p : Int) (w : World) (p0 : 0 ≤ p) (p1 : p ≤ 4294967295) : Calls Try.prog 30 #[.int .u32 p] w (SaysStill (M.Prim p.toNat) w) := by
  cases h : M.irr p.toNat
  · exact rprim21_out p w p0 p1 h
  · by_cases h2 : M.md 2 p.toNat = 0
    · exact rprim21_x p w p0 p1 h h2
    · exact rprim21_in p w p0 p1 h h2

def RpwAt (P R : Nat) (ta tn tout : Value) : Prop :=
  ∃ a n out : Nat, ta = .int .u32 a ∧ tn = .int .u64 n ∧ tout = .int .u32 out ∧ a ≤ 4294967295 ∧ out ≤ 4294967295 ∧ n < 2 ^ 64 ∧ M.md out P = out ∧ M.md (M.mul out (M.pw a P n)) P = R

theorem rpw_odd {P R a n out : Nat} (h : M.md (M.mul out (M.pw a P n)) P = R) (hn : n % 2 = 1) :
    M.md (M.mul (M.md (M.mul out a) P) (M.pw (M.md (M.mul a a) P) P (n / 2))) P = R := by
  have e : M.pw (M.md (M.mul a a) P) P (n / 2) = M.pw a P (2 * (n / 2)) := M.pw_sq a P (n / 2)
  rw [e, M.md_mulL, M.mul_assoc, M.mul_comm a, ← h]
  have : M.pw a P n = M.md (M.mul (M.pw a P (2 * (n / 2))) a) P := by
    have : n = 2 * (n / 2) + 1 := by omega
    rw [this, M.pw, show (2 * (n / 2) + 1) / 2 = n / 2 by omega]
  rw [this, M.md_mulR]

theorem rpw_even {P R a n out : Nat} (h : M.md (M.mul out (M.pw a P n)) P = R) (hn : ¬ n % 2 = 1) :
    M.md (M.mul out (M.pw (M.md (M.mul a a) P) P (n / 2))) P = R := by
  have e : M.pw (M.md (M.mul a a) P) P (n / 2) = M.pw a P (2 * (n / 2)) := M.pw_sq a P (n / 2)
  rw [e, show 2 * (n / 2) = n by omega, h]

set_option maxHeartbeats 1000000 in
theorem rpow22 (a n p : Int) (w : World) (a0 : 0 ≤ a) (a1 : a ≤ 4294967295) (n0 : 0 ≤ n) (n1 : n ≤ 18446744073709551615) (p0 : 0 ≤ p) (p1 : p ≤ 4294967295) :
    Calls Try.prog 36 #[.int .u32 a, .int .u64 n, .int .u32 p] w fun e w' => e = .returned (.int .u32 (M.pw a.toNat p.toNat n.toNat)) ∧ w = w' := by
  have hmb := md_bound 1 p p0 p1
  go_enter Try.func36, Try.ntmps36
  go_wp2_with fail
  refine (rmod15 _ _ _ (by omega) (by omega) p0 p1).mono ?_
  rintro e w' ⟨rfl, rfl⟩
  go_wp2_with fail
  go_loop [0, 1, 7] (fun ta tn tout => RpwAt p.toNat (M.pw a.toNat p.toNat n.toNat) ta tn tout) (fun _ tn _ => (intOf tn).toNat)
  case atStart =>
    refine ⟨a.toNat, n.toNat, M.md 1 p.toNat, by rw [Int.toNat_of_nonneg a0], by rw [Int.toNat_of_nonneg n0], rfl, by omega, ?_, by omega, M.md_md _ _, ?_⟩
    · have : (1 : Int).toNat = 1 := rfl
      rw [this] at hmb; omega
    · rw [M.md_mulL, M.one_mul, M.pw_md]
  case round =>
    obtain ⟨b, m, out, rfl, rfl, rfl, hb, ho, hm64, hmd, hR⟩ := hrel
    have HMD := Lib.hid hmd
    have HR := Lib.hid hR
    clear hmd hR hmb
    by_cases hlt : 0 < m
    · have hsb := md_bound (M.mul b b : Int) p p0 p1
      have hob := md_bound (M.mul out b : Int) p p0 p1
      rw [Int.toNat_natCast] at hsb hob
      by_cases hodd : m % 2 = 1
      · have HN := Lib.hid (rpw_odd HR.out hodd)
        go_wp2_with fail
        refine (rmulmod17 _ _ _ _ (by omega) (by omega) (by omega) (by omega) p0 p1).mono ?_
        rintro e w' ⟨rfl, rfl⟩
        rw [Int.toNat_natCast, Int.toNat_natCast]
        go_wp2_with fail
        refine (rmulmod17 _ _ _ _ (by omega) (by omega) (by omega) (by omega) p0 p1).mono ?_
        rintro e w' ⟨rfl, rfl⟩
        rw [Int.toNat_natCast]
        go_wp2_with fail
        refine ⟨⟨M.md (M.mul b b) p.toNat, m / 2, M.md (M.mul out b) p.toNat, rfl, by simp, rfl, by omega, by omega, by omega, M.md_md _ _, HN.out⟩, ?_⟩
        show ((m : Int) / 2).toNat < (m : Int).toNat
        omega
      · have HN := Lib.hid (rpw_even HR.out hodd)
        go_wp2_with fail
        refine (rmulmod17 _ _ _ _ (by omega) (by omega) (by omega) (by omega) p0 p1).mono ?_
        rintro e w' ⟨rfl, rfl⟩
        rw [Int.toNat_natCast]
        go_wp2_with fail
        refine ⟨⟨M.md (M.mul b b) p.toNat, m / 2, out, rfl, by simp, rfl, by omega, by omega, by omega, HMD.out, HN.out⟩, ?_⟩
        show ((m : Int) / 2).toNat < (m : Int).toNat
        omega
    · obtain rfl : m = 0 := by omega
      go_wp2_with fail
      go_ret
      refine ⟨ret_int ?_, rfl⟩
      have := HR.out
      rw [M.pw, M.md_mulR, M.mul_one, HMD.out] at this
      rw [this]
end Go.Proofs.Ytjojbkkdligpgaa
