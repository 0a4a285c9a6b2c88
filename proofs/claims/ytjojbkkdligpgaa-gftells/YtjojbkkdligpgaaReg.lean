/- Contracts of the document's own answers for layer 1: Irreducible, Primitive, Power. -/
import Derived.Test.YtjojbkkdligpgaaRef
import Derived.Test.YtjojbkkdligpgaaPrim
namespace Go.Proofs.Ytjojbkkdligpgaa
open Go.RowKit

set_option maxHeartbeats 1000000 in
theorem rirr19_out (p : Int) (w : World) (p0 : 0 ≤ p) (p1 : p ≤ 4294967295) (h : M.blen p.toNat < 2 ∨ 17 < M.blen p.toNat) :
    Calls Try.prog 43 #[.int .u32 p] w fun e w' => e = .returned (.bool false) ∧ w = w' := by
  go_enter Try.func43, Try.ntmps43
  go_wp2_with fail
  refine (rdeg11 _ _ p0 (by omega)).mono ?_
  rintro e w' ⟨rfl, rfl⟩
  have hl : M.blen p.toNat ≤ 32 := (M.blen_le _ _).2 (by omega)
  generalize M.blen p.toNat = l at *
  by_cases h2 : l < 2
  · have : decide ((l : Int) - 1 < 1) = true := by simp; omega
    go_wp2
    go_ret
    exact ⟨rfl, rfl⟩
  · have : decide ((l : Int) - 1 < 1) = false := by simp; omega
    have : decide (16 < (l : Int) - 1) = true := by simp; omega
    go_wp2
    go_ret
    exact ⟨rfl, rfl⟩

def RirrAt (P N : Nat) (i : Value) : Prop := ∃ k : Nat, 2 ≤ k ∧ k ≤ N ∧ i = .int .u32 k ∧ M.noDiv P k = true

theorem noDiv_two (p : Nat) : M.noDiv p 2 = true := (M.noDiv_iff p 2).2 (fun q h1 h2 => by omega)

set_option maxHeartbeats 1000000 in
theorem rirr19_in (p : Int) (w : World) (p0 : 0 ≤ p) (p1 : p ≤ 4294967295) (h2 : 2 ≤ M.blen p.toNat) (h17 : M.blen p.toNat ≤ 17) :
    Calls Try.prog 43 #[.int .u32 p] w fun e w' => e = .returned (.bool (M.noDiv p.toNat (2 ^ ((M.blen p.toNat - 1) / 2 + 1)))) ∧ w = w' := by
  go_enter Try.func43, Try.ntmps43
  go_wp2_with fail
  refine (rdeg11 _ _ p0 (by omega)).mono ?_
  rintro e w' ⟨rfl, rfl⟩
  generalize hL : M.blen p.toNat = l at *
  have HL := Lib.hid hL
  clear hL
  have d1 : decide ((l : Int) - 1 < 1) = false := by simp; omega
  have d2 : decide (16 < (l : Int) - 1) = false := by simp; omega
  obtain ⟨N, hN, hN9, hN2⟩ : ∃ N : Nat, N = 2 ^ ((l - 1) / 2 + 1) ∧ N ≤ 512 ∧ 2 ≤ N :=
    ⟨_, rfl, show 2 ^ ((l - 1) / 2 + 1) ≤ 2 ^ 9 from Nat.pow_le_pow_right (by decide) (by omega), show 2 ^ 1 ≤ 2 ^ ((l - 1) / 2 + 1) from Nat.pow_le_pow_right (by decide) (by omega)⟩
  have HN := Lib.hid hN
  clear hN
  go_wp2_with fail
  go_loop [4] (fun i => RirrAt p.toNat N i) (fun i => N - (intOf i).toNat)
  case atStart => exact ⟨2, by omega, by omega, rfl, noDiv_two _⟩
  case round =>
    obtain ⟨k, hk2, hk, rfl, hnd⟩ := hrel
    have HND := Lib.hid hnd
    clear hnd
    have hbl : M.blen k ≤ 64 := (M.blen_le _ _).2 (Nat.lt_of_lt_of_le (show k < 2 ^ 10 by omega) (by decide))
    have hb2 : M.blen k ≤ (l - 1) / 2 + 1 ↔ k < N := by rw [HN.out]; exact M.blen_le _ _
    have hb1 : 1 ≤ M.blen k := M.blen_pos (by omega)
    go_wp2_with fail
    refine (rdeg11 _ _ (by omega) (by omega)).mono ?_
    rintro e w' ⟨rfl, rfl⟩
    rw [Int.toNat_natCast]
    generalize M.blen k = lk at *
    by_cases hlt : k < N
    · have hlk : (lk : Int) - 1 ≤ ((l : Int) - 1) / 2 := by have := hb2.2 hlt; omega
      clear hb2
      go_wp2_with fail
      refine (rmod15 _ _ _ p0 (by omega) (by omega) (by omega)).mono ?_
      rintro e w' ⟨rfl, rfl⟩
      rw [Int.toNat_natCast]
      by_cases hz : M.md p.toNat k = 0
      · have hr := noDiv_false' hk2 hlt hz
        have HR := Lib.hid hr
        clear hr
        have hd : ((M.md p.toNat k : Int) == 0) = true := by simp [hz]
        clear hz
        generalize M.md p.toNat k = m at *
        go_wp2_with fail
        go_ret
        exact ⟨by rw [HL.out, ← HN.out, HR.out]; rfl, rfl⟩
      · have hr := M.noDiv_succ HND.out (Or.inr hz)
        have HR := Lib.hid hr
        clear hr
        have hd : ((M.md p.toNat k : Int) == 0) = false := by simpa using hz
        clear hz
        generalize M.md p.toNat k = m at *
        go_wp2_with fail
        exact ⟨⟨k + 1, by omega, by omega, by go_num, HR.out⟩, by simp [intOf]; omega⟩
    · have hlk : ¬ (lk : Int) - 1 ≤ ((l : Int) - 1) / 2 := by intro h; exact hlt (hb2.1 (by omega))
      clear hb2
      go_wp2_with fail
      go_ret
      obtain rfl : k = N := by omega
      exact ⟨by rw [HL.out, ← HN.out, HND.out]; rfl, rfl⟩

theorem rirr19 (p : Int) (w : World) (p0 : 0 ≤ p) (p1 : p ≤ 4294967295) :
    Calls Try.prog 43 #[.int .u32 p] w fun e w' => e = .returned (.bool (M.irr p.toNat)) ∧ w = w' := by
  by_cases h : M.blen p.toNat < 2 ∨ 17 < M.blen p.toNat
  · refine (rirr19_out p w p0 p1 h).mono ?_
    rintro e w' ⟨rfl, rfl⟩
    have : M.irr p.toNat = false := by
      unfold M.irr
      rcases h with h | h
      · simp [show ¬ 2 ≤ M.blen p.toNat by omega]
      · simp [show ¬ M.blen p.toNat ≤ 17 by omega]
    exact ⟨by rw [this], rfl⟩
  · refine (rirr19_in p w p0 p1 (by omega) (by omega)).mono ?_
    rintro e w' ⟨rfl, rfl⟩
    have : M.irr p.toNat = M.noDiv p.toNat (2 ^ ((M.blen p.toNat - 1) / 2 + 1)) := by
      unfold M.irr
      simp [show 2 ≤ M.blen p.toNat by omega, show M.blen p.toNat ≤ 17 by omega]
    exact ⟨by rw [this], rfl⟩
end Go.Proofs.Ytjojbkkdligpgaa
