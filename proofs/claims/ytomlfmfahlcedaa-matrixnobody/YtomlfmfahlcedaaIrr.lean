/- The contract of poly.Irreducible. -/
import Derived.Test.YtomlfmfahlcedaaMod
namespace Go.Proofs.Ytomlfmfahlcedaa
open Go.RowKit

set_option maxRecDepth 100000 in
set_option maxHeartbeats 1000000 in
theorem irr18_out (p : Int) (w : World) (p0 : 0 ≤ p) (p1 : p ≤ 4294967295) (h : M.blen p.toNat < 2 ∨ 17 < M.blen p.toNat) :
    Calls Try.prog 46 #[.int .u32 p] w fun e w' => e = .returned (.bool false) ∧ w = w' := by
  go_enter Try.func46, Try.ntmps46
  go_wp2_with fail
  refine (deg10 _ _ p0 (by omega)).mono ?_
  rintro e w' ⟨rfl, rfl⟩
  have hl : M.blen p.toNat ≤ 32 := (M.blen_le _ _).2 (by omega)
  generalize M.blen p.toNat = l at *
  by_cases h2 : l < 2
  · have : decide ((l : Int) - 1 < 1) = true := by simp; omega
    go_wp2
    go_ret
    exact ⟨rfl, rfl⟩
  · have : decide ((l : Int) - 1 < 1) = false := by simp; omega
    have : decide (16 < (l : Int) - 1) = true := by simp; omega
    go_wp2
    go_ret
    exact ⟨rfl, rfl⟩

def IrrAt (P N : Nat) (w wr : World) (i : Value) : Prop := ∃ k : Nat, k ≤ N ∧ i = .int .u32 k ∧ M.noDiv P k = true ∧ Below w.heap.size w wr

theorem noDiv_false' {p n m : Nat} (h2 : 2 ≤ n) (hm : n < m) (h : M.md p n = 0) : M.noDiv p m = false := M.noDiv_false h2 hm h

set_option maxRecDepth 100000 in
set_option maxHeartbeats 1000000 in
theorem irr18_in (p : Int) (w : World) (p0 : 0 ≤ p) (p1 : p ≤ 4294967295) (h2 : 2 ≤ M.blen p.toNat) (h17 : M.blen p.toNat ≤ 17) :
    Calls Try.prog 46 #[.int .u32 p] w fun e w' => e = .returned (.bool (M.noDiv p.toNat (2 ^ ((M.blen p.toNat - 1) / 2 + 1)))) ∧ Below w.heap.size w w' := by
  go_enter Try.func46, Try.ntmps46
  go_wp2_with fail
  refine (deg10 _ _ p0 (by omega)).mono ?_
  rintro e w' ⟨rfl, rfl⟩
  generalize hL : M.blen p.toNat = l at *
  have HL := Lib.hid hL
  clear hL
  have d1 : decide ((l : Int) - 1 < 1) = false := by simp; omega
  have d2 : decide (16 < (l : Int) - 1) = false := by simp; omega
  go_wp2_with fail
  obtain ⟨N, hN, hN9⟩ : ∃ N : Nat, N = 2 ^ ((l - 1) / 2 + 1) ∧ N ≤ 512 := ⟨_, rfl, show 2 ^ ((l - 1) / 2 + 1) ≤ 2 ^ 9 from Nat.pow_le_pow_right (by decide) (by omega)⟩
  have e : (2 : Int) ^ ((l - 1) / 2 + 1) % 4294967296 = (N : Int) := by
    rw [show (2 : Int) ^ ((l - 1) / 2 + 1) = ((2 ^ ((l - 1) / 2 + 1) : Nat) : Int) by simp, ← hN]; omega
  rw [e]
  have HN := Lib.hid hN
  clear e hN
  go_loopw [18] (fun i wr => IrrAt p.toNat N w wr i) (fun i _ => N - (intOf i).toNat)
  case atStart => exact ⟨0, by omega, rfl, rfl, Below.refl _ _⟩
  case round =>
    obtain ⟨k, hk, rfl, hnd, hb⟩ := hrel
    have HND := Lib.hid hnd
    have HB := Lib.hid hb
    clear hnd hb
    by_cases hlt : k < N
    · go_wp2_with fail
      refine (deg10 _ _ (by omega) (by omega)).mono ?_
      rintro e w' ⟨rfl, rfl⟩
      rw [Int.toNat_natCast]
      have hbl : M.blen k ≤ 64 := (M.blen_le _ _).2 (Nat.lt_of_lt_of_le (show k < 2 ^ 9 by omega) (by decide))
      have hb2 : 2 ≤ M.blen k ↔ 2 ≤ k := by have := M.lt_blen k 1; omega
      generalize M.blen k = lk at *
      by_cases hk2 : 2 ≤ k
      · have d3 : decide (1 ≤ (lk : Int) - 1) = true := by simp; omega
        have d4 : 1 ≤ (lk : Int) - 1 := by omega
        clear hb2
        go_wp2_with fail
        refine (mod14 _ _ _ p0 (by omega) (by omega) (by omega)).mono ?_
        rintro e w2 ⟨rfl, hb2⟩
        rw [Int.toNat_natCast]
        have H2 := Lib.hid (HB.out.trans (hb2.mono HB.out.size))
        clear hb2
        by_cases hz : M.md p.toNat k = 0
        · have hr := noDiv_false' hk2 hlt hz
          have HR := Lib.hid hr
          clear hr
          have hd : ((M.md p.toNat k : Int) == 0) = true := by simp [hz]
          clear hz
          generalize M.md p.toNat k = m at *
          go_wp2_with fail
          go_ret
          exact ⟨by rw [HL.out, ← HN.out, HR.out]; rfl, H2.out⟩
        · have hr := M.noDiv_succ HND.out (Or.inr hz)
          have HR := Lib.hid hr
          clear hr
          have hd : ((M.md p.toNat k : Int) == 0) = false := by simpa using hz
          clear hz
          generalize M.md p.toNat k = m at *
          go_wp2_with fail
          exact ⟨⟨k + 1, by omega, by go_num, HR.out, H2.out⟩, by simp [intOf]; omega⟩
      · have d3 : decide (1 ≤ (lk : Int) - 1) = false := by simp; omega
        have hr := M.noDiv_succ HND.out (Or.inl (show k < 2 by omega))
        have HR := Lib.hid hr
        clear hr hb2
        go_wp2_with fail
        exact ⟨⟨k + 1, by omega, by go_num, HR.out, HB.out⟩, by simp [intOf]; omega⟩
    · go_wp2_with fail
      go_ret
      obtain rfl : k = N := by omega
      exact ⟨by rw [HL.out, ← HN.out, HND.out]; rfl, HB.out⟩

theorem irr18 (p : Int) (w : World) (p0 : 0 ≤ p) (p1 : p ≤ 4294967295) :
    Calls Try.prog 46 #[.int .u32 p] w fun e w' => e = .returned (.bool (M.irr p.toNat)) ∧ Below w.heap.size w w' := by
  by_cases h : M.blen p.toNat < 2 ∨ 17 < M.blen p.toNat
  · refine (irr18_out p w p0 p1 h).mono ?_
    rintro e w' ⟨rfl, rfl⟩
    have : M.irr p.toNat = false := by
      unfold M.irr
      rcases h with h | h
      · simp [show ¬ 2 ≤ M.blen p.toNat by omega]
      · simp [show ¬ M.blen p.toNat ≤ 17 by omega]
    exact ⟨by rw [this], Below.refl _ _⟩
  · refine (irr18_in p w p0 p1 (by omega) (by omega)).mono ?_
    rintro e w' ⟨rfl, hb⟩
    have : M.irr p.toNat = M.noDiv p.toNat (2 ^ ((M.blen p.toNat - 1) / 2 + 1)) := by
      unfold M.irr
      simp [show 2 ≤ M.blen p.toNat by omega, show M.blen p.toNat ≤ 17 by omega]
    exact ⟨by rw [this], hb⟩
end Go.Proofs.Ytomlfmfahlcedaa
