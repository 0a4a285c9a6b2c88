/- Contracts of gambrelref04: Few, May and Same. -/
import Derived.Test.YtmpamgnbbomoaaaMta
import Derived.Test.YtmpamgnbbomoaaaRfn
namespace Go.Proofs.Ytmpamgnbbomoaaa
open Go.RowKit

abbrev TRI : Nat := 28
theorem underRI : Try.prog.underlying TRI = some (.slice TIs) := Try.underlying28

/-- what Few tells -/
def FewSaid4 (N : Nat) (Ls : Nat → Nat) (w : World) (e : Ending) (w' : World) : Prop := ∃ t, e = .returned (.bool t) ∧ (t = true → N ≤ 10 ∧ ∀ r, r < N → Ls r ≤ 10) ∧ w = w'

/-- a question is answered; some orders are drawn, and nothing else is changed -/
def SaidQ (p : Prop) (w : World) (e : Ending) (w' : World) : Prop := ∃ t, e = .returned (.bool t) ∧ (t = true ↔ p) ∧ ∃ m, w' = w.drewN m
theorem SaidQ.yes {p : Prop} {w : World} {m : Nat} (h : p) : SaidQ p w (.returned (.bool true)) (w.drewN m) := ⟨true, rfl, by simp [h], m, rfl⟩
theorem SaidQ.no {p : Prop} {w : World} {m : Nat} (h : ¬ p) : SaidQ p w (.returned (.bool false)) (w.drewN m) := ⟨false, rfl, by simp [h], m, rfl⟩

/-- in May's two loops -/
def RMayAt (c n : Nat) (Ls : Nat → Nat) (F : Nat → Nat → Int) (w : World) (s5 : Value) (wr : World) : Prop := ∃ k : Nat, k ≤ n ∧ s5 = .int .i64 k ∧ (∀ r, r < k → Ls r = Ls 0 ∧ allIn c (F r) (Ls r)) ∧ ∃ m, wr = w.drewN m
def RMayIn (c L : Nat) (f : Nat → Int) (w : World) (s6 : Value) (wr : World) : Prop := ∃ j : Nat, j ≤ L ∧ s6 = .int .i64 j ∧ allIn c f j ∧ ∃ m, wr = w.drewN m

set_option maxRecDepth 100000 in
set_option maxHeartbeats 2000000 in
/-- Same, of two matrices that are the same -/
theorem same19 (b b' : Nat) (F G : Nat → Nat → Int) (La Lb : Nat → Nat) (A B : Option Addr) (n ca cb : Nat) (hn : n ≤ 1000) (hl : ∀ r, r < n → La r ≤ 1000) (w : World) (ha : Mx b w F La A n) (hb : Mx b' w G Lb B n)
    (h1 : ∀ r, r < n → La r = Lb r) (h2 : ∀ r, r < n → ∀ j, j < La r → F r j = G r j) :
    Calls Try.prog 14 #[.slice A n ca, .slice B n cb] w fun e w' => e = .returned (.bool true) ∧ ∃ m, w' = w.drewN m := by
  obtain ⟨As, Ca, a1, a2⟩ := ha
  obtain ⟨Bs, Cb, b1, b2⟩ := hb
  have A1 := Lib.hid a1
  have A2 := Lib.hid a2
  have B1 := Lib.hid b1
  have B2 := Lib.hid b2
  have HL := Lib.hid hl
  have H1 := Lib.hid h1
  have H2 := Lib.hid h2
  clear a1 a2 b1 b2 hl h1 h2
  go_enter Try.func14, Try.ntmps14
  go_wp2_with fail
  go_loopw [5] (fun s5 wr => ∃ k : Nat, k ≤ n ∧ s5 = .int .i64 k ∧ ∃ m, wr = w.drewN m) (fun s5 _ => n - (intOf s5).toNat)
  case atStart => exact ⟨0, Nat.zero_le _, rfl, 0, rfl⟩
  case round =>
    obtain ⟨k, hk, rfl, q, rfl⟩ := hrel
    by_cases hlt : k < n
    · obtain ⟨ad, rfl, hc1⟩ := A1.out.at_ hlt
      obtain ⟨ad', rfl, hc2⟩ := B1.out.at_ hlt
      simp only [slis] at hc1 hc2
      have hLk := HL.out k hlt
      rw [← H1.out k hlt] at hc2
      have d1 : (w.drewN q).cell? (ad.add k) = some (.slice (As k) (La k) (Ca k)) := hc1
      have d2 : (w.drewN q).cell? (ad'.add k) = some (.slice (Bs k) (La k) (Cb k)) := hc2
      have hk63 : (k : Int) < (n : Int) := by omega
      go_wp2_with fail
      go_quiet (fail)
      rw [World.drewN_drewN]
      generalize hqq : q + nq = q1
      clear hqq d1 d2
      have d1 : (w.drewN q1).cell? (ad.add k) = some (.slice (As k) (La k) (Ca k)) := hc1
      go_wp2_with fail
      go_loopw [6] (fun s6 wr => ∃ j : Nat, j ≤ La k ∧ s6 = .int .i64 j ∧ ∃ m, wr = w.drewN m) (fun s6 _ => La k - (intOf s6).toNat)
      case atStart => exact ⟨0, Nat.zero_le _, rfl, q1, rfl⟩
      case round =>
        obtain ⟨j, hj, rfl, q2, rfl⟩ := hrel
        clear d1
        have d1 : (w.drewN q2).cell? (ad.add k) = some (.slice (As k) (La k) (Ca k)) := hc1
        have d2 : (w.drewN q2).cell? (ad'.add k) = some (.slice (Bs k) (La k) (Cb k)) := hc2
        by_cases hlt2 : j < La k
        · obtain ⟨x1, hA3, hc3⟩ := (A2.out k hlt).at_ hlt2
          obtain ⟨x2, hB3, hc4⟩ := (B2.out k hlt).at_ (by rw [← H1.out k hlt]; exact hlt2)
          rw [hA3] at d1 hc1
          rw [hB3] at d2 hc2
          simp only [i64s] at hc3 hc4
          rw [← H2.out k hlt j hlt2] at hc4
          have d3 : (w.drewN q2).cell? (x1.add j) = some (.int .i64 (F k j)) := hc3
          have d4 : (w.drewN q2).cell? (x2.add j) = some (.int .i64 (F k j)) := hc4
          clear hA3 hB3
          obtain ⟨x, hx⟩ : ∃ x, F k j = x := ⟨_, rfl⟩
          rw [hx] at d3 d4 hc3 hc4
          clear hx
          have hj63 : (j : Int) < ((La k : Nat) : Int) := by omega
          go_wp2_with fail
          go_quiet (fail)
          rw [World.drewN_drewN]
          go_wp2_with fail
          exact ⟨⟨j + 1, hlt2, by go_num, _, rfl⟩, by simp [intOf]; omega⟩
        · obtain rfl : j = La k := by omega
          go_wp2_with fail
          exact ⟨⟨k + 1, hlt, by go_num, q2, rfl⟩, by simp [intOf]; omega⟩
    · obtain rfl : k = n := by omega
      go_wp2_with fail
      go_ret
      exact ⟨rfl, _, rfl⟩
end Go.Proofs.Ytmpamgnbbomoaaa
