/- Contracts of gambrelref04: Few, May and Same. -/
import Derived.Test.YtmpamgnbbomoaaaGreatMta
import Derived.Test.YtmpamgnbbomoaaaGreatRfn
namespace Go.Proofs.YtmpamgnbbomoaaaGreat
open Go.RowKit

abbrev TRI : Nat := 27
theorem underRI : Tryz.prog.underlying TRI = some (.slice TIs) := Tryz.underlying27

/-- what Few tells -/
def FewSaid4 (N : Nat) (Ls : Nat → Nat) (w : World) (e : Ending) (w' : World) : Prop := ∃ t, e = .returned (.bool t) ∧ (t = true → N ≤ 10 ∧ ∀ r, r < N → Ls r ≤ 10) ∧ w = w'

/-- a question is answered; some orders are drawn, and nothing else is changed -/
def SaidQ (p : Prop) (w : World) (e : Ending) (w' : World) : Prop := ∃ t, e = .returned (.bool t) ∧ (t = true ↔ p) ∧ ∃ m, w' = w.drewN m
theorem SaidQ.yes {p : Prop} {w : World} {m : Nat} (h : p) : SaidQ p w (.returned (.bool true)) (w.drewN m) := ⟨true, rfl, by simp [h], m, rfl⟩
theorem SaidQ.no {p : Prop} {w : World} {m : Nat} (h : ¬ p) : SaidQ p w (.returned (.bool false)) (w.drewN m) := ⟨false, rfl, by simp [h], m, rfl⟩

/-- in May's two loops -/
def RMayAt (c n : Nat) (Ls : Nat → Nat) (F : Nat → Nat → Int) (w : World) (s5 : Value) (wr : World) : Prop := ∃ k : Nat, k ≤ n ∧ s5 = .int .i64 k ∧ (∀ r, r < k → Ls r = Ls 0 ∧ allIn c (F r) (Ls r)) ∧ ∃ m, wr = w.drewN m
def RMayIn (c L : Nat) (f : Nat → Int) (w : World) (s6 : Value) (wr : World) : Prop := ∃ j : Nat, j ≤ L ∧ s6 = .int .i64 j ∧ allIn c f j ∧ ∃ m, wr = w.drewN m

set_option maxRecDepth 100000 in
set_option maxHeartbeats 2000000 in
theorem rmay17 (b wd c : Nat) (hk : Kind wd c) (F : Nat → Nat → Int) (Ls : Nat → Nat) (A : Option Addr) (n cap : Nat) (w : World) (hr : Mx b w F Ls A n) :
    Calls Tryz.prog 44 #[.int .i64 wd, .slice A n cap] w (SaidQ (mayP c n Ls F) w) := by
  obtain ⟨As, Cs, hr1, hr2⟩ := hr
  have HR := Lib.hid hr1
  have HRS := Lib.hid hr2
  clear hr1 hr2
  by_cases h1 : 1 ≤ n
  · by_cases h2 : n ≤ 20
    · obtain ⟨ad, rfl, hc0⟩ := HR.out.at_ (show 0 < n by omega)
      rw [show ad.add 0 = ad by simp [Addr.add]] at hc0
      simp only [slis] at hc0
      have hd1 : decide ((n : Int) < 1) = false := by simp; omega
      have hd2 : decide ((20 : Int) < (n : Int)) = false := by simp; omega
      have hn0 : (0 : Int) < (n : Int) := by omega
      by_cases h3 : 1 ≤ Ls 0
      · have hd3 : decide (((Ls 0 : Nat) : Int) < 1) = false := by simp; omega
        by_cases h4 : Ls 0 ≤ 20
        · have hd4 : decide ((20 : Int) < ((Ls 0 : Nat) : Int)) = false := by simp; omega
          have H34 := Lib.hid (show side n ∧ side (Ls 0) from ⟨⟨h1, h2⟩, h3, h4⟩)
          go_enter Tryz.func44, Tryz.ntmps44
          go_wp2_with fail
          go_loopw [5] (fun s5 wr => RMayAt c n Ls F w s5 wr) (fun s5 _ => n - (intOf s5).toNat)
          case atStart => exact ⟨0, Nat.zero_le _, rfl, fun r hr => absurd hr (by omega), 0, rfl⟩
          case round =>
            obtain ⟨k, hk', rfl, hall, q, rfl⟩ := hrel
            have HALL := Lib.hid hall
            clear hall
            by_cases hlt : k < n
            · obtain ⟨ad2, e2, hc2⟩ := HR.out.at_ hlt
              injection e2 with e2
              subst e2
              simp only [slis] at hc2
              have d0 : (w.drewN q).cell? ad = some (.slice (As 0) (Ls 0) (Cs 0)) := hc0
              have d2 : (w.drewN q).cell? (ad.add k) = some (.slice (As k) (Ls k) (Cs k)) := hc2
              have hk63 : (k : Int) < (n : Int) := by omega
              by_cases he : Ls k = Ls 0
              · have hne : (((Ls k : Nat) : Int) != ((Ls 0 : Nat) : Int)) = false := by simp [he]
                have HE0 := Lib.hid he
                have hlk : Ls k ≤ 20 := by omega
                clear he
                go_wp2_with fail
                go_quiet (fail)
                rw [World.drewN_drewN]
                generalize hqq : q + nq = q1
                clear hqq d0 d2
                have d2 : (w.drewN q1).cell? (ad.add k) = some (.slice (As k) (Ls k) (Cs k)) := hc2
                go_wp2_with fail
                go_loopw [6] (fun s6 wr => RMayIn c (Ls k) (F k) w s6 wr) (fun s6 _ => Ls k - (intOf s6).toNat)
                case atStart => exact ⟨0, Nat.zero_le _, rfl, fun j hj => absurd hj (by omega), q1, rfl⟩
                case round =>
                  obtain ⟨j, hj, rfl, hin, q2, rfl⟩ := hrel
                  have HIN := Lib.hid hin
                  have d3 : (w.drewN q2).cell? (ad.add k) = some (.slice (As k) (Ls k) (Cs k)) := hc2
                  clear d2 hin
                  by_cases hlt2 : j < Ls k
                  · obtain ⟨ad3, hA3, hc3⟩ := (HRS.out k hlt).at_ hlt2
                    rw [hA3] at d3
                    simp only [i64s] at hc3
                    have d4 : (w.drewN q2).cell? (ad3.add j) = some (.int .i64 (F k j)) := hc3
                    clear hc3 hA3
                    obtain ⟨x, hx⟩ : ∃ x, F k j = x := ⟨_, rfl⟩
                    rw [hx] at d4
                    have HX := Lib.hid hx
                    clear hx
                    cases hib : inB c x
                    · have HB := Lib.hid hib
                      have HE := Lib.hid (fun m => SaidQ.no (w := w) (m := m) (show ¬ mayP c n Ls F from fun h => by have := (h.2.2 k hlt).2 j hlt2; rw [HX.out] at this; exact absurd this (inB_false.1 hib)))
                      clear hib
                      go_wp2_with fail
                      refine (rin32 wd c hk x _).mono ?_
                      rintro e w' ⟨rfl, rfl⟩
                      rw [HB.out]
                      go_wp2_with fail
                      go_ret
                      exact HE.out _
                    · have HB := Lib.hid hib
                      have HNX := Lib.hid (show allIn c (F k) (j + 1) from fun i hi => (Nat.lt_succ_iff_lt_or_eq.1 hi).elim (fun h => HIN.out i h) (fun h => by rw [h, HX.out]; exact inB_iff.1 hib))
                      clear hib
                      go_wp2_with fail
                      refine (rin32 wd c hk x _).mono ?_
                      rintro e w' ⟨rfl, rfl⟩
                      rw [HB.out]
                      go_wp2_with fail
                      exact ⟨⟨j + 1, hlt2, by go_num, HNX.out, q2, rfl⟩, by simp [intOf]; omega⟩
                  · obtain rfl : j = Ls k := by omega
                    have HNX := Lib.hid (show ∀ r, r < k + 1 → Ls r = Ls 0 ∧ allIn c (F r) (Ls r) from fun r hr => (Nat.lt_succ_iff_lt_or_eq.1 hr).elim (fun h => HALL.out r h) (fun h => by rw [h]; exact ⟨HE0.out, HIN.out⟩))
                    go_wp2_with fail
                    exact ⟨⟨k + 1, hlt, by go_num, HNX.out, q2, rfl⟩, by simp [intOf]; omega⟩
              · have hne : (((Ls k : Nat) : Int) != ((Ls 0 : Nat) : Int)) = true := by simp; omega
                have HE := Lib.hid (fun m => SaidQ.no (w := w) (m := m) (show ¬ mayP c n Ls F from fun h => he (h.2.2 k hlt).1))
                clear he
                go_wp2_with fail
                go_quiet (fail)
                rw [World.drewN_drewN]
                go_wp2_with fail
                go_ret
                exact HE.out _
            · obtain rfl : k = n := by omega
              have HE := Lib.hid (fun m => SaidQ.yes (w := w) (m := m) (show mayP c k Ls F from ⟨H34.out.1, H34.out.2, HALL.out⟩))
              go_wp2_with fail
              go_ret
              exact HE.out _
        · have hd4 : decide ((20 : Int) < ((Ls 0 : Nat) : Int)) = true := by simp; omega
          have HE := Lib.hid (SaidQ.no (w := w) (m := 0) (show ¬ mayP c n Ls F from fun h => h4 h.2.1.2))
          go_enter Tryz.func44, Tryz.ntmps44
          go_wp2_with fail
          go_ret
          exact HE.out
      · have hd3 : decide (((Ls 0 : Nat) : Int) < 1) = true := by simp; omega
        have HE := Lib.hid (SaidQ.no (w := w) (m := 0) (show ¬ mayP c n Ls F from fun h => h3 h.2.1.1))
        go_enter Tryz.func44, Tryz.ntmps44
        go_wp2_with fail
        go_ret
        exact HE.out
    · have hd1 : decide ((n : Int) < 1) = false := by simp; omega
      have hd2 : decide ((20 : Int) < (n : Int)) = true := by simp; omega
      have HE := Lib.hid (SaidQ.no (w := w) (m := 0) (show ¬ mayP c n Ls F from fun h => h2 h.1.2))
      go_enter Tryz.func44, Tryz.ntmps44
      go_wp2_with fail
      go_ret
      exact HE.out
  · have hd1 : decide ((n : Int) < 1) = true := by simp; omega
    have HE := Lib.hid (SaidQ.no (w := w) (m := 0) (show ¬ mayP c n Ls F from fun h => h1 h.1.1))
    go_enter Tryz.func44, Tryz.ntmps44
    go_wp2_with fail
    go_ret
    exact HE.out

set_option maxRecDepth 100000 in
set_option maxHeartbeats 2000000 in
/-- Same, of two matrices that are the same -/
theorem same19 (b b' : Nat) (F G : Nat → Nat → Int) (La Lb : Nat → Nat) (A B : Option Addr) (n ca cb : Nat) (hn : n ≤ 1000) (hl : ∀ r, r < n → La r ≤ 1000) (w : World) (ha : Mx b w F La A n) (hb : Mx b' w G Lb B n)
    (h1 : ∀ r, r < n → La r = Lb r) (h2 : ∀ r, r < n → ∀ j, j < La r → F r j = G r j) :
    Calls Tryz.prog 13 #[.slice A n ca, .slice B n cb] w fun e w' => e = .returned (.bool true) ∧ ∃ m, w' = w.drewN m := by
  obtain ⟨As, Ca, a1, a2⟩ := ha
  obtain ⟨Bs, Cb, b1, b2⟩ := hb
  have A1 := Lib.hid a1
  have A2 := Lib.hid a2
  have B1 := Lib.hid b1
  have B2 := Lib.hid b2
  have HL := Lib.hid hl
  have H1 := Lib.hid h1
  have H2 := Lib.hid h2
  clear a1 a2 b1 b2 hl h1 h2
  go_enter Tryz.func13, Tryz.ntmps13
  go_wp2_with fail
  go_loopw [5] (fun s5 wr => ∃ k : Nat, k ≤ n ∧ s5 = .int .i64 k ∧ ∃ m, wr = w.drewN m) (fun s5 _ => n - (intOf s5).toNat)
  case atStart => exact ⟨0, Nat.zero_le _, rfl, 0, rfl⟩
  case round =>
    obtain ⟨k, hk, rfl, q, rfl⟩ := hrel
    by_cases hlt : k < n
    · obtain ⟨ad, rfl, hc1⟩ := A1.out.at_ hlt
      obtain ⟨ad', rfl, hc2⟩ := B1.out.at_ hlt
      simp only [slis] at hc1 hc2
      have hLk := HL.out k hlt
      rw [← H1.out k hlt] at hc2
      have d1 : (w.drewN q).cell? (ad.add k) = some (.slice (As k) (La k) (Ca k)) := hc1
      have d2 : (w.drewN q).cell? (ad'.add k) = some (.slice (Bs k) (La k) (Cb k)) := hc2
      have hk63 : (k : Int) < (n : Int) := by omega
      go_wp2_with fail
      go_quiet (fail)
      rw [World.drewN_drewN]
      generalize hqq : q + nq = q1
      clear hqq d1 d2
      have d1 : (w.drewN q1).cell? (ad.add k) = some (.slice (As k) (La k) (Ca k)) := hc1
      go_wp2_with fail
      go_loopw [6] (fun s6 wr => ∃ j : Nat, j ≤ La k ∧ s6 = .int .i64 j ∧ ∃ m, wr = w.drewN m) (fun s6 _ => La k - (intOf s6).toNat)
      case atStart => exact ⟨0, Nat.zero_le _, rfl, q1, rfl⟩
      case round =>
        obtain ⟨j, hj, rfl, q2, rfl⟩ := hrel
        clear d1
        have d1 : (w.drewN q2).cell? (ad.add k) = some (.slice (As k) (La k) (Ca k)) := hc1
        have d2 : (w.drewN q2).cell? (ad'.add k) = some (.slice (Bs k) (La k) (Cb k)) := hc2
        by_cases hlt2 : j < La k
        · obtain ⟨x1, hA3, hc3⟩ := (A2.out k hlt).at_ hlt2
          obtain ⟨x2, hB3, hc4⟩ := (B2.out k hlt).at_ (by rw [← H1.out k hlt]; exact hlt2)
          rw [hA3] at d1 hc1
          rw [hB3] at d2 hc2
          simp only [i64s] at hc3 hc4
          rw [← H2.out k hlt j hlt2] at hc4
          have d3 : (w.drewN q2).cell? (x1.add j) = some (.int .i64 (F k j)) := hc3
          have d4 : (w.drewN q2).cell? (x2.add j) = some (.int .i64 (F k j)) := hc4
          clear hA3 hB3
          obtain ⟨x, hx⟩ : ∃ x, F k j = x := ⟨_, rfl⟩
          rw [hx] at d3 d4 hc3 hc4
          clear hx
          have hj63 : (j : Int) < ((La k : Nat) : Int) := by omega
          go_wp2_with fail
          go_quiet (fail)
          rw [World.drewN_drewN]
          go_wp2_with fail
          exact ⟨⟨j + 1, hlt2, by go_num, _, rfl⟩, by simp [intOf]; omega⟩
        · obtain rfl : j = La k := by omega
          go_wp2_with fail
          exact ⟨⟨k + 1, hlt, by go_num, q2, rfl⟩, by simp [intOf]; omega⟩
    · obtain rfl : k = n := by omega
      go_wp2_with fail
      go_ret
      exact ⟨rfl, _, rfl⟩
end Go.Proofs.YtmpamgnbbomoaaaGreat
