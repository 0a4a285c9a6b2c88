/- Matrices as they are read; contracts of package matrix: isSide, areNumbers and May. -/
import Derived.Test.YtmpamgnbbomoaaaGreatSlg
namespace Go.Proofs.YtmpamgnbbomoaaaGreat
open Go.RowKit

/-- rows of numbers, as they are read: row r has Ls r numbers, F r 0, F r 1, .. -/
def Mx (b : Nat) (w : World) (F : Nat → Nat → Int) (Ls : Nat → Nat) (A : Option Addr) (n : Nat) : Prop :=
  ∃ As Cs, Rd b w (slis As Ls Cs) A n ∧ ∀ r, r < n → Rd b w (i64s (F r)) (As r) (Ls r)
theorem Mx.turned {b : Nat} {w w' : World} {F : Nat → Nat → Int} {Ls : Nat → Nat} {A : Option Addr} {n : Nat} (h : Mx b w F Ls A n) (ht : Turned b w w') : Mx b w' F Ls A n := by
  obtain ⟨As, Cs, h1, h2⟩ := h
  exact ⟨As, Cs, h1.turned ht, fun r hr => (h2 r hr).turned ht⟩
theorem Mx.below {b : Nat} {w w' : World} {F : Nat → Nat → Int} {Ls : Nat → Nat} {A : Option Addr} {n : Nat} (h : Mx b w F Ls A n) (ht : Below w.heap.size w w') : Mx b w' F Ls A n := h.turned (Turned.of_below ht)
theorem Mx.zero {b : Nat} {w : World} {F : Nat → Nat → Int} {Ls : Nat → Nat} {A : Option Addr} : Mx b w F Ls A 0 := ⟨fun _ => none, fun _ => 0, Rd.zero, fun r hr => absurd hr (by omega)⟩
theorem Mx.congr {b : Nat} {w : World} {F F' : Nat → Nat → Int} {Ls Ls' : Nat → Nat} {A : Option Addr} {n : Nat} (h : Mx b w F Ls A n) (h1 : ∀ r, r < n → Ls r = Ls' r) (h2 : ∀ r, r < n → ∀ j, j < Ls r → F r j = F' r j) : Mx b w F' Ls' A n := by
  obtain ⟨As, Cs, g1, g2⟩ := h
  refine ⟨As, Cs, g1.congr (fun j hj => by simp only [slis]; rw [h1 j hj]), fun r hr => ?_⟩
  rw [← h1 r hr]
  exact (g2 r hr).congr (fun j hj => by simp only [i64s]; rw [h2 r hr j hj])

/-- a question is answered, and nothing is changed -/
def SaidB (p : Prop) (w : World) (e : Ending) (w' : World) : Prop := ∃ t, e = .returned (.bool t) ∧ (t = true ↔ p) ∧ w = w'
theorem SaidB.yes {p : Prop} {w : World} (h : p) : SaidB p w (.returned (.bool true)) w := ⟨true, rfl, by simp [h], rfl⟩
theorem SaidB.no {p : Prop} {w : World} (h : ¬ p) : SaidB p w (.returned (.bool false)) w := ⟨false, rfl, by simp [h], rfl⟩

/-- may a matrix have so many rows, or a row so many numbers? -/
def side (n : Nat) : Prop := 1 ≤ n ∧ n ≤ 20

set_option maxRecDepth 100000 in
theorem side28 (n : Nat) (w : World) : Calls Tryz.prog 60 #[.int .i64 n] w (SaidB (side n) w) := by
  by_cases h1 : 1 ≤ n
  · by_cases h2 : n ≤ 20
    · have HE := Lib.hid (SaidB.yes (w := w) (show side n from ⟨h1, h2⟩))
      have hd : decide ((n : Int) ≤ 20) = true := by simp; omega
      go_enter Tryz.func60, Tryz.ntmps60
      go_wp2_with fail
      go_ret
      exact HE.out
    · have HE := Lib.hid (SaidB.no (w := w) (show ¬ side n from fun h => h2 h.2))
      have hd : decide ((n : Int) ≤ 20) = false := by simp; omega
      go_enter Tryz.func60, Tryz.ntmps60
      go_wp2_with fail
      go_ret
      exact HE.out
  · have HE := Lib.hid (SaidB.no (w := w) (show ¬ side n from fun h => h1 h.1))
    have hd : decide (1 ≤ (n : Int)) = false := by simp; omega
    go_enter Tryz.func60, Tryz.ntmps60
    go_wp2_with fail
    go_ret
    exact HE.out

set_option maxRecDepth 100000 in
/-- isSide, of a number below 0 -/
theorem side_neg (n : Int) (hn : n < 1) (w : World) : Calls Tryz.prog 60 #[.int .i64 n] w fun e w' => e = .returned (.bool false) ∧ w = w' := by
  have hd : decide (1 ≤ n) = false := by simp; omega
  go_enter Tryz.func60, Tryz.ntmps60
  go_wp2_with fail
  go_ret
  exact ⟨rfl, rfl⟩
theorem side_big (n : Int) (hn : 20 < n) (w : World) : Calls Tryz.prog 60 #[.int .i64 n] w fun e w' => e = .returned (.bool false) ∧ w = w' := by
  have hd : decide (1 ≤ n) = true := by simp; omega
  have hd : decide (n ≤ 20) = false := by simp; omega
  go_enter Tryz.func60, Tryz.ntmps60
  go_wp2_with fail
  go_ret
  exact ⟨rfl, rfl⟩

set_option maxRecDepth 100000 in
set_option maxHeartbeats 1000000 in
theorem nums31 (b wd c : Nat) (hk : Kind wd c) (l : Nat → Int) (A : Option Addr) (n cap : Nat) (hn : n ≤ 100000) (w : World) (hc : w.cell? ⟨b, 0, none⟩ = some (.int .i64 wd)) (hr : Rd b w (i64s l) A n) :
    Calls Tryz.prog 61 #[.pointer (some ⟨b, 0, none⟩), .slice A n cap] w (SaidB (allIn c l n) w) := by
  have hkb := hk.bounds
  have HR := Lib.hid hr
  clear hr
  go_enter Tryz.func61, Tryz.ntmps61
  go_wp2_with fail
  refine (size13 b wd c hk _ hc).mono ?_
  rintro e w' ⟨rfl, rfl⟩
  go_wp2_with fail
  go_loop [12] (fun s12 => ∃ k : Nat, k ≤ n ∧ s12 = .int .i64 k ∧ Hid (allIn c l k)) (fun s12 => n - (intOf s12).toNat)
  case atStart => exact ⟨0, Nat.zero_le _, rfl, Lib.hid (fun j hj => absurd hj (by omega))⟩
  case round =>
    obtain ⟨k, hk', rfl, hall⟩ := hrel
    by_cases hlt : k < n
    · obtain ⟨ad, rfl, hcell⟩ := HR.out.at_ hlt
      simp only [i64s] at hcell
      obtain ⟨x, hx⟩ : ∃ x, l k = x := ⟨_, rfl⟩
      have HX := Lib.hid hx
      rw [hx] at hcell
      clear hx
      by_cases h0 : 0 ≤ x
      · by_cases h1 : x ≤ c
        · have hd0 : decide (x < 0) = false := by simp; omega
          have hd1 : decide ((c : Int) + 1 ≤ x) = false := by simp; omega
          have HS := Lib.hid (show allIn c l (k + 1) from fun j hj => (Nat.lt_succ_iff_lt_or_eq.1 hj).elim (fun h => hall.out j h) (fun h => by rw [h, HX.out]; exact ⟨h0, h1⟩))
          go_wp2_with fail
          exact ⟨⟨k + 1, hlt, by go_num, HS⟩, by simp [intOf]; omega⟩
        · have hd0 : decide (x < 0) = false := by simp; omega
          have hd1 : decide ((c : Int) + 1 ≤ x) = true := by simp; omega
          have HE := Lib.hid (SaidB.no (w := w) (show ¬ allIn c l n from fun h => h1 (by have := (h k hlt).2; rwa [HX.out] at this)))
          go_wp2_with fail
          go_ret
          exact HE.out
      · have hd0 : decide (x < 0) = true := by simp; omega
        have HE := Lib.hid (SaidB.no (w := w) (show ¬ allIn c l n from fun h => h0 (by have := (h k hlt).1; rwa [HX.out] at this)))
        go_wp2_with fail
        go_ret
        exact HE.out
    · obtain rfl : k = n := by omega
      have HE := Lib.hid (SaidB.yes (w := w) hall.out)
      go_wp2_with fail
      go_ret
      exact HE.out

/-- may these rows be a matrix over a field whose greatest number is c? -/
def mayP (c n : Nat) (Ls : Nat → Nat) (F : Nat → Nat → Int) : Prop := side n ∧ side (Ls 0) ∧ ∀ r, r < n → Ls r = Ls 0 ∧ allIn c (F r) (Ls r)

set_option maxRecDepth 100000 in
set_option maxHeartbeats 1000000 in
theorem may_nil (A : Option Addr) (n cap : Nat) (w : World) : Calls Tryz.prog 41 #[.pointer none, .slice A n cap] w fun e w' => e = .returned (.bool false) ∧ w = w' := by
  go_enter Tryz.func41, Tryz.ntmps41
  go_wp2_with fail
  go_ret
  exact ⟨rfl, rfl⟩

set_option maxRecDepth 100000 in
set_option maxHeartbeats 1000000 in
theorem may16 (b wd c : Nat) (hk : Kind wd c) (F : Nat → Nat → Int) (Ls : Nat → Nat) (A : Option Addr) (n cap : Nat) (w : World) (hc : w.cell? ⟨b, 0, none⟩ = some (.int .i64 wd)) (hr : Mx b w F Ls A n) :
    Calls Tryz.prog 41 #[.pointer (some ⟨b, 0, none⟩), .slice A n cap] w (SaidB (mayP c n Ls F) w) := by
  obtain ⟨As, Cs, hr1, hr2⟩ := hr
  have HR := Lib.hid hr1
  have HRS := Lib.hid hr2
  clear hr1 hr2
  go_enter Tryz.func41, Tryz.ntmps41
  go_wp2_with fail
  refine (side28 n _).mono ?_
  rintro e w' ⟨t, rfl, ht, rfl⟩
  cases t
  · have HE := Lib.hid (SaidB.no (w := w) (show ¬ mayP c n Ls F from fun h => by have := ht.2 h.1; cases this))
    clear ht
    go_wp2_with fail
    go_ret
    exact HE.out
  have hs := ht.1 rfl
  have HN := Lib.hid hs
  have hn1 : 0 < n := by have := hs.1; omega
  have hn2 : n ≤ 20 := hs.2
  clear ht hs
  obtain ⟨ad, rfl, hcell0⟩ := HR.out.at_ hn1
  have h00 : ad.add 0 = ad := by simp [Addr.add]
  rw [h00] at hcell0
  simp only [slis] at hcell0
  clear h00
  go_wp2_with fail
  refine (side28 (Ls 0) _).mono ?_
  rintro e w' ⟨t, rfl, ht, rfl⟩
  cases t
  · have HE := Lib.hid (SaidB.no (w := w) (show ¬ mayP c n Ls F from fun h => by have := ht.2 h.2.1; cases this))
    clear ht
    go_wp2_with fail
    go_ret
    exact HE.out
  have hs := ht.1 rfl
  have HL := Lib.hid hs
  have hl2 : Ls 0 ≤ 20 := hs.2
  clear ht hs
  go_wp2_with fail
  go_loop [25] (fun s25 => ∃ k : Nat, k ≤ n ∧ s25 = .int .i64 k ∧ Hid (∀ r, r < k → Ls r = Ls 0 ∧ allIn c (F r) (Ls r))) (fun s25 => n - (intOf s25).toNat)
  case atStart => exact ⟨0, Nat.zero_le _, rfl, Lib.hid (fun j hj => absurd hj (by omega))⟩
  case round =>
    obtain ⟨k, hk', rfl, hall⟩ := hrel
    by_cases hlt : k < n
    · obtain ⟨ad', e', hcell⟩ := HR.out.at_ hlt
      injection e' with e'
      subst e'
      simp only [slis] at hcell
      by_cases he : Ls k = Ls 0
      · have hne : (((Ls k : Nat) : Int) != ((Ls 0 : Nat) : Int)) = false := by simp [he]
        have HE0 := Lib.hid he
        have hlk : Ls k ≤ 100000 := by omega
        clear he
        go_wp2_with fail
        refine (nums31 b wd c hk (F k) (As k) (Ls k) (Cs k) hlk _ hc (HRS.out k hlt)).mono ?_
        rintro e w' ⟨t, rfl, ht, rfl⟩
        cases t
        · have HE := Lib.hid (SaidB.no (w := w) (show ¬ mayP c n Ls F from fun h => by have := ht.2 (h.2.2 k hlt).2; cases this))
          clear ht
          go_wp2_with fail
          go_ret
          exact HE.out
        · have HS := Lib.hid (show ∀ r, r < k + 1 → Ls r = Ls 0 ∧ allIn c (F r) (Ls r) from fun j hj => (Nat.lt_succ_iff_lt_or_eq.1 hj).elim (fun h => hall.out j h) (fun h => by rw [h]; exact ⟨HE0.out, ht.1 rfl⟩))
          clear ht
          go_wp2_with fail
          exact ⟨⟨k + 1, hlt, by go_num, HS⟩, by simp [intOf]; omega⟩
      · have hne : (((Ls k : Nat) : Int) != ((Ls 0 : Nat) : Int)) = true := by simp; omega
        have HE := Lib.hid (SaidB.no (w := w) (show ¬ mayP c n Ls F from fun h => he (h.2.2 k hlt).1))
        clear he
        go_wp2_with fail
        go_ret
        exact HE.out
    · obtain rfl : k = n := by omega
      have HE := Lib.hid (SaidB.yes (w := w) (show mayP c k Ls F from ⟨HN.out, HL.out, hall.out⟩))
      go_wp2_with fail
      go_ret
      exact HE.out
end Go.Proofs.YtmpamgnbbomoaaaGreat
