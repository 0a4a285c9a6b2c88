/- Layer 9: May, Field, All and Tagged, and the document's May and Tagged. -/
import Derived.Test.YtdidlfeolbcblaaGreatDoorPra
import Derived.Test.YtdidlfeolbcblaaGreatDoorGxj
import Derived.Test.YtdidlfeolbcblaaGreatDoorGxh
namespace Go.Proofs.YtdidlfeolbcblaaGreatDoor
open Go.RowKit

/-- params, by value -/
abbrev parA (p k m : Int) : Array Value := #[.int .i64 p, .int .i64 k, .int .i64 m]
abbrev TPa : Nat := 23
/-- params that may be -/
def mayX (p k m : Int) : Prop := (1 ≤ p ∧ p ≤ 6) ∧ (1 ≤ k ∧ k ≤ 8) ∧ 1 ≤ m ∧ m ≤ maxI p
def MaySaid (p k m : Int) (w : World) (e : Ending) (w' : World) : Prop := ∃ t, e = .returned (.bool t) ∧ (t = true ↔ mayX p k m) ∧ Below w.heap.size w w'
theorem MaySaid.no {p k m : Int} {w w' : World} (h : ¬ mayX p k m) (hb : Below w.heap.size w w') : MaySaid p k m w (.returned (.bool false)) w' := ⟨false, rfl, by simp [h], hb⟩
theorem MaySaid.yes {p k m : Int} {w w' : World} (h : mayX p k m) (hb : Below w.heap.size w w') : MaySaid p k m w (.returned (.bool true)) w' := ⟨true, rfl, by simp [h], hb⟩

/-- a struct's box behind a call that makes memory, and another block behind it -/
theorem box_cell {w w1 : World} {o : Obj} {cs : Array Value} {t i : Nat} {v : Value} (hb : Below (w.alloc (.cells cs t)).heap.size (w.alloc (.cells cs t)) w1) (h : cs[i]? = some v) :
    w1.cell? ⟨w.heap.size, i, none⟩ = some v ∧ (w1.alloc o).cell? ⟨w.heap.size, i, none⟩ = some v := by
  have h1 : (w.alloc (.cells cs t)).cell? ⟨w.heap.size, i, none⟩ = some v := by simp [h]
  have hlt : w.heap.size < (w.alloc (.cells cs t)).heap.size := by simp
  have h2 := (hb.cell (p := ⟨w.heap.size, i, none⟩) hlt).trans h1
  have h3 := ((Below.refl _ w1).alloc (Nat.le_refl _) o).cell (p := ⟨w.heap.size, i, none⟩) (Nat.lt_of_lt_of_le hlt hb.size)
  exact ⟨h2, h3.trans h2⟩

set_option maxRecDepth 100000 in
theorem may15 (p k m : Int) (w : World) (hT : Tab w) : Calls Tryz.prog 15 #[.agg (parA p k m)] w (MaySaid p k m w) := by
  have hb0 := (Below.refl _ w).alloc (Nat.le_refl _) (.cells (parA p k m) TPa)
  have HT := Lib.hid (hT.below hb0)
  have H0 := Lib.hid hb0
  clear hT hb0
  go_enter Tryz.func15, Tryz.ntmps15
  go_wp2_with fail
  refine (of8 p _ HT.out).mono ?_
  rintro e w1 ⟨rfl, hb1⟩
  have c1 := (box_cell (o := .cells (rowA p) TPr) (i := 1) hb1 rfl).2
  have c2 := (box_cell (o := .cells (rowA p) TPr) (i := 2) hb1 rfl).2
  have HB := Lib.hid (below_tr (below_tr H0.out hb1) (below_alloc w1 (.cells (rowA p) TPr)))
  clear hb1 HT H0
  obtain ⟨x, hx⟩ : ∃ x, maxI p = x := ⟨_, rfl⟩
  obtain ⟨t, ht⟩ : ∃ t, isI p = t := ⟨_, rfl⟩
  have HX := Lib.hid hx
  have HI := Lib.hid (show t = true ↔ 1 ≤ p ∧ p ≤ 6 by rw [← ht]; simp [isI])
  simp only [rowA, hx, ht] at c1 c2 HB ⊢
  clear hx ht
  cases t
  · have HE := Lib.hid (MaySaid.no (p := p) (k := k) (m := m) (fun h => by have := HI.out.2 h.1; cases this) HB.out)
    go_wp2_with fail
    go_ret
    exact HE.out
  have HIt := Lib.hid (HI.out.1 rfl)
  clear HI
  by_cases h1 : 1 ≤ k
  · by_cases h2 : k ≤ 8
    · by_cases h3 : 1 ≤ m
      · by_cases h4 : m ≤ x
        · have HE := Lib.hid (MaySaid.yes (p := p) (k := k) (m := m) ⟨HIt.out, ⟨h1, h2⟩, h3, by rw [HX.out]; exact h4⟩ HB.out)
          clear HX HIt HB
          go_wp2_with fail
          go_ret
          exact HE.out
        · have HE := Lib.hid (MaySaid.no (p := p) (k := k) (m := m) (fun h => h4 (by have := h.2.2.2; rwa [HX.out] at this)) HB.out)
          clear HX HIt HB
          go_wp2_with fail
          go_ret
          exact HE.out
      · have HE := Lib.hid (MaySaid.no (p := p) (k := k) (m := m) (fun h => h3 h.2.2.1) HB.out)
        clear HX HIt HB
        go_wp2_with fail
        go_ret
        exact HE.out
    · have HE := Lib.hid (MaySaid.no (p := p) (k := k) (m := m) (fun h => h2 h.2.1.2) HB.out)
      clear HX HIt HB
      go_wp2_with fail
      go_ret
      exact HE.out
  · have HE := Lib.hid (MaySaid.no (p := p) (k := k) (m := m) (fun h => h1 h.2.1.1) HB.out)
    clear HX HIt HB
    go_wp2_with fail
    go_ret
    exact HE.out

set_option maxRecDepth 100000 in
theorem rmay16 (p k m : Int) (w : World) : Calls Tryz.prog 16 #[.agg (parA p k m)] w (MaySaid p k m w) := by
  have H0 := Lib.hid ((Below.refl _ w).alloc (Nat.le_refl _) (.cells (parA p k m) TPa))
  go_enter Tryz.func16, Tryz.ntmps16
  go_wp2_with fail
  refine (rof9 p _).mono ?_
  rintro e w1 ⟨rfl, hb1⟩
  have c1 := (box_cell (o := .cells (rowA p) TRw) (i := 1) hb1 rfl).2
  have c2 := (box_cell (o := .cells (rowA p) TRw) (i := 2) hb1 rfl).2
  have HB := Lib.hid (below_tr (below_tr H0.out hb1) (below_alloc w1 (.cells (rowA p) TRw)))
  clear hb1 H0
  obtain ⟨x, hx⟩ : ∃ x, maxI p = x := ⟨_, rfl⟩
  obtain ⟨t, ht⟩ : ∃ t, isI p = t := ⟨_, rfl⟩
  have HX := Lib.hid hx
  have HI := Lib.hid (show t = true ↔ 1 ≤ p ∧ p ≤ 6 by rw [← ht]; simp [isI])
  simp only [rowA, hx, ht] at c1 c2 HB ⊢
  clear hx ht
  cases t
  · have HE := Lib.hid (MaySaid.no (p := p) (k := k) (m := m) (fun h => by have := HI.out.2 h.1; cases this) HB.out)
    go_wp2_with fail
    go_ret
    exact HE.out
  have HIt := Lib.hid (HI.out.1 rfl)
  clear HI
  by_cases h1 : 1 ≤ k
  · by_cases h2 : k ≤ 8
    · by_cases h3 : 1 ≤ m
      · by_cases h4 : m ≤ x
        · have HE := Lib.hid (MaySaid.yes (p := p) (k := k) (m := m) ⟨HIt.out, ⟨h1, h2⟩, h3, by rw [HX.out]; exact h4⟩ HB.out)
          clear HX HIt HB
          go_wp2_with fail
          go_ret
          exact HE.out
        · have HE := Lib.hid (MaySaid.no (p := p) (k := k) (m := m) (fun h => h4 (by have := h.2.2.2; rwa [HX.out] at this)) HB.out)
          clear HX HIt HB
          go_wp2_with fail
          go_ret
          exact HE.out
      · have HE := Lib.hid (MaySaid.no (p := p) (k := k) (m := m) (fun h => h3 h.2.2.1) HB.out)
        clear HX HIt HB
        go_wp2_with fail
        go_ret
        exact HE.out
    · have HE := Lib.hid (MaySaid.no (p := p) (k := k) (m := m) (fun h => h2 h.2.1.2) HB.out)
      clear HX HIt HB
      go_wp2_with fail
      go_ret
      exact HE.out
  · have HE := Lib.hid (MaySaid.no (p := p) (k := k) (m := m) (fun h => h1 h.2.1.1) HB.out)
    clear HX HIt HB
    go_wp2_with fail
    go_ret
    exact HE.out
end Go.Proofs.YtdidlfeolbcblaaGreatDoor
