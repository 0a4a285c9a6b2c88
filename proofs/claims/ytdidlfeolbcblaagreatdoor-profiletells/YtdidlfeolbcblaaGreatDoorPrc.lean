/- Layer 9: All and Tagged, and the document's Tagged. -/
import Derived.Test.YtdidlfeolbcblaaGreatDoorGxv
namespace Go.Proofs.YtdidlfeolbcblaaGreatDoor
open Go.RowKit

/-- are these bytes the tag of p? -/
def isT (p : Nat) (s : ByteArray) : Bool := (tagS p).toList == s.toList
/-- the profile of a tag, or 0 -/
def tagN (s : ByteArray) : Nat := if isT 1 s = true then 1 else if isT 2 s = true then 2 else if isT 3 s = true then 3 else if isT 4 s = true then 4 else if isT 5 s = true then 5 else if isT 6 s = true then 6 else 0
def TagSaid (s : ByteArray) (w : World) (e : Ending) (w' : World) : Prop := e = .returned (.tuple #[.int .i64 (tagN s), .bool (decide (tagN s ≠ 0))]) ∧ Below w.heap.size w w'
theorem tagN_at {s : ByteArray} {k : Nat} (hk : k < 6) (h : ∀ j, j < k → isT (j + 1) s = false) (he : isT (k + 1) s = true) : tagN s = k + 1 := by
  have hn : ∀ j, j < k → ¬ isT (j + 1) s = true := fun j hj => by rw [h j hj]; decide
  unfold tagN
  match k, hk with
  | 0, _ => rw [if_pos he]
  | 1, _ => rw [if_neg (hn 0 (by omega)), if_pos he]
  | 2, _ => rw [if_neg (hn 0 (by omega)), if_neg (hn 1 (by omega)), if_pos he]
  | 3, _ => rw [if_neg (hn 0 (by omega)), if_neg (hn 1 (by omega)), if_neg (hn 2 (by omega)), if_pos he]
  | 4, _ => rw [if_neg (hn 0 (by omega)), if_neg (hn 1 (by omega)), if_neg (hn 2 (by omega)), if_neg (hn 3 (by omega)), if_pos he]
  | 5, _ => rw [if_neg (hn 0 (by omega)), if_neg (hn 1 (by omega)), if_neg (hn 2 (by omega)), if_neg (hn 3 (by omega)), if_neg (hn 4 (by omega)), if_pos he]
theorem tagN_none {s : ByteArray} (h : ∀ j, j < 6 → isT (j + 1) s = false) : tagN s = 0 := by
  have hn : ∀ j, j < 6 → ¬ isT (j + 1) s = true := fun j hj => by rw [h j hj]; decide
  unfold tagN
  rw [if_neg (hn 0 (by omega)), if_neg (hn 1 (by omega)), if_neg (hn 2 (by omega)), if_neg (hn 3 (by omega)), if_neg (hn 4 (by omega)), if_neg (hn 5 (by omega))]
theorem tagN_tag (k : Nat) (h1 : 1 ≤ k) (h2 : k ≤ 6) : tagN (tagS k) = k := by
  obtain rfl | rfl | rfl | rfl | rfl | rfl : k = 1 ∨ k = 2 ∨ k = 3 ∨ k = 4 ∨ k = 5 ∨ k = 6 := by omega
  all_goals decide +kernel
theorem tagI_nat (k : Nat) : tagI (k : Int) = tagS k := rfl

abbrev TTb : Nat := 64
theorem tab_size : (Tryz.prog.info? TTb).map (·.size) = some tabC.size := by kernel_rfl
theorem tab_index (k : Nat) (hk : k < 6) (w : World) : (Instr.index TTb (.agg tabC) (.int .i64 k)).run Tryz.prog w = .ok (.agg (rowA (k + 1 : Nat))) w := by
  obtain rfl | rfl | rfl | rfl | rfl | rfl : k = 0 ∨ k = 1 ∨ k = 2 ∨ k = 3 ∨ k = 4 ∨ k = 5 := by omega
  all_goals kernel_rfl

/-- in Tagged's loop -/
def TagAt (s : ByteArray) (w : World) (s7 : Value) (wr : World) : Prop := ∃ k : Nat, k ≤ 6 ∧ s7 = .int .i64 k ∧ Hid (∀ j, j < k → isT (j + 1) s = false) ∧ Below w.heap.size w wr
theorem tagAt_next {s : ByteArray} {k : Nat} (h : ∀ j, j < k → isT (j + 1) s = false) (he : isT (k + 1) s = false) : ∀ j, j < k + 1 → isT (j + 1) s = false := fun j hj => by
  by_cases hjk : j = k
  · subst hjk; exact he
  · exact h j (by omega)

set_option maxRecDepth 100000 in
set_option maxHeartbeats 1000000 in
theorem tagged10 (s : ByteArray) (w : World) (hT : Tab w) : Calls Tryz.prog 10 #[.string s] w (TagSaid s w) := by
  obtain ⟨t, fr, ht⟩ := hT
  go_enter Tryz.func10, Tryz.ntmps10
  go_wp2_with (refine wpList_load_row rfl TTb _ rfl 0 rfl t _ fr _ ht Tryz.underlying64 rfl tab_size ?_)
  clear ht
  obtain ⟨C, hC⟩ : ∃ C, tabC = C := ⟨_, rfl⟩
  have HI := Lib.hid tab_index
  rw [hC] at HI ⊢
  clear hC
  go_loopw [7] (fun s7 wr => TagAt s w s7 wr) (fun s7 _ => 6 - (intOf s7).toNat)
  case atStart => exact ⟨0, by omega, rfl, Lib.hid (fun j hj => absurd hj (by omega)), Below.refl _ _⟩
  case round =>
    obtain ⟨k, hk, rfl, hall, hb⟩ := hrel
    have HB := Lib.hid (below_tr hb (below_alloc wr (.cells (rowA (k + 1 : Nat)) TPr)))
    have HB0 := Lib.hid hb
    clear hb
    by_cases hlt : k < 6
    · have hix := HI.out k hlt
      clear HI
      rw [show (((k + 1 : Nat)) : Int) = (k : Int) + 1 by omega] at hix HB
      have htg : tagI ((k : Int) + 1) = tagS (k + 1) := tagI_nat (k + 1)
      by_cases ht : isT (k + 1) s = true
      · have ht' : ((tagI ((k : Int) + 1)).toList == s.toList) = true := by rw [htg]; exact ht
        have hn := tagN_at hlt hall.out ht
        have HE := Lib.hid (show TagSaid s w (.returned (.tuple #[.int .i64 (1 + (k : Int)), .bool true])) _ from ⟨by rw [hn, show (((k + 1 : Nat)) : Int) = 1 + (k : Int) by omega]; rfl, HB.out⟩)
        clear ht htg hn hall HB HB0
        go_wp2_with fail
        go_ret2
        exact HE.out
      · have ht'' : isT (k + 1) s = false := by cases h : isT (k + 1) s; rfl; exact absurd h ht
        have ht' : ((tagI ((k : Int) + 1)).toList == s.toList) = false := by rw [htg]; exact ht''
        have HS := Lib.hid (show TagAt s w (.int .i64 ((k : Int) + 1)) _ from ⟨k + 1, hlt, by rw [show (((k + 1 : Nat)) : Int) = (k : Int) + 1 by omega], Lib.hid (tagAt_next hall.out ht''), HB.out⟩)
        clear ht ht'' htg hall HB HB0
        go_wp2_with fail
        exact ⟨HS.out, by simp [intOf]; omega⟩
    · obtain rfl : k = 6 := by omega
      have HE := Lib.hid (show TagSaid s w (.returned (.tuple #[.int .i64 0, .bool false])) wr from ⟨by rw [tagN_none hall.out]; rfl, HB0.out⟩)
      clear hall HB HB0 HI
      go_wp2_with fail
      go_ret2
      exact HE.out

/-- in the document's Tagged's loop -/
def RTagAt (s : ByteArray) (w : World) (s4 : Value) (wr : World) : Prop := ∃ k : Nat, k ≤ 6 ∧ s4 = .int .i64 ((k : Int) + 1) ∧ Hid (∀ j, j < k → isT (j + 1) s = false) ∧ Below w.heap.size w wr

set_option maxRecDepth 100000 in
set_option maxHeartbeats 1000000 in
theorem rtagged11 (s : ByteArray) (w : World) : Calls Tryz.prog 11 #[.string s] w (TagSaid s w) := by
  go_enter Tryz.func11, Tryz.ntmps11
  go_wp2_with fail
  go_loopw [4] (fun s4 wr => RTagAt s w s4 wr) (fun s4 _ => 7 - (intOf s4).toNat)
  case atStart => exact ⟨0, by omega, rfl, Lib.hid (fun j hj => absurd hj (by omega)), Below.refl _ _⟩
  case round =>
    obtain ⟨k, hk, rfl, hall, hb⟩ := hrel
    have HB0 := Lib.hid hb
    clear hb
    by_cases hlt : k < 6
    · have htg : tagI ((k : Int) + 1) = tagS (k + 1) := tagI_nat (k + 1)
      go_wp2_with fail
      refine (rof9 ((k : Int) + 1) _).mono ?_
      rintro e w1 ⟨rfl, hb1⟩
      have HB := Lib.hid (below_tr (below_tr HB0.out hb1) (below_alloc w1 (.cells (rowA ((k : Int) + 1)) TRw)))
      clear hb1 HB0
      by_cases ht : isT (k + 1) s = true
      · have ht' : ((tagI ((k : Int) + 1)).toList == s.toList) = true := by rw [htg]; exact ht
        have hn := tagN_at hlt hall.out ht
        have HE := Lib.hid (show TagSaid s w (.returned (.tuple #[.int .i64 ((k : Int) + 1), .bool true])) _ from ⟨by rw [hn, show (((k + 1 : Nat)) : Int) = (k : Int) + 1 by omega]; rfl, HB.out⟩)
        clear ht htg hn hall HB
        go_wp2_with fail
        go_ret2
        exact HE.out
      · have ht'' : isT (k + 1) s = false := by cases h : isT (k + 1) s; rfl; exact absurd h ht
        have ht' : ((tagI ((k : Int) + 1)).toList == s.toList) = false := by rw [htg]; exact ht''
        have HS := Lib.hid (show RTagAt s w (.int .i64 ((k : Int) + 1 + 1)) _ from ⟨k + 1, hlt, by rw [show (((k + 1 : Nat)) : Int) = (k : Int) + 1 by omega], Lib.hid (tagAt_next hall.out ht''), HB.out⟩)
        clear ht ht'' htg hall HB
        go_wp2_with fail
        exact ⟨HS.out, by simp [intOf]; omega⟩
    · obtain rfl : k = 6 := by omega
      have HE := Lib.hid (show TagSaid s w (.returned (.tuple #[.int .i64 0, .bool false])) wr from ⟨by rw [tagN_none hall.out]; rfl, HB0.out⟩)
      clear hall HB0
      go_wp2_with fail
      go_ret2
      exact HE.out
end Go.Proofs.YtdidlfeolbcblaaGreatDoor
