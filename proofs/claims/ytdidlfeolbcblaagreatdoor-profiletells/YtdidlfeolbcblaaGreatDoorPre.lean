/- Layer 9's own first test. -/
import Derived.Test.YtdidlfeolbcblaaGreatDoorGxw
import Derived.Test.YtdidlfeolbcblaaGreatDoorGxk
namespace Go.Proofs.YtdidlfeolbcblaaGreatDoor
open Go.RowKit

theorem row3 : rowA 3 = #[.string ⟨#[105, 114]⟩, .int .i64 8, .int .u32 285, .int .u8 105, .int .i64 3] := rfl
theorem may322 : mayX 3 2 2 := ⟨⟨by omega, by omega⟩, ⟨by omega, by omega⟩, by omega, by decide⟩
theorem may324 : ¬ mayX 3 2 4 := fun h => absurd h.2.2.2 (by decide)

set_option maxRecDepth 100000 in
set_option maxHeartbeats 2000000 in
theorem awakeP (w : World) (hT : Tab w) : Calls Tryz.prog 7 #[] w fun e w' => e = .returned (.bool true) ∧ Below w.heap.size w w' := by
  have HT := Lib.hid hT
  clear hT
  go_enter Tryz.func7, Tryz.ntmps7
  go_wp2_with fail
  refine (of8 3 _ HT.out).mono ?_
  rintro e w1 ⟨rfl, hb1⟩
  rw [row3, show isI 3 = true from rfl]
  have hb1' := below_tr hb1 (below_alloc w1 (.cells #[.string ⟨#[105, 114]⟩, .int .i64 8, .int .u32 285, .int .u8 105, .int .i64 3] TPr))
  have HT1 := Lib.hid (HT.out.below hb1')
  have H1 := Lib.hid hb1'
  have cz : w1.heap.size < (w1.alloc (.cells #[.string ⟨#[105, 114]⟩, .int .i64 8, .int .u32 285, .int .u8 105, .int .i64 3] TPr)).heap.size := by simp
  have c0 : (w1.alloc (.cells #[.string ⟨#[105, 114]⟩, .int .i64 8, .int .u32 285, .int .u8 105, .int .i64 3] TPr)).cell? ⟨w1.heap.size, 0, none⟩ = some (.string ⟨#[105, 114]⟩) := by simp
  have c1 : (w1.alloc (.cells #[.string ⟨#[105, 114]⟩, .int .i64 8, .int .u32 285, .int .u8 105, .int .i64 3] TPr)).cell? ⟨w1.heap.size, 1, none⟩ = some (.int .i64 8) := by simp
  have c4 : (w1.alloc (.cells #[.string ⟨#[105, 114]⟩, .int .i64 8, .int .u32 285, .int .u8 105, .int .i64 3] TPr)).cell? ⟨w1.heap.size, 4, none⟩ = some (.int .i64 3) := by simp
  clear hb1 hb1' HT
  go_wp2_with fail
  generalize w1.alloc (.cells #[.string ⟨#[105, 114]⟩, .int .i64 8, .int .u32 285, .int .u8 105, .int .i64 3] TPr) = v at *
  refine (par12 3 2 2 _ HT1.out).mono ?_
  rintro e w2 ⟨t, A2, k2, g, rfl, ht, _, hx2, hg2, hb2⟩
  obtain rfl : t = true := ht.2 may322
  have d0 := (hb2.cell (p := ⟨w1.heap.size, 0, none⟩) cz).trans c0
  have d1 := (hb2.cell (p := ⟨w1.heap.size, 1, none⟩) cz).trans c1
  have d4 := (hb2.cell (p := ⟨w1.heap.size, 4, none⟩) cz).trans c4
  have X2 := Lib.hid (show Mx g w2 (ivs (isalE qS)) (fun _ => 2) A2 2 from hx2)
  have H2 := Lib.hid (below_tr H1.out hb2)
  have HT2 := Lib.hid (HT1.out.below hb2)
  simp only [cond, errOf, if_true, show (2 : Int).toNat = 2 from rfl]
  clear ht hx2 hb2 c0 c1 c4 HT1 H1
  obtain ⟨W1, hW1⟩ : ∃ W, ((w2.alloc (.cells #[.int .i64 1, .int .i64 1] TI)).alloc (.cells #[.int .i64 1, .int .i64 2] TI)).alloc (.cells #[.slice (some ⟨w2.heap.size, 0, none⟩) 2 2, .slice (some ⟨w2.heap.size + 1, 0, none⟩) 2 2] TIs) = W := ⟨_, rfl⟩
  obtain ⟨mx1, hbW1⟩ := mat22 g 1 1 1 2 w2 W1 hg2 hW1
  have H3 := Lib.hid (below_tr H2.out hbW1)
  have HT3 := Lib.hid (HT2.out.below hbW1)
  have C1 := Lib.hid (same19 g g _ _ _ _ A2 _ 2 k2 2 (by omega) (fun _ _ => by omega) W1 (X2.out.below hbW1) mx1 (fun _ _ => rfl) (fun r hr j hj => awake_isal hr hj))
  clear mx1 hbW1 H2 X2 HT2
  go_wp2_with fail
  refine C1.out.mono ?_
  rintro e w5 ⟨rfl, q5, rfl⟩
  have H5 := Lib.hid (below_tr H3.out (below_drewN' W1 q5))
  have HT5 := Lib.hid (HT3.out.below (below_drewN' W1 q5))
  obtain ⟨w5, hw5⟩ : ∃ w5, W1.drewN q5 = w5 := ⟨_, rfl⟩
  rw [hw5] at H5 HT5 ⊢
  clear C1 H3 HT3 hW1 hw5 d0 d1 d4
  go_wp2_with fail
  refine (may15 3 2 4 _ HT5.out).mono ?_
  rintro e w6 ⟨t, rfl, ht, hb6⟩
  obtain rfl : t = false := by cases t; rfl; exact absurd (ht.1 rfl) may324
  have H6 := Lib.hid (below_tr H5.out hb6)
  have HT6 := Lib.hid (HT5.out.below hb6)
  clear ht hb6 H5 HT5
  go_wp2_with fail
  refine (field_yes 2 (by omega) _ HT6.out).mono ?_
  rintro e w7 ⟨b7, rfl, hf7, _, hb7⟩
  have H7 := Lib.hid (below_tr H6.out hb7)
  have hc7 := hf7.c0
  rw [show ((wdP 2 : Nat) : Int) = 16 from rfl] at hc7
  clear hf7 hb7 H6 HT6
  go_wp2_with fail
  refine (bits14 b7 16 _ hc7).mono ?_
  rintro e w8 ⟨rfl, rfl⟩
  go_wp2_with fail
  go_ret
  exact ⟨rfl, H7.out⟩
end Go.Proofs.YtdidlfeolbcblaaGreatDoor
