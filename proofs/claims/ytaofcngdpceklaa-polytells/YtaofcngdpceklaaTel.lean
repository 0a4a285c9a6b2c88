/- The law PolyTells walked. -/
import Derived.Test.YtaofcngdpceklaaAwake
import Derived.Test.YtaofcngdpceklaaReh
import Derived.Deep.RegionHeld3
namespace Go.Proofs.Ytaofcngdpceklaa
open Go.RowKit

theorem keep3 {w w1 w2 : World} {n : Nat} {b0 b1 b2 : Int} (hb : Below n w1 w2) (hn : n = w1.heap.size)
    (h : w1.cell? ⟨w.heap.size, 0, none⟩ = some (.int .u32 b0) ∧ w1.cell? ⟨w.heap.size, 1, none⟩ = some (.int .u32 b1) ∧ w1.cell? ⟨w.heap.size, 2, none⟩ = some (.int .u32 b2) ∧ w.heap.size < w1.heap.size ∧ Below w.heap.size w w1) :
    w2.cell? ⟨w.heap.size, 0, none⟩ = some (.int .u32 b0) ∧ w2.cell? ⟨w.heap.size, 1, none⟩ = some (.int .u32 b1) ∧ w2.cell? ⟨w.heap.size, 2, none⟩ = some (.int .u32 b2) ∧ w.heap.size < w2.heap.size ∧ Below w.heap.size w w2 := by
  subst hn
  obtain ⟨h0, h1, h2, hz, hB⟩ := h
  exact ⟨(hb.cell (p := ⟨w.heap.size, 0, none⟩) hz).trans h0, (hb.cell (p := ⟨w.heap.size, 1, none⟩) hz).trans h1, (hb.cell (p := ⟨w.heap.size, 2, none⟩) hz).trans h2, Nat.lt_of_lt_of_le hz hb.size, hB.trans (hb.mono hB.size)⟩

set_option maxRecDepth 100000 in
set_option maxHeartbeats 4000000 in
theorem tells (a b0 b1 b2 : Int) (w : World) (a0 : 0 ≤ a) (a1 : a ≤ 18446744073709551615) (b00 : 0 ≤ b0) (b01 : b0 ≤ 4294967295) (b10 : 0 ≤ b1) (b11 : b1 ≤ 4294967295) (b20 : 0 ≤ b2) (b21 : b2 ≤ 4294967295) :
    Calls Try.prog 3 #[.int .u64 a, .agg #[.int .u32 b0, .int .u32 b1, .int .u32 b2]] w fun e w' => e = .returned (.bool true) ∧ Below w.heap.size w w' := by
  go_enter Try.func3, Try.ntmps3
  go_wp2_with fail
  refine (awake9 _).mono ?_
  rintro e w1 ⟨rfl, hb1⟩
  obtain ⟨hc0, hc1, hc2, hz, hB⟩ := keep3 (w := w) (b0 := b0) (b1 := b1) (b2 := b2) hb1 rfl ⟨by simp, by simp, by simp, by simp, (Below.refl _ _).alloc (Nat.le_refl _) _⟩
  have m1 := mul_bound b0 b1 b01 b11
  clear hb1
  go_wp2_with fail
  go_region_held3 (fun w' => w'.cell? ⟨w.heap.size, 0, none⟩ = some (.int .u32 b0) ∧ w'.cell? ⟨w.heap.size, 1, none⟩ = some (.int .u32 b1) ∧ w'.cell? ⟨w.heap.size, 2, none⟩ = some (.int .u32 b2) ∧ w.heap.size < w'.heap.size ∧ Below w.heap.size w w')
    (first | exact ⟨hc0, hc1, hc2, hz, hB.drew⟩ | assumption | (refine keep3 hb rfl ?_; assumption))
    (first
      | (go_at_call 10; refine (deg10 _ _ a0 a1).mono ?_; rintro e w' ⟨rfl, rfl⟩)
      | (go_at_call 11; refine (rdeg11 _ _ a0 a1).mono ?_; rintro e w' ⟨rfl, rfl⟩)
      | (go_at_call 12; refine (mul12 _ _ _ b00 b01 b10 b11).mono ?_; rintro e w' ⟨rfl, hb⟩)
      | (go_at_call 13; refine (rmul13 _ _ _ b00 b01 b10 b11).mono ?_; rintro e w' ⟨rfl, rfl⟩)
      | (go_at_call 14; refine (mod14 _ _ _ a0 a1 b20 b21).mono ?_; rintro e w' ⟨rfl, hb⟩)
      | (go_at_call 15; refine (rmod15 _ _ _ a0 a1 b20 b21).mono ?_; rintro e w' ⟨rfl, rfl⟩)
      | (go_at_call 16; refine (mulmod16 _ _ _ _ b00 b01 b10 b11 b20 b21).mono ?_; rintro e w' ⟨rfl, hb⟩)
      | (go_at_call 17; refine (rmulmod17 _ _ _ _ b00 b01 b10 b11 b20 b21).mono ?_; rintro e w' ⟨rfl, rfl⟩))
  rename_i hh
  go_wp2_with fail
  go_ret
  exact ⟨rfl, hh.2.2.2.2⟩
end Go.Proofs.Ytaofcngdpceklaa
