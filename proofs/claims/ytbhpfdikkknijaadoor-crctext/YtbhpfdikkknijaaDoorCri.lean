/- Layer 13 (of the program): contract of Read. -/
import Derived.Test.YtbhpfdikkknijaaDoorCrm
import Derived.Test.YtbhpfdikkknijaaDoorCrn
namespace Go.Proofs.YtbhpfdikkknijaaDoor
open Go.RowKit

/-- what Read tells, and that nothing of before is turned -/
def CReadSaid (f : Nat → Nat) (n : Nat) (w : World) (e : Ending) (w' : World) : Prop :=
  ∃ t, e = .returned (.tuple #[.int .u32 (cond t (readN f 8) 0 : Nat), .bool t]) ∧ (t = true ↔ n = 8 ∧ ∀ j, j < 8 → isHex (f j)) ∧ Below w.heap.size w w'

set_option maxRecDepth 100000 in
set_option maxHeartbeats 1000000 in
theorem read16 (f : Nat → Nat) (hf : ∀ j, f j < 256) (n : Nat) (hn : n ≤ 281474976710656) (w : World) (hE : Env w) : Calls Tryd.prog 16 #[.string (strF f n)] w (CReadSaid f n w) := by
  have HP := Lib.hid (pup23 f hf n hn w hE)
  obtain ⟨x, hx⟩ : ∃ x, strF f n = x := ⟨_, rfl⟩
  rw [hx] at HP ⊢
  have HX := Lib.hid hx
  have HE := Lib.hid hE
  have HF := Lib.hid hf
  clear hx hE hn hf
  go_enter Tryd.func16, Tryd.ntmps16
  go_wp2_with fail
  refine HP.out.mono ?_
  rintro e w1 ⟨hb, (⟨v, hv, rfl, hq⟩ | ⟨v, t, p, rfl, hq⟩)⟩
  · have HB := Lib.hid hb
    have HQ := Lib.hid hq
    have hwr : IntKind.u32.wrap (v : Int) = (v : Int) := by rw [IntKind.wrap_u32]; omega
    have HC := Lib.hid (text17 v hv w1 (HE.out.below hb))
    obtain ⟨y, hy⟩ : ∃ y, strF (txtI v 8) 8 = y := ⟨_, rfl⟩
    rw [hy] at HC
    have HY := Lib.hid hy
    clear hb hq hy hv
    go_wp2_with fail
    refine HC.out.mono ?_
    rintro e w2 ⟨rfl, hb2⟩
    have HB2 := Lib.hid (below_tr HB.out hb2)
    clear hb2
    by_cases he : y = x
    · have HT := Lib.hid (show CReadSaid f n w (.returned (.tuple #[.int .u32 (v : Nat), .bool true])) w2 from by
        have h1 := HY.out.trans (he.trans HX.out.symm)
        obtain rfl : n = 8 := by
          have h2 := congrArg ByteArray.size h1
          rw [strF_size, strF_size] at h2
          exact h2.symm
        have h3 := ((strF_inj (fun j => txtI_lt v 8 j) HF.out).1 h1).2
        have h4 : ∀ j, j < 8 → isHex (f j) := fun j hj => by rw [← h3 j hj]; exact txtI_is v 8 j
        exact ⟨true, by rw [HQ.out rfl h4]; rfl, ⟨fun _ => ⟨rfl, h4⟩, fun _ => rfl⟩, HB2.out⟩)
      subst he
      go_wp2_with fail
      go_ret2
      exact HT.out
    · have HT := Lib.hid (show CReadSaid f n w (.returned (.tuple #[.int .u32 0, .bool false])) w2 from by
        refine ⟨false, rfl, ⟨fun h => (by cases h), fun h => ?_⟩, HB2.out⟩
        obtain ⟨rfl, h4⟩ := h
        refine absurd ?_ he
        rw [← HY.out, ← HX.out, HQ.out rfl h4]
        exact strF_congr (fun j hj => text_read 8 h4 j hj))
      have hne : (y.toList == x.toList) = false := by rw [Bool.eq_false_iff]; exact fun h => he ((str_beq _ _).1 h)
      go_wp2_with fail
      go_ret2
      exact HT.out
  · have HT := Lib.hid (show CReadSaid f n w (.returned (.tuple #[.int .u32 0, .bool false])) w1 from ⟨false, rfl, ⟨fun h => (by cases h), fun h => absurd h hq⟩, hb⟩)
    clear hq hb
    go_wp2_with fail
    go_ret2
    exact HT.out
end Go.Proofs.YtbhpfdikkknijaaDoor
