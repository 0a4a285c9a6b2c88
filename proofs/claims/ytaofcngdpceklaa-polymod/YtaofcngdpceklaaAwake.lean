/- The contract of the laws' own first test: what it asks of poly is so. -/
import Derived.Test.YtaofcngdpceklaaPrim
import Derived.Test.YtaofcngdpceklaaFacts
namespace Go.Proofs.Ytaofcngdpceklaa
open Go.RowKit

theorem Says.isTrue {P : Prop} {w w' : World} {e : Ending} (h : Says P w e w') (hp : P) : e = .returned (.bool true) ∧ Below w.heap.size w w' := by
  obtain ⟨b, rfl, hb, h2⟩ := h
  rw [hb.2 hp]; exact ⟨rfl, h2⟩
theorem Says.isFalse {P : Prop} {w w' : World} {e : Ending} (h : Says P w e w') (hp : ¬ P) : e = .returned (.bool false) ∧ Below w.heap.size w w' := by
  obtain ⟨b, rfl, hb, h2⟩ := h
  cases b
  · exact ⟨rfl, h2⟩
  · exact absurd (hb.1 rfl) hp

theorem below_trans {w w1 w2 : World} (h1 : Below w.heap.size w w1) (h2 : Below w1.heap.size w1 w2) : Below w.heap.size w w2 := h1.trans (h2.mono h1.size)

theorem mul33 : M.mul (3 : Int).toNat (3 : Int).toNat = 5 := by decide +kernel
theorem md53 : M.md (5 : Int).toNat (3 : Int).toNat = 0 := by decide +kernel
theorem deg285 : ((M.blen (285 : Int).toNat : Int) - 1) = 8 := by decide +kernel

set_option maxHeartbeats 1000000 in
theorem awake9 (w : World) : Calls Try.prog 9 #[] w fun e w' => e = .returned (.bool true) ∧ Below w.heap.size w w' := by
  go_enter Try.func9, Try.ntmps9
  go_wp2_with fail
  refine (mul12 3 3 _ (by omega) (by omega) (by omega) (by omega)).mono ?_
  rintro e w1 ⟨rfl, hb1⟩
  rw [mul33]
  have H1 := Lib.hid hb1
  clear hb1
  go_wp2_with fail
  refine (mod14 5 3 _ (by omega) (by omega) (by omega) (by omega)).mono ?_
  rintro e w2 ⟨rfl, hb2⟩
  rw [md53]
  have H2 := Lib.hid (below_trans H1.out hb2)
  clear hb2 H1
  go_wp2_with fail
  refine (deg10 285 _ (by omega) (by omega)).mono ?_
  rintro e w' ⟨rfl, rfl⟩
  rw [deg285]
  go_wp2_with fail
  refine (prim20 285 _ (by omega) (by omega)).mono ?_
  intro e w3 h3
  obtain ⟨rfl, hb3⟩ := h3.isTrue M.prim285
  have H3 := Lib.hid (below_trans H2.out hb3)
  clear hb3 h3 H2
  go_wp2_with fail
  refine (irr18 283 _ (by omega) (by omega)).mono ?_
  rintro e w4 ⟨rfl, hb4⟩
  rw [show M.irr (283 : Int).toNat = true from M.irr283]
  have H4 := Lib.hid (below_trans H3.out hb4)
  clear hb4 H3
  go_wp2_with fail
  refine (prim20 283 _ (by omega) (by omega)).mono ?_
  intro e w5 h5
  obtain ⟨rfl, hb5⟩ := h5.isFalse M.notPrim283
  have H5 := Lib.hid (below_trans H4.out hb5)
  clear hb5 h5 H4
  go_wp2_with fail
  refine (prim20 69643 _ (by omega) (by omega)).mono ?_
  intro e w6 h6
  obtain ⟨rfl, hb6⟩ := h6.isTrue M.prim69643
  have H6 := Lib.hid (below_trans H5.out hb6)
  clear hb6 h6 H5
  go_wp2_with fail
  go_ret
  exact ⟨rfl, H6.out⟩
end Go.Proofs.Ytaofcngdpceklaa
