/- Layer 7's own first test, and how its laws choose a field. -/
import Derived.Test.YtecnfkchlebafaaGreatJvd
import Derived.Test.YtecnfkchlebafaaGreatGxk
namespace Go.Proofs.YtecnfkchlebafaaGreat
open Go.RowKit

set_option maxRecDepth 100000 in
theorem jfield_yes (w : World) : Calls Tryz.prog 5 #[.bool true] w fun e w' => ∃ b, e = .returned (.tuple #[.pointer (some ⟨b, 0, none⟩), .int .i64 16, .int .u32 69643]) ∧ Fld 69643 b 16 w' ∧ w.heap.size ≤ b ∧ Below w.heap.size w w' := by
  go_enter Tryz.func5, Tryz.ntmps5
  go_wp2_with fail
  refine (new_yes 69643 16 good69643 _).mono ?_
  rintro e w1 ⟨b, rfl, h1, hn, hb1⟩
  have HE := Lib.hid (And.intro h1 (And.intro hn hb1))
  clear h1 hn hb1
  go_wp2_with fail
  go_ret3
  exact ⟨b, rfl, HE.out⟩

set_option maxRecDepth 100000 in
theorem jfield_no (w : World) : Calls Tryz.prog 5 #[.bool false] w fun e w' => ∃ b, e = .returned (.tuple #[.pointer (some ⟨b, 0, none⟩), .int .i64 8, .int .u32 285]) ∧ Fld 285 b 8 w' ∧ w.heap.size ≤ b ∧ Below w.heap.size w w' := by
  go_enter Tryz.func5, Tryz.ntmps5
  go_wp2_with fail
  refine (new_yes 285 8 good285 _).mono ?_
  rintro e w1 ⟨b, rfl, h1, hn, hb1⟩
  have HE := Lib.hid (And.intro h1 (And.intro hn hb1))
  clear h1 hn hb1
  go_wp2_with fail
  go_ret3
  exact ⟨b, rfl, HE.out⟩

theorem jfield9 (large : Bool) (w : World) : Calls Tryz.prog 5 #[.bool large] w (FieldSaid6 w) := by
  cases large
  · exact (jfield_no w).mono fun e w' ⟨b, he, h⟩ => ⟨qS, 8, b, he, h⟩
  · exact (jfield_yes w).mono fun e w' ⟨b, he, h⟩ => ⟨qL, 16, b, he, h⟩

/-- one row of two numbers -/
def m12 (x y : Int) (_ j : Nat) : Int := if j = 0 then x else y
theorem mat12 (b : Nat) (x y : Int) (w W : World) (hb : b < w.heap.size)
    (hW : (w.alloc (.cells #[.int .i64 x, .int .i64 y] TI)).alloc (.cells #[.slice (some ⟨w.heap.size, 0, none⟩) 2 2] TIs) = W) :
    Mx b W (m12 x y) (fun _ => 2) (some ⟨w.heap.size + 1, 0, none⟩) 1 ∧ Below w.heap.size w W := by
  have r1 := row_at (w := w) #[.int .i64 x, .int .i64 y] TI (i64s (m12 x y 0)) _ rfl (fun i hi => by
    simp at hi
    match i, hi with
    | 0, _ => rfl
    | 1, _ => rfl)
  have r3 := row_at (w := w.alloc (.cells #[.int .i64 x, .int .i64 y] TI)) #[.slice (some ⟨w.heap.size, 0, none⟩) 2 2] TIs (slis (fun _ => some ⟨w.heap.size, 0, none⟩) (fun _ => 2) (fun _ => 2)) (w.heap.size + 1) (by simp) (fun i hi => by
    simp at hi
    match i, hi with
    | 0, _ => rfl)
  subst hW
  refine ⟨⟨_, _, Rd.of_row r3 (by omega) (by simp), fun r hr => ?_⟩, (below_alloc w _).alloc (by simp) _⟩
  match r, hr with
  | 0, _ => exact Rd.of_row (r1.alloc _) (by omega) (by simp)

theorem awake_par {r j : Nat} (hr : r < 1) (hj : j < 2) : ivs (parE qS 2 3) r j = m12 1 1 r j := by
  have ho : M.ord qS.p = 255 := ord285
  have hG : ∀ j, j < 2 → jG qS 2 3 0 j ≠ 0 := fun j hj => sysJ_ne (by rw [ho]; omega) (by omega) (by omega) hj
  obtain rfl : r = 0 := by omega
  have h1 : parE qS 2 3 0 j = 1 := (row_same (hG 0 (by omega))).trans (col_first (hG j hj))
  unfold ivs
  rw [h1]
  unfold m12
  split <;> rfl
theorem awake_ext {r j : Nat} (hr : r < 3) (hj : j < 2) : ivs (extE qS 2 3) r j = m32 1 0 1 1 0 1 r j := by
  have ho : M.ord qS.p = 255 := ord285
  have h : ∀ i : Nat, i < 3 → ((ep (toEl qS (i : Int)) 1).val : Int) = i := fun i hi => by
    rw [ep, ep, El.one_mul]
    exact toEl_val ⟨by omega, by omega⟩
  match r, hr, j, hj with
  | 0, _, 0, _ => rfl
  | 0, _, 1, _ => exact h 0 (by omega)
  | 1, _, 0, _ => rfl
  | 1, _, 1, _ => exact h 1 (by omega)
  | 2, _, 0, _ => rfl
  | 2, _, 1, _ => rfl

set_option maxRecDepth 100000 in
set_option maxHeartbeats 2000000 in
theorem awakeJ (w : World) : Calls Tryz.prog 4 #[] w fun e w' => e = .returned (.bool true) ∧ Below w.heap.size w w' := by
  go_enter Tryz.func4, Tryz.ntmps4
  go_wp2_with fail
  refine (jfield_no _).mono ?_
  rintro e w1 ⟨b, rfl, h1, hn, hb1⟩
  have H1 := Lib.hid (Live.start (Below.refl _ w) h1 hn hb1)
  clear h1 hn hb1
  go_wp2_with fail
  refine (jpar_yes qS b 8 2 1 ⟨by omega, by omega⟩ ⟨by omega, by omega⟩ (by omega) _ H1.out.1).mono ?_
  rintro e w2 ⟨A2, c2, rfl, hc2, hx2, hf2, ht2⟩
  have H2 := Lib.hid (H1.out.next hf2 ht2)
  have X2 := Lib.hid hx2
  clear hc2 hx2 hf2 ht2 H1
  go_wp2_with fail
  refine (jext_yes qS b 8 2 1 ⟨by omega, by omega⟩ ⟨by omega, by omega⟩ (by omega) _ H2.out.1).mono ?_
  rintro e w3 ⟨A3, c3, rfl, hc3, hx3, hf3, ht3⟩
  have H3 := Lib.hid (H2.out.next hf3 ht3)
  have X3 := Lib.hid (X2.out.turned ht3)
  have Y3 := Lib.hid hx3
  clear hc3 hx3 hf3 ht3 H2 X2
  obtain ⟨W1, hW1⟩ : ∃ W, (w3.alloc (.cells #[.int .i64 1, .int .i64 1] TI)).alloc (.cells #[.slice (some ⟨w3.heap.size, 0, none⟩) 2 2] TIs) = W := ⟨_, rfl⟩
  obtain ⟨mx1, hbW1⟩ := mat12 b 1 1 w3 W1 H3.out.1.lt hW1
  have L1 := Lib.hid (H3.out.below hbW1)
  have X4 := Lib.hid (X3.out.below hbW1)
  have Y4 := Lib.hid (Y3.out.below hbW1)
  have C1 := Lib.hid (same19 b b _ _ _ _ A2 _ 1 c2 1 (by omega) (fun _ _ => by omega) W1 X4.out mx1 (fun _ _ => rfl) (fun r hr j hj => awake_par hr hj))
  clear mx1 hbW1 H3 X3 Y3 X4
  go_wp2_with fail
  refine C1.out.mono ?_
  rintro e w5 ⟨rfl, q5, rfl⟩
  have L5 := Lib.hid (L1.out.below (below_drewN' W1 q5))
  have Y5 := Lib.hid (Y4.out.below (below_drewN' W1 q5))
  obtain ⟨w5, hw5⟩ : ∃ w5, W1.drewN q5 = w5 := ⟨_, rfl⟩
  rw [hw5] at L5 Y5 ⊢
  obtain ⟨W2, hW2⟩ : ∃ W, (((w5.alloc (.cells #[.int .i64 1, .int .i64 0] TI)).alloc (.cells #[.int .i64 1, .int .i64 1] TI)).alloc (.cells #[.int .i64 0, .int .i64 1] TI)).alloc (.cells #[.slice (some ⟨w5.heap.size, 0, none⟩) 2 2, .slice (some ⟨w5.heap.size + 1, 0, none⟩) 2 2, .slice (some ⟨w5.heap.size + 1 + 1, 0, none⟩) 2 2] TIs) = W := ⟨_, rfl⟩
  obtain ⟨mx2, hbW2⟩ := mat32 b 1 0 1 1 0 1 w5 W2 L5.out.1.lt hW2
  have L6 := Lib.hid (L5.out.below hbW2)
  have Y6 := Lib.hid (Y5.out.below hbW2)
  have C2 := Lib.hid (same19 b b _ _ _ _ A3 _ 3 c3 3 (by omega) (fun _ _ => by omega) W2 Y6.out mx2 (fun _ _ => rfl) (fun r hr j hj => awake_ext hr hj))
  clear mx2 hbW2 L5 Y5 Y6 C1 L1 Y4 hW1 hw5
  go_wp2_with fail
  refine C2.out.mono ?_
  rintro e w7 ⟨rfl, q7, rfl⟩
  have HB := Lib.hid (L6.out.below (below_drewN' W2 q7)).2.1
  clear C2 L6 hW2
  go_wp2_with fail
  go_ret
  exact ⟨rfl, HB.out⟩
end Go.Proofs.YtecnfkchlebafaaGreat
