/- Layer 8's own first test, how its laws choose a field, and what they say of an error. -/
import Derived.Test.YtgcochamjicjiaaGreatCyg
import Derived.Test.YtgcochamjicjiaaGreatGxk
namespace Go.Proofs.YtgcochamjicjiaaGreat
open Go.RowKit

set_option maxRecDepth 100000 in
theorem cfield_yes (w : World) : Calls Tryz.prog 7 #[.bool true] w fun e w' => ∃ b, e = .returned (.tuple #[.pointer (some ⟨b, 0, none⟩), .int .i64 16, .int .u32 69643]) ∧ Fld 69643 b 16 w' ∧ w.heap.size ≤ b ∧ Below w.heap.size w w' := by
  go_enter Tryz.func7, Tryz.ntmps7
  go_wp2_with fail
  refine (new_yes 69643 16 good69643 _).mono ?_
  rintro e w1 ⟨b, rfl, h1, hn, hb1⟩
  have HE := Lib.hid (And.intro h1 (And.intro hn hb1))
  clear h1 hn hb1
  go_wp2_with fail
  go_ret3
  exact ⟨b, rfl, HE.out⟩

set_option maxRecDepth 100000 in
theorem cfield_no (w : World) : Calls Tryz.prog 7 #[.bool false] w fun e w' => ∃ b, e = .returned (.tuple #[.pointer (some ⟨b, 0, none⟩), .int .i64 8, .int .u32 285]) ∧ Fld 285 b 8 w' ∧ w.heap.size ≤ b ∧ Below w.heap.size w w' := by
  go_enter Tryz.func7, Tryz.ntmps7
  go_wp2_with fail
  refine (new_yes 285 8 good285 _).mono ?_
  rintro e w1 ⟨b, rfl, h1, hn, hb1⟩
  have HE := Lib.hid (And.intro h1 (And.intro hn hb1))
  clear h1 hn hb1
  go_wp2_with fail
  go_ret3
  exact ⟨b, rfl, HE.out⟩

theorem cfield9 (large : Bool) (w : World) : Calls Tryz.prog 7 #[.bool large] w (FieldSaid6 w) := by
  cases large
  · exact (cfield_no w).mono fun e w' ⟨b, he, h⟩ => ⟨qS, 8, b, he, h⟩
  · exact (cfield_yes w).mono fun e w' ⟨b, he, h⟩ => ⟨qL, 16, b, he, h⟩

/-- one row of one number, one row of two numbers -/
def c11 (x : Int) (_ _ : Nat) : Int := x
theorem cmat11 (b : Nat) (x : Int) (w W : World) (hb : b < w.heap.size) (hW : (w.alloc (.cells #[.int .i64 x] TI)).alloc (.cells #[.slice (some ⟨w.heap.size, 0, none⟩) 1 1] TIs) = W) :
    Mx b W (c11 x) (fun _ => 1) (some ⟨w.heap.size + 1, 0, none⟩) 1 ∧ Below w.heap.size w W := by
  have r1 := row_at (w := w) #[.int .i64 x] TI (i64s (c11 x 0)) _ rfl (fun i hi => by
    simp at hi
    match i, hi with
    | 0, _ => rfl)
  have r3 := row_at (w := w.alloc (.cells #[.int .i64 x] TI)) #[.slice (some ⟨w.heap.size, 0, none⟩) 1 1] TIs (slis (fun _ => some ⟨w.heap.size, 0, none⟩) (fun _ => 1) (fun _ => 1)) (w.heap.size + 1) (by simp) (fun i hi => by
    simp at hi
    match i, hi with
    | 0, _ => rfl)
  subst hW
  refine ⟨⟨_, _, Rd.of_row r3 (by omega) (by simp), fun r hr => ?_⟩, (below_alloc w _).alloc (by simp) _⟩
  match r, hr with
  | 0, _ => exact Rd.of_row (r1.alloc _) (by omega) (by simp)
def c12 (x y : Int) (_ j : Nat) : Int := if j = 0 then x else y
theorem cmat12 (b : Nat) (x y : Int) (w W : World) (hb : b < w.heap.size)
    (hW : (w.alloc (.cells #[.int .i64 x, .int .i64 y] TI)).alloc (.cells #[.slice (some ⟨w.heap.size, 0, none⟩) 2 2] TIs) = W) :
    Mx b W (c12 x y) (fun _ => 2) (some ⟨w.heap.size + 1, 0, none⟩) 1 ∧ Below w.heap.size w W := by
  have r1 := row_at (w := w) #[.int .i64 x, .int .i64 y] TI (i64s (c12 x y 0)) _ rfl (fun i hi => by
    simp at hi
    match i, hi with
    | 0, _ => rfl
    | 1, _ => rfl)
  have r3 := row_at (w := w.alloc (.cells #[.int .i64 x, .int .i64 y] TI)) #[.slice (some ⟨w.heap.size, 0, none⟩) 2 2] TIs (slis (fun _ => some ⟨w.heap.size, 0, none⟩) (fun _ => 2) (fun _ => 2)) (w.heap.size + 1) (by simp) (fun i hi => by
    simp at hi
    match i, hi with
    | 0, _ => rfl)
  subst hW
  refine ⟨⟨_, _, Rd.of_row r3 (by omega) (by simp), fun r hr => ?_⟩, (below_alloc w _).alloc (by simp) _⟩
  match r, hr with
  | 0, _ => exact Rd.of_row (r1.alloc _) (by omega) (by simp)
/-- a list of one number and a list of two -/
theorem lists12 (b : Nat) (x y z : Int) (w W : World) (hb : b < w.heap.size) (hW : (w.alloc (.cells #[.int .i64 x] TI)).alloc (.cells #[.int .i64 y, .int .i64 z] TI) = W) :
    Rd b W (i64s (fun _ => x)) (some ⟨w.heap.size, 0, none⟩) 1 ∧ Rd b W (i64s (fun j => if j = 0 then y else z)) (some ⟨w.heap.size + 1, 0, none⟩) 2 ∧ Below w.heap.size w W := by
  have r1 := row_at (w := w) #[.int .i64 x] TI (i64s (fun _ => x)) _ rfl (fun i hi => by
    simp at hi
    match i, hi with
    | 0, _ => rfl)
  have r2 := row_at (w := w.alloc (.cells #[.int .i64 x] TI)) #[.int .i64 y, .int .i64 z] TI (i64s (fun j => if j = 0 then y else z)) (w.heap.size + 1) (by simp) (fun i hi => by
    simp at hi
    match i, hi with
    | 0, _ => rfl
    | 1, _ => rfl)
  subst hW
  exact ⟨Rd.of_row (r1.alloc _) (by omega) (by simp), Rd.of_row r2 (by omega) (by simp), (below_alloc w _).alloc (by simp) _⟩

theorem cinv2 : M.inv 285 2 = 142 := by decide +kernel
theorem cinv1 : M.inv 285 1 = 1 := by decide +kernel
theorem elS {n : Nat} (h : n ≤ 255) : (toEl qS (n : Int)).val = n := by
  have ho : M.ord qS.p = 255 := ord285
  have := toEl_val (q := qS) (a := (n : Int)) ⟨by omega, by omega⟩
  omega
theorem of_val {lx ly : Nat → Int} {r j x y : Nat} (hx : x ≤ 255) (hy : y ≤ 255) (e1 : lx r = (x : Int)) (e2 : ly j = (y : Int)) : ivs (ofE qS lx ly) r j = ((M.inv 285 (x ^^^ y) : Nat) : Int) := by
  unfold ivs ofE cauE
  dsimp only
  rw [e1, e2]
  have h1 : (toEl qS (x : Int) + toEl qS (y : Int)).val = x ^^^ y := by rw [El.add_val, elS hx, elS hy]
  have h2 : ((toEl qS (x : Int) + toEl qS (y : Int)).inv).val = M.inv qS.p (toEl qS (x : Int) + toEl qS (y : Int)).val := rfl
  rw [h2, h1]
  rfl
theorem awake_cisal {r j : Nat} (hr : r < 1) (hj : j < 1) : ivs (ofE qS (frm 1) (frm 0)) r j = c11 1 r j := by
  obtain rfl : r = 0 := by omega
  obtain rfl : j = 0 := by omega
  exact (of_val (lx := frm 1) (ly := frm 0) (x := 1) (y := 0) (by omega) (by omega) rfl rfl).trans (congrArg Int.ofNat cinv1)
theorem awake_of {r j : Nat} (hr : r < 1) (hj : j < 2) : ivs (ofE qS (fun _ => 0) (fun j => if j = 0 then 1 else 2)) r j = c12 1 142 r j := by
  obtain rfl : r = 0 := by omega
  match j, hj with
  | 0, _ =>
    exact (of_val (lx := fun _ => 0) (ly := fun j => if j = 0 then 1 else 2) (x := 0) (y := 1) (by omega) (by omega) rfl rfl).trans (congrArg Int.ofNat cinv1)
  | 1, _ =>
    exact (of_val (lx := fun _ => 0) (ly := fun j => if j = 0 then 1 else 2) (x := 0) (y := 2) (by omega) (by omega) rfl rfl).trans (congrArg Int.ofNat cinv2)
theorem awake_ofP : ofP (M.ord qS.p) 1 2 (fun _ => 0) (fun j => if j = 0 then 1 else 2) := by
  have ho : M.ord qS.p = 255 := ord285
  refine ⟨⟨by omega, by omega⟩, ⟨by omega, by omega⟩, fun i hi => ?_⟩
  rw [ho]
  match i, hi with
  | 0, _ => exact ⟨⟨by decide, by decide⟩, fun k hk => absurd hk (by omega)⟩
  | 1, _ => exact ⟨⟨by decide, by decide⟩, fun k hk => by
      match k, hk with
      | 0, _ => decide⟩
  | 2, _ => exact ⟨⟨by decide, by decide⟩, fun k hk => by
      match k, hk with
      | 0, _ => decide
      | 1, _ => decide⟩
theorem m22_safe {x y z u : Int} (h : (0 ≤ x ∧ x ≤ 255) ∧ (0 ≤ y ∧ y ≤ 255) ∧ (0 ≤ z ∧ z ≤ 255) ∧ 0 ≤ u ∧ u ≤ 255) : safeP (M.ord qS.p) 2 (fun _ => 2) (m22 x y z u) := by
  have ho : M.ord qS.p = 255 := ord285
  rw [ho]
  refine ⟨⟨⟨by omega, by omega⟩, ⟨by dsimp only; omega, by dsimp only; omega⟩, fun r hr => ⟨rfl, fun j hj => ?_⟩⟩, by omega, by dsimp only; omega⟩
  unfold m22
  split <;> split <;> omega
theorem awake_unsafe : ¬ SafeP qS 2 2 (elM qS (m22 1 1 1 1)) := fun h => by
  have h1 := h (fun r => 2 + r) ⟨fun r hr => by dsimp only; omega, fun r _ => by dsimp only; omega⟩
  refine not_full (q := qS) (n := 2) (i := 0) (k := 1) (by omega) (by omega) (by omega) (fun c hc => ?_) h1
  show joinE 2 dl (elM qS (m22 1 1 1 1)) 2 c = joinE 2 dl (elM qS (m22 1 1 1 1)) 3 c
  unfold joinE
  rw [if_neg (by omega), if_neg (by omega)]
  unfold elM m22
  simp
theorem awake_safe : SafeP qS 2 2 (elM qS (m22 1 1 1 2)) := by
  have ho : M.ord qS.p = 255 := ord285
  refine (safe_of_any (fun f hf hu => isal_any (q := qS) (k := 2) (m := 2) (by omega) (by omega) (by omega) f hf hu)).congr (fun i hi j hj => ?_)
  unfold elM
  rw [← awake_isal hi hj]
  exact toEl_of _

set_option maxRecDepth 100000 in
set_option maxHeartbeats 4000000 in
theorem awakeC (w : World) : Calls Tryz.prog 5 #[] w fun e w' => e = .returned (.bool true) ∧ Below w.heap.size w w' := by
  go_enter Tryz.func5, Tryz.ntmps5
  go_wp2_with fail
  refine (cfield_no _).mono ?_
  rintro e w1 ⟨b, rfl, h1, hn, hb1⟩
  have H1 := Lib.hid (Live.start (Below.refl _ w) h1 hn hb1)
  clear h1 hn hb1
  go_wp2_with fail
  refine (cisal_yes qS b 8 1 1 (by omega) (by omega) (by omega) _ H1.out.1).mono ?_
  rintro e w2 ⟨A2, c2, rfl, _, hx2, hf2, ht2⟩
  have H2 := Lib.hid (H1.out.next hf2 ht2)
  have X2 := Lib.hid (show Mx b w2 (ivs (ofE qS (frm 1) (frm 0))) (fun _ => 1) A2 1 from hx2)
  simp only [cond, errOf, if_true]
  clear hx2 hf2 ht2 H1
  obtain ⟨W3, hW3⟩ : ∃ W, (w2.alloc (.cells #[.int .i64 0] TI)).alloc (.cells #[.int .i64 1, .int .i64 2] TI) = W := ⟨_, rfl⟩
  obtain ⟨l1, l2, hb3⟩ := lists12 b 0 1 2 w2 W3 H2.out.1.lt hW3
  have H3 := Lib.hid (H2.out.below hb3)
  have X3 := Lib.hid (X2.out.below hb3)
  have L1 := Lib.hid l1
  have L2 := Lib.hid l2
  clear l1 l2 hb3 H2 X2
  go_wp2_with fail
  refine (of_any qS b 8 1 2 (fun _ => 0) (fun j => if j = 0 then 1 else 2) _ _ 1 2 (fun _ _ => ⟨by decide, by decide⟩) (fun i _ => by split <;> exact ⟨by decide, by decide⟩) W3 H3.out.1 L1.out L2.out).mono ?_
  rintro e w4 ⟨t, A4, c4, rfl, ht, _, hx4, hf4, ht4⟩
  obtain rfl : t = true := ht.2 awake_ofP
  have H4 := Lib.hid (H3.out.next hf4 ht4)
  have X4 := Lib.hid (X3.out.turned ht4)
  have Y4 := Lib.hid (show Mx b w4 (ivs (ofE qS (fun _ => 0) (fun j => if j = 0 then 1 else 2))) (fun _ => 2) A4 1 from hx4)
  simp only [cond, errOf, if_true]
  clear ht hx4 hf4 ht4 H3 X3 L1 L2 hW3
  obtain ⟨W5, hW5⟩ : ∃ W, ((w4.alloc (.cells #[.int .i64 1, .int .i64 1] TI)).alloc (.cells #[.int .i64 1, .int .i64 1] TI)).alloc (.cells #[.slice (some ⟨w4.heap.size, 0, none⟩) 2 2, .slice (some ⟨w4.heap.size + 1, 0, none⟩) 2 2] TIs) = W := ⟨_, rfl⟩
  obtain ⟨m5, hb5⟩ := mat22 b 1 1 1 1 w4 W5 H4.out.1.lt hW5
  have H5 := Lib.hid (H4.out.below hb5)
  have X5 := Lib.hid (X4.out.below hb5)
  have Y5 := Lib.hid (Y4.out.below hb5)
  have M5 := Lib.hid m5
  clear m5 hb5 H4 X4 Y4
  go_wp2_with fail
  refine (safe_any qS b 8 2 (fun _ => 2) (m22 1 1 1 1) _ 2 W5 H5.out.1 M5.out).mono ?_
  rintro e w6 ⟨s, t, rfl, hs, ht, hf6, ht6⟩
  obtain rfl : s = true := hs.2 (m22_safe (by omega))
  obtain rfl : t = false := by
    cases t
    · rfl
    · exact absurd (ht.1 rfl).2 awake_unsafe
  have H6 := Lib.hid (H5.out.next hf6 ht6)
  have X6 := Lib.hid (X5.out.turned ht6)
  have Y6 := Lib.hid (Y5.out.turned ht6)
  simp only [errOf, if_true]
  clear hs ht hf6 ht6 H5 X5 Y5 M5 hW5
  obtain ⟨W7, hW7⟩ : ∃ W, ((w6.alloc (.cells #[.int .i64 1, .int .i64 1] TI)).alloc (.cells #[.int .i64 1, .int .i64 2] TI)).alloc (.cells #[.slice (some ⟨w6.heap.size, 0, none⟩) 2 2, .slice (some ⟨w6.heap.size + 1, 0, none⟩) 2 2] TIs) = W := ⟨_, rfl⟩
  obtain ⟨m7, hb7⟩ := mat22 b 1 1 1 2 w6 W7 H6.out.1.lt hW7
  have H7 := Lib.hid (H6.out.below hb7)
  have X7 := Lib.hid (X6.out.below hb7)
  have Y7 := Lib.hid (Y6.out.below hb7)
  have M7 := Lib.hid m7
  clear m7 hb7 H6 X6 Y6
  go_wp2_with fail
  refine (safe_any qS b 8 2 (fun _ => 2) (m22 1 1 1 2) _ 2 W7 H7.out.1 M7.out).mono ?_
  rintro e w8 ⟨s, t, rfl, hs, ht, hf8, ht8⟩
  obtain rfl : s = true := hs.2 (m22_safe (by omega))
  obtain rfl : t = true := ht.2 ⟨rfl, awake_safe⟩
  have H8 := Lib.hid (H7.out.next hf8 ht8)
  have X8 := Lib.hid (X7.out.turned ht8)
  have Y8 := Lib.hid (Y7.out.turned ht8)
  simp only [errOf, if_true]
  clear hs ht hf8 ht8 H7 X7 Y7 M7 hW7
  obtain ⟨W9, hW9⟩ : ∃ W, (w8.alloc (.cells #[.int .i64 1] TI)).alloc (.cells #[.slice (some ⟨w8.heap.size, 0, none⟩) 1 1] TIs) = W := ⟨_, rfl⟩
  obtain ⟨m9, hb9⟩ := cmat11 b 1 w8 W9 H8.out.1.lt hW9
  have H9 := Lib.hid (H8.out.below hb9)
  have Y9 := Lib.hid (Y8.out.below hb9)
  have C1 := Lib.hid (same19 b b _ _ _ _ A2 _ 1 c2 1 (by omega) (fun _ _ => by omega) W9 (X8.out.below hb9) m9 (fun _ _ => rfl) (fun r hr j hj => awake_cisal hr hj))
  clear m9 hb9 H8 X8 Y8
  go_wp2_with fail
  refine C1.out.mono ?_
  rintro e w10 ⟨rfl, q10, rfl⟩
  have H10 := Lib.hid (H9.out.below (below_drewN' W9 q10))
  have Y10 := Lib.hid (Y9.out.below (below_drewN' W9 q10))
  obtain ⟨w10, hw10⟩ : ∃ w10, W9.drewN q10 = w10 := ⟨_, rfl⟩
  rw [hw10] at H10 Y10 ⊢
  obtain ⟨W11, hW11⟩ : ∃ W, (w10.alloc (.cells #[.int .i64 1, .int .i64 142] TI)).alloc (.cells #[.slice (some ⟨w10.heap.size, 0, none⟩) 2 2] TIs) = W := ⟨_, rfl⟩
  obtain ⟨m11, hb11⟩ := cmat12 b 1 142 w10 W11 H10.out.1.lt hW11
  have H11 := Lib.hid (H10.out.below hb11)
  have C2 := Lib.hid (same19 b b _ _ _ _ A4 _ 1 c4 1 (by omega) (fun _ _ => by omega) W11 (Y10.out.below hb11) m11 (fun _ _ => rfl) (fun r hr j hj => awake_of hr hj))
  clear m11 hb11 H10 Y10 C1 H9 Y9 hW9 hw10
  go_wp2_with fail
  refine C2.out.mono ?_
  rintro e w12 ⟨rfl, q12, rfl⟩
  have HB := Lib.hid (H11.out.below (below_drewN' W11 q12)).2.1
  clear C2 H11 hW11
  go_wp2_with fail
  go_ret
  exact ⟨rfl, HB.out⟩
end Go.Proofs.YtgcochamjicjiaaGreat
