/- Layer 5's own first test, and how its laws choose a field. -/
import Derived.Test.YtkbacjfjlffmcaaGxg
import Derived.Test.YtkbacjfjlffmcaaMtn
namespace Go.Proofs.Ytkbacjfjlffmcaa
open Go.RowKit

set_option maxRecDepth 100000 in
/-- a field is chosen -/
def FieldSaid5 (w : World) (e : Ending) (w' : World) : Prop :=
  ∃ (q : FP) (wd b : Nat), e = .returned (.tuple #[.pointer (some ⟨b, 0, none⟩), .int .i64 wd, .int .u32 q.p]) ∧ Fld q.p b wd w' ∧ w.heap.size ≤ b ∧ Below w.heap.size w w'
theorem ifield_yes (w : World) : Calls Try.prog 11 #[.bool true] w fun e w' => ∃ b, e = .returned (.tuple #[.pointer (some ⟨b, 0, none⟩), .int .i64 16, .int .u32 69643]) ∧ Fld 69643 b 16 w' ∧ w.heap.size ≤ b ∧ Below w.heap.size w w' := by
  go_enter Try.func11, Try.ntmps11
  go_wp2_with fail
  refine (new_yes 69643 16 good69643 _).mono ?_
  rintro e w1 ⟨b, rfl, h1, hn, hb1⟩
  have HE := Lib.hid (And.intro h1 (And.intro hn hb1))
  clear h1 hn hb1
  go_wp2_with fail
  go_ret3
  exact ⟨b, rfl, HE.out⟩
theorem ifield_no (w : World) : Calls Try.prog 11 #[.bool false] w fun e w' => ∃ b, e = .returned (.tuple #[.pointer (some ⟨b, 0, none⟩), .int .i64 8, .int .u32 285]) ∧ Fld 285 b 8 w' ∧ w.heap.size ≤ b ∧ Below w.heap.size w w' := by
  go_enter Try.func11, Try.ntmps11
  go_wp2_with fail
  refine (new_yes 285 8 good285 _).mono ?_
  rintro e w1 ⟨b, rfl, h1, hn, hb1⟩
  have HE := Lib.hid (And.intro h1 (And.intro hn hb1))
  clear h1 hn hb1
  go_wp2_with fail
  go_ret3
  exact ⟨b, rfl, HE.out⟩
/-- the field of 8 bits -/
def q285 : FP := ⟨285, M.prim285⟩
def q69643 : FP := ⟨69643, M.prim69643⟩
theorem ifield11 (large : Bool) (w : World) : Calls Try.prog 11 #[.bool large] w (FieldSaid5 w) := by
  cases large
  · exact (ifield_no w).mono fun e w' ⟨b, he, h⟩ => ⟨q285, 8, b, he, h⟩
  · exact (ifield_yes w).mono fun e w' ⟨b, he, h⟩ => ⟨q69643, 16, b, he, h⟩

/-- two rows of two numbers -/
def m22 (x y z u : Int) (r j : Nat) : Int := if r = 0 then (if j = 0 then x else y) else (if j = 0 then z else u)
theorem mat22 (b : Nat) (x y z u : Int) (w W : World) (hb : b < w.heap.size)
    (hW : ((w.alloc (.cells #[.int .i64 x, .int .i64 y] TI)).alloc (.cells #[.int .i64 z, .int .i64 u] TI)).alloc (.cells #[.slice (some ⟨w.heap.size, 0, none⟩) 2 2, .slice (some ⟨w.heap.size + 1, 0, none⟩) 2 2] TIs) = W) :
    Mx b W (m22 x y z u) (fun _ => 2) (some ⟨w.heap.size + 1 + 1, 0, none⟩) 2 ∧ Below w.heap.size w W := by
  have r1 := row_at (w := w) #[.int .i64 x, .int .i64 y] TI (i64s (m22 x y z u 0)) _ rfl (fun i hi => by
    simp at hi
    match i, hi with
    | 0, _ => rfl
    | 1, _ => rfl)
  have r2 := row_at (w := w.alloc (.cells #[.int .i64 x, .int .i64 y] TI)) #[.int .i64 z, .int .i64 u] TI (i64s (m22 x y z u 1)) (w.heap.size + 1) (by simp) (fun i hi => by
    simp at hi
    match i, hi with
    | 0, _ => rfl
    | 1, _ => rfl)
  have r3 := row_at (w := (w.alloc (.cells #[.int .i64 x, .int .i64 y] TI)).alloc (.cells #[.int .i64 z, .int .i64 u] TI)) #[.slice (some ⟨w.heap.size, 0, none⟩) 2 2, .slice (some ⟨w.heap.size + 1, 0, none⟩) 2 2] TIs (slis (fun r => if r = 0 then some ⟨w.heap.size, 0, none⟩ else some ⟨w.heap.size + 1, 0, none⟩) (fun _ => 2) (fun _ => 2)) (w.heap.size + 1 + 1) (by simp) (fun i hi => by
    simp at hi
    match i, hi with
    | 0, _ => rfl
    | 1, _ => rfl)
  subst hW
  refine ⟨⟨_, _, Rd.of_row r3 (by omega) (by simp), fun r hr => ?_⟩, (((below_alloc w _).alloc (by simp) _).alloc (by simp; omega) _)⟩
  match r, hr with
  | 0, _ => exact Rd.of_row ((r1.alloc _).alloc _) (by omega) (by simp)
  | 1, _ => exact Rd.of_row (r2.alloc _) (by omega) (by simp)
theorem m22_may {c : Nat} {x y z u : Int} (h1 : 0 ≤ x ∧ x ≤ c) (h2 : 0 ≤ y ∧ y ≤ c) (h3 : 0 ≤ z ∧ z ≤ c) (h4 : 0 ≤ u ∧ u ≤ c) : sqP c 2 (fun _ => 2) (m22 x y z u) :=
  ⟨⟨show 1 ≤ 2 ∧ 2 ≤ 20 by omega, show 1 ≤ 2 ∧ 2 ≤ 20 by omega, fun r _ => ⟨rfl, fun j _ => by
    unfold m22
    split <;> split <;> assumption⟩⟩, rfl⟩

theorem el1 {q : FP} : toEl q 1 = 1 := toEl_of (1 : El q)
theorem el2 : toEl q285 2 ≠ 1 := fun h => by
  have h1 := toEl_val (q := q285) (a := 2) (by rw [show q285.p = 285 from rfl, ord285]; omega)
  rw [h, El.one_val] at h1
  omega
theorem awake_full : rk 2 (elM q285 (m22 1 1 1 2)) 2 = 2 := by
  refine full_of_free (fun c hc => ?_)
  have h0 := hc 0 (by omega)
  have h1 := hc 1 (by omega)
  simp only [su, elM, m22, reduceIte, if_neg (show ¬ (1 = 0) by omega), el1, El.mul_one, El.zero_add] at h0 h1
  have e := El.add_eq_zero.1 h0
  have h2 : (1 + toEl q285 2) * c 0 = 0 := by
    rw [El.add_mul, El.one_mul, El.mul_comm (toEl q285 2)]
    rw [← e] at h1
    exact h1
  have h3 := El.cancel (fun h => el2 (El.add_eq_zero.1 h).symm) h2
  intro i hi
  match i, hi with
  | 0, _ => exact h3
  | 1, _ => rw [← e]; exact h3
theorem awake_not : rk 2 (elM q285 (m22 1 1 1 1)) 2 ≠ 2 := not_full (i := 0) (k := 1) (by omega) (by omega) (by omega) (fun c _ => by
  simp only [elM, m22, reduceIte, if_neg (show ¬ (1 = 0) by omega)])
theorem awake_rank : rk 2 (elM q285 (m22 1 1 1 1)) 2 = 1 := by
  have hone : ∀ r c, elM q285 (m22 1 1 1 1) r c = 1 := fun r c => by
    unfold elM m22
    split <;> split <;> exact el1
  have h1 : rk 2 (elM q285 (m22 1 1 1 1)) 2 ≤ 1 := fac_rk ⟨fun _ _ => 1, fun _ _ => 1, fun r _ c _ => by
    rw [hone]
    simp only [mm, su, El.mul_one, El.zero_add]⟩
  rcases Nat.eq_zero_or_pos (rk 2 (elM q285 (m22 1 1 1 1)) 2) with h | h
  · exfalso
    obtain ⟨X, Y, hXY⟩ := rk_fac 2 2 (elM q285 (m22 1 1 1 1))
    rw [h] at hXY
    have := hXY 0 (by omega) 0 (by omega)
    rw [hone] at this
    exact El.one_ne this
  · omega

set_option maxRecDepth 100000 in
set_option maxHeartbeats 2000000 in
theorem awakeI (w : World) : Calls Try.prog 9 #[] w fun e w' => e = .returned (.bool true) ∧ Below w.heap.size w w' := by
  have ho : M.ord q285.p = 255 := ord285
  have HS1 := Lib.hid (show sqP (M.ord q285.p) 2 (fun _ => 2) (m22 1 1 1 2) from m22_may (by omega) (by omega) (by omega) (by omega))
  have HS2 := Lib.hid (show sqP (M.ord q285.p) 2 (fun _ => 2) (m22 1 1 1 1) from m22_may (by omega) (by omega) (by omega) (by omega))
  clear ho
  go_enter Try.func9, Try.ntmps9
  go_wp2_with fail
  refine (ifield_no _).mono ?_
  rintro e w1 ⟨b, rfl, h1, hn, hb1⟩
  have H1 := Lib.hid (Live.start (Below.refl _ w) h1 hn hb1)
  clear h1 hn hb1
  obtain ⟨W1, hW1⟩ : ∃ W, ((w1.alloc (.cells #[.int .i64 1, .int .i64 1] TI)).alloc (.cells #[.int .i64 1, .int .i64 2] TI)).alloc (.cells #[.slice (some ⟨w1.heap.size, 0, none⟩) 2 2, .slice (some ⟨w1.heap.size + 1, 0, none⟩) 2 2] TIs) = W := ⟨_, rfl⟩
  obtain ⟨mx1, hbW1⟩ := mat22 b 1 1 1 2 w1 W1 H1.out.1.lt hW1
  have L1 := Lib.hid (H1.out.below hbW1)
  have C1 := Lib.hid (inverse12 q285 b 8 2 (fun _ => 2) _ _ 2 W1 L1.out.1 mx1)
  clear hbW1 mx1
  go_wp2_with fail
  refine C1.out.mono ?_
  rintro e w2 ⟨s, t, A2, c2, rfl, hs, ht, _, _, hf2, ht2⟩
  obtain rfl : s = true := hs.2 HS1.out
  obtain rfl : t = true := (ht rfl).2 awake_full
  have H2 := Lib.hid (L1.out.next hf2 ht2)
  rw [show err2 true true = 0 from rfl]
  simp only [Bool.and_self, cond]
  clear hs ht hf2 ht2 C1 L1 H1 hW1
  obtain ⟨W2, hW2⟩ : ∃ W, ((w2.alloc (.cells #[.int .i64 1, .int .i64 1] TI)).alloc (.cells #[.int .i64 1, .int .i64 1] TI)).alloc (.cells #[.slice (some ⟨w2.heap.size, 0, none⟩) 2 2, .slice (some ⟨w2.heap.size + 1, 0, none⟩) 2 2] TIs) = W := ⟨_, rfl⟩
  obtain ⟨mx2, hbW2⟩ := mat22 b 1 1 1 1 w2 W2 H2.out.1.lt hW2
  have L2 := Lib.hid (H2.out.below hbW2)
  have C2 := Lib.hid (inverse12 q285 b 8 2 (fun _ => 2) _ _ 2 W2 L2.out.1 mx2)
  clear hbW2 mx2
  go_wp2_with fail
  refine C2.out.mono ?_
  rintro e w3 ⟨s, t, A3, c3, rfl, hs, ht, _, _, hf3, ht3⟩
  obtain rfl : s = true := hs.2 HS2.out
  obtain rfl : t = false := by
    cases t
    · rfl
    · exact absurd ((ht rfl).1 rfl) awake_not
  have H3 := Lib.hid (L2.out.next hf3 ht3)
  rw [show err2 true false = 2 from rfl]
  simp only [Bool.and_false, cond]
  clear hs ht hf3 ht3 C2 L2 H2 hW2
  obtain ⟨W3, hW3⟩ : ∃ W, ((w3.alloc (.cells #[.int .i64 1, .int .i64 1] TI)).alloc (.cells #[.int .i64 1, .int .i64 1] TI)).alloc (.cells #[.slice (some ⟨w3.heap.size, 0, none⟩) 2 2, .slice (some ⟨w3.heap.size + 1, 0, none⟩) 2 2] TIs) = W := ⟨_, rfl⟩
  obtain ⟨mx3, hbW3⟩ := mat22 b 1 1 1 1 w3 W3 H3.out.1.lt hW3
  have L3 := Lib.hid (H3.out.below hbW3)
  have C3 := Lib.hid (rank14 q285 b 8 2 (fun _ => 2) _ _ 2 W3 L3.out.1 mx3)
  clear hbW3 mx3
  go_wp2_with fail
  refine C3.out.mono ?_
  rintro e w4 ⟨s, rfl, hs, hf4, ht4⟩
  obtain rfl : s = true := hs.2 HS2.out.1
  rw [awake_rank, show errOf true = 0 from rfl]
  simp only [cond]
  have H4 := Lib.hid (L3.out.next hf4 ht4)
  clear hs hf4 ht4 C3 L3 H3 hW3
  go_wp2_with fail
  go_ret
  exact ⟨rfl, H4.out.2.1⟩
end Go.Proofs.Ytkbacjfjlffmcaa
