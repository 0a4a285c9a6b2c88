/- Rows that are divided where they stand: the contracts of package jvan's divideColumn, divideRow, and each, of either step. -/
import Derived.Test.YtgcochamjicjiaaGreatJvb
import Derived.Deep.RegionHeld3
namespace Go.Proofs.YtgcochamjicjiaaGreat
open Go.RowKit

abbrev TD : Nat := 63

theorem fdiv_el {q : FP} {a c : El q} (h : c ≠ 0) : fdiv q.p (a.val : Int) (c.val : Int) = .tuple #[.int .i64 ((a * c.inv).val : Nat), .bool true] := by
  have h1 := a.le
  have h2 := c.le
  have h0 : c.val ≠ 0 := fun e => h (El.eq_zero.2 e)
  rw [fdiv_yes (by omega) (by omega) (by omega) (by omega), Int.toNat_natCast, Int.toNat_natCast]
  rfl

section
variable {q : FP}
/-- the rows and the field, while the rows are divided -/
structure Dvd (q : FP) (b wd n m g bx : Nat) (bv : Nat → Value) (gs Cs : Nat → Nat) (X : Nat → Nat → El q) (w0 W : World) : Prop where
  fld : Fld q.p b wd W
  turned : Turned b w0 W
  bl : b < w0.heap.size
  grid : Grid n m g gs Cs X W
  glow : w0.heap.size ≤ g
  low : ∀ r, r < n → w0.heap.size ≤ gs r
  box : W.rowIs bx TD 2 bv
  bne : bx ≠ b

variable {b wd n m g bx : Nat} {bv : Nat → Value} {gs Cs : Nat → Nat} {X : Nat → Nat → El q} {w0 W W' : World}
theorem Dvd.turn (h : Dvd q b wd n m g bx bv gs Cs X w0 W) (hf : Fld q.p b wd W') (ht : Turned b W W') : Dvd q b wd n m g bx bv gs Cs X w0 W' := by
  have hb := h.bl
  have h1 := h.glow
  refine ⟨hf, h.turned.trans ht, h.bl, h.grid.of_blocks (ht.block g h.grid.out.lt (by omega)) (fun r hr => ?_), h.glow, h.low, ht.row h.box h.bne, h.bne⟩
  obtain ⟨T, t1, _⟩ := h.grid.row r hr
  have := h.low r hr
  exact ht.block _ t1.lt (by omega)
theorem Dvd.below (h : Dvd q b wd n m g bx bv gs Cs X w0 W) (hb : Below W.heap.size W W') : Dvd q b wd n m g bx bv gs Cs X w0 W' := h.turn (h.fld.of_below hb) (Turned.of_below hb)
theorem Dvd.drew (h : Dvd q b wd n m g bx bv gs Cs X w0 W) : Dvd q b wd n m g bx bv gs Cs X w0 W.drew := h.below (Below.refl _ _).drew
theorem Dvd.congr {X' : Nat → Nat → El q} (h : Dvd q b wd n m g bx bv gs Cs X w0 W) (he : ∀ r, r < n → ∀ j, j < m → X r j = X' r j) : Dvd q b wd n m g bx bv gs Cs X' w0 W :=
  ⟨h.fld, h.turned, h.bl, h.grid.congr he, h.glow, h.low, h.box, h.bne⟩
theorem Dvd.set (h : Dvd q b wd n m g bx bv gs Cs X w0 W) {r j : Nat} (hr : r < n) (v : El q) : Dvd q b wd n m g bx bv gs Cs (put X r j v) w0 (W.setCell ⟨gs r, j, none⟩ (.int .i64 (v.val : Nat))) := by
  obtain ⟨T, t1, _⟩ := h.grid.row r hr
  refine ⟨h.fld.setRow t1 (by decide) (by decide) _, h.turned.set_new (h.low r hr) _, h.bl, h.grid.set hr v, h.glow, h.low, h.box.setOther (a := ⟨gs r, j, none⟩) (fun e => ?_) _, h.bne⟩
  have h1 := h.box
  rw [show bx = gs r from e] at h1
  exact absurd (rowIs_kind t1 h1) (by decide)
theorem Dvd.told (h : Dvd q b wd n m g bx bv gs Cs X w0 W) : Mx b W (ivs X) (fun _ => m) (some ⟨g, 0, none⟩) n := by
  have hb := h.bl
  have h1 := h.glow
  refine ⟨fun r => some ⟨gs r, 0, none⟩, Cs, Rd.of_row h.grid.out (by omega) (Nat.le_refl _), fun r hr => ?_⟩
  obtain ⟨T, t1, t2⟩ := h.grid.row r hr
  have := h.low r hr
  exact (Rd.of_row t1 (by omega) (h.grid.cap r hr)).congr (fun j hj => t2 j hj)
/-- what lies in a box of the call's own stays -/
theorem box_set {by' r j : Nat} {v u : Value} (hc : W.cell? ⟨by', 0, none⟩ = some v) (hne : gs r ≠ by') : (W.setCell ⟨gs r, j, none⟩ u).cell? ⟨by', 0, none⟩ = some v :=
  (World.cell?_of_block (Below.heap_setCell _ _ _ _ (fun e => hne e.symm))).trans hc

/-- column j, of which i rows are divided -/
def cdv (X : Nat → Nat → El q) (j i r c : Nat) : El q := if c = j ∧ r < i then X r j * (X 0 j).inv else X r c
theorem cdv_step (j i r c : Nat) : put (cdv X j i) i j (X i j * (X 0 j).inv) r c = cdv X j (i + 1) r c := by
  unfold put cdv
  by_cases e : c = j
  · by_cases e2 : r = i
    · rw [if_pos ⟨e2, e⟩, if_pos ⟨e, by omega⟩, e2]
    · rw [if_neg (fun h => e2 h.1)]
      by_cases e3 : r < i
      · rw [if_pos ⟨e, e3⟩, if_pos ⟨e, by omega⟩]
      · rw [if_neg (by omega), if_neg (by omega)]
  · rw [if_neg (fun h => e h.2), if_neg (fun h => e h.1), if_neg (fun h => e h.1)]
theorem cdv_row {j i c : Nat} : cdv X j i i c = X i c := by unfold cdv; rw [if_neg (by omega)]
/-- j columns are divided -/
def cup (X : Nat → Nat → El q) (j r c : Nat) : El q := if c < j then colE X r c else X r c
theorem cup_step {j n : Nat} (r c : Nat) (hr : r < n) : cdv (cup X j) j n r c = cup X (j + 1) r c := by
  unfold cdv cup colE
  by_cases e : c = j
  · rw [if_pos ⟨e, hr⟩, if_neg (by omega), if_neg (by omega), if_pos (by omega), e]
  · rw [if_neg (fun h => e h.1)]
    by_cases e3 : c < j
    · rw [if_pos e3, if_pos (by omega)]
    · rw [if_neg e3, if_neg (by omega)]
/-- row i, of which j numbers are divided -/
def rdv (X : Nat → Nat → El q) (i j r c : Nat) : El q := if r = i ∧ c < j then X i c * (X i 0).inv else X r c
theorem rdv_step (j i r c : Nat) : put (rdv X i j) i j (X i j * (X i 0).inv) r c = rdv X i (j + 1) r c := by
  unfold put rdv
  by_cases e : r = i
  · by_cases e2 : c = j
    · rw [if_pos ⟨e, e2⟩, if_pos ⟨e, by omega⟩, e2]
    · rw [if_neg (fun h => e2 h.2)]
      by_cases e3 : c < j
      · rw [if_pos ⟨e, e3⟩, if_pos ⟨e, by omega⟩]
      · rw [if_neg (by omega), if_neg (by omega)]
  · rw [if_neg (fun h => e h.1), if_neg (fun h => e h.1), if_neg (fun h => e h.1)]
theorem rdv_row {j i : Nat} : rdv X i j i j = X i j := by unfold rdv; rw [if_neg (by omega)]
/-- the rows from 1 to below i are divided -/
def rup (X : Nat → Nat → El q) (i r c : Nat) : El q := if 1 ≤ r ∧ r < i then rowE X r c else X r c
theorem rup_step {i m : Nat} (r c : Nat) (hi : 1 ≤ i) (hc : c < m) : rdv (rup X i) i m r c = rup X (i + 1) r c := by
  unfold rdv rup rowE
  by_cases e : r = i
  · rw [if_pos ⟨e, hc⟩, if_neg (by omega), if_neg (by omega), if_pos (by omega), e]
  · rw [if_neg (fun h => e h.1)]
    by_cases e3 : 1 ≤ r ∧ r < i
    · rw [if_pos e3, if_pos (by omega)]
    · rw [if_neg e3, if_neg (by omega)]
end

/-- the loops of divideColumn and divideRow: what lies in box by' is the field -/
def ColAt (q : FP) (b wd n m g bx : Nat) (bv : Nat → Value) (gs Cs : Nat → Nat) (X : Nat → Nat → El q) (j by' : Nat) (w0 : World) (s17 : Value) (W : World) : Prop :=
  ∃ i : Nat, i ≤ n ∧ s17 = .int .i64 i ∧ Dvd q b wd n m g bx bv gs Cs (cdv X j i) w0 W ∧ W.cell? ⟨by', 0, none⟩ = some (.pointer (some ⟨b, 0, none⟩))
def RwAt (q : FP) (b wd n m g bx : Nat) (bv : Nat → Value) (gs Cs : Nat → Nat) (X : Nat → Nat → El q) (i by' : Nat) (w0 : World) (s18 : Value) (W : World) : Prop :=
  ∃ j : Nat, j ≤ m ∧ s18 = .int .i64 j ∧ Dvd q b wd n m g bx bv gs Cs (rdv X i j) w0 W ∧ W.cell? ⟨by', 0, none⟩ = some (.pointer (some ⟨b, 0, none⟩))

set_option maxRecDepth 100000 in
set_option maxHeartbeats 2000000 in
theorem dcol22 (q : FP) (b wd n m g cn bx : Nat) (bv : Nat → Value) (gs Cs : Nat → Nat) (X : Nat → Nat → El q) (j : Nat) (w0 w : World) (hn0 : 0 < n) (hj : j < m) (hn : n ≤ 100) (h0 : X 0 j ≠ 0) (h : Dvd q b wd n m g bx bv gs Cs X w0 w) :
    Calls Tryz.prog 35 #[.agg #[.pointer (some ⟨b, 0, none⟩), .slice (some ⟨g, 0, none⟩) n cn], .int .i64 j] w
      fun e w' => e = .returned (.tuple #[]) ∧ Dvd q b wd n m g bx bv gs Cs (cdv X j n) w0 w' := by
  have hlow : ∀ r, r < n → gs r ≠ w.heap.size := fun r hr => by
    obtain ⟨T, t1, _⟩ := h.grid.row r hr
    have := t1.lt
    omega
  have HLOW := Lib.hid hlow
  have hbl := h.fld.lt
  have hbw := below_alloc w (.cells #[.pointer (some ⟨b, 0, none⟩), .slice (some ⟨g, 0, none⟩) n cn] TD)
  have hb0 : (w.alloc (.cells #[.pointer (some ⟨b, 0, none⟩), .slice (some ⟨g, 0, none⟩) n cn] TD)).cell? ⟨w.heap.size, 0, none⟩ = some (.pointer (some ⟨b, 0, none⟩)) := by simp
  have hb1 : (w.alloc (.cells #[.pointer (some ⟨b, 0, none⟩), .slice (some ⟨g, 0, none⟩) n cn] TD)).cell? ⟨w.heap.size, 1, none⟩ = some (.slice (some ⟨g, 0, none⟩) n cn) := by simp
  obtain ⟨w1, hw1⟩ : ∃ w1, w.alloc (.cells #[.pointer (some ⟨b, 0, none⟩), .slice (some ⟨g, 0, none⟩) n cn] TD) = w1 := ⟨_, rfl⟩
  rw [hw1] at hbw hb0 hb1
  have h1 := h.below hbw
  have HX := Lib.hid h1
  have c1 := h1.grid.out.cell (i := 0) hn0
  have c2 := (h1.grid.cell hn0 hj).1
  have HD := Lib.hid (fun i => fdiv_el (a := X i j) h0)
  have HB0 := Lib.hid hb0
  clear h h1 hbw hlow
  go_enter Tryz.func35, Tryz.ntmps35
  go_wp2_with fail
  go_loopw [17] (fun s17 wr => ColAt q b wd n m g bx bv gs Cs X j w.heap.size w0 s17 wr) (fun s17 _ => n - (intOf s17).toNat)
  case atStart => exact ⟨0, Nat.zero_le _, rfl, HX.out.congr (fun r _ c _ => by unfold cdv; rw [if_neg (by omega)]), HB0.out⟩
  case round =>
    clear HX HB0 c1 c2 hb0 hb1 hw1
    obtain ⟨i, hi, rfl, hR, d3⟩ := hrel
    have HR := Lib.hid hR
    have HB := Lib.hid d3
    by_cases hlt : i < n
    · have d1 := hR.grid.out.cell (i := i) hlt
      obtain ⟨d2, f2⟩ := hR.grid.cell hlt hj
      rw [cdv_row] at d2
      have KEEP := Lib.hid (show ∀ w', Turned b wr w' → Fld q.p b wd w' → w'.cell? ⟨w.heap.size, 0, none⟩ = some (.pointer (some ⟨b, 0, none⟩)) ∧ w'.cell? ⟨gs i, j, none⟩ = some (.int .i64 ((X i j).val : Nat)) ∧ w'.frozen? ⟨gs i, j, none⟩ = false from fun w' ht hf => by
        obtain ⟨e1, e2⟩ := (HR.out.turn hf ht).grid.cell hlt hj
        rw [cdv_row] at e1
        exact ⟨(ht.cell (World.block_lt_of_cell? _ _ HB.out) (show w.heap.size ≠ b by omega)).trans HB.out, e1, e2⟩)
      clear hR
      go_wp2_with fail
      go_region_with (go_at_call 62; refine (fdiv16 q.p b wd _ _ wr.drew HR.out.drew.fld).mono ?_; rintro e w5 ⟨rfl, hf2, ht2⟩; rw [HD.out]; obtain ⟨e1, e2, e3⟩ := KEEP.out _ ((Turned.refl b wr).drew.trans ht2) hf2)
      all_goals
        have H5 := Lib.hid (Dvd.congr ((HR.out.drew.turn hf2 ht2).set (j := j) hlt (X i j * (X 0 j).inv)) (fun r _ c _ => cdv_step j i r c))
        have B5 := Lib.hid (box_set (gs := gs) (r := i) (j := j) (u := .int .i64 ((X i j * (X 0 j).inv).val : Nat)) e1 (HLOW.out i hlt))
        clear d1 d2 f2 d3 KEEP hf2 ht2 e1 e2 e3 HR HB
        go_wp2_with fail
        exact ⟨⟨i + 1, hlt, by go_num, H5.out, B5.out⟩, by simp [intOf]; omega⟩
    · obtain rfl : i = n := by omega
      clear hR
      go_wp2_with fail
      go_end0
      exact ⟨rfl, HR.out⟩

set_option maxRecDepth 100000 in
set_option maxHeartbeats 2000000 in
theorem drow23 (q : FP) (b wd n m g cn bx : Nat) (bv : Nat → Value) (gs Cs : Nat → Nat) (X : Nat → Nat → El q) (i : Nat) (w0 w : World) (hm0 : 0 < m) (hi : i < n) (hm : m ≤ 100) (h0 : X i 0 ≠ 0) (h : Dvd q b wd n m g bx bv gs Cs X w0 w) :
    Calls Tryz.prog 36 #[.agg #[.pointer (some ⟨b, 0, none⟩), .slice (some ⟨g, 0, none⟩) n cn], .int .i64 i] w
      fun e w' => e = .returned (.tuple #[]) ∧ Dvd q b wd n m g bx bv gs Cs (rdv X i m) w0 w' := by
  have hlow : gs i ≠ w.heap.size := by
    obtain ⟨T, t1, _⟩ := h.grid.row i hi
    have := t1.lt
    omega
  have HLOW := Lib.hid hlow
  have hbl := h.fld.lt
  have hbw := below_alloc w (.cells #[.pointer (some ⟨b, 0, none⟩), .slice (some ⟨g, 0, none⟩) n cn] TD)
  have hb0 : (w.alloc (.cells #[.pointer (some ⟨b, 0, none⟩), .slice (some ⟨g, 0, none⟩) n cn] TD)).cell? ⟨w.heap.size, 0, none⟩ = some (.pointer (some ⟨b, 0, none⟩)) := by simp
  have hb1 : (w.alloc (.cells #[.pointer (some ⟨b, 0, none⟩), .slice (some ⟨g, 0, none⟩) n cn] TD)).cell? ⟨w.heap.size, 1, none⟩ = some (.slice (some ⟨g, 0, none⟩) n cn) := by simp
  obtain ⟨w1, hw1⟩ : ∃ w1, w.alloc (.cells #[.pointer (some ⟨b, 0, none⟩), .slice (some ⟨g, 0, none⟩) n cn] TD) = w1 := ⟨_, rfl⟩
  rw [hw1] at hbw hb0 hb1
  have h1 := h.below hbw
  have HX := Lib.hid h1
  have c1 := h1.grid.out.cell (i := i) hi
  have c2 := (h1.grid.cell hi hm0).1
  have HD := Lib.hid (fun j => fdiv_el (a := X i j) h0)
  have HB0 := Lib.hid hb0
  clear h h1 hbw hlow
  go_enter Tryz.func36, Tryz.ntmps36
  go_wp2_with fail
  go_loopw [18] (fun s18 wr => RwAt q b wd n m g bx bv gs Cs X i w.heap.size w0 s18 wr) (fun s18 _ => m - (intOf s18).toNat)
  case atStart => exact ⟨0, Nat.zero_le _, rfl, HX.out.congr (fun r _ c _ => by unfold rdv; rw [if_neg (by omega)]), HB0.out⟩
  case round =>
    clear HX HB0 c1 c2 hb0 hb1 hw1
    obtain ⟨j, hj, rfl, hR, d3⟩ := hrel
    have HR := Lib.hid hR
    have HB := Lib.hid d3
    by_cases hlt : j < m
    · obtain ⟨d2, f2⟩ := hR.grid.cell hi hlt
      rw [rdv_row] at d2
      clear hR
      go_wp2_with fail
      refine (fdiv16 q.p b wd _ _ _ HR.out.fld).mono ?_
      rintro e w5 ⟨rfl, hf2, ht2⟩
      rw [HD.out]
      obtain ⟨e2, e3⟩ := (HR.out.turn hf2 ht2).grid.cell hi hlt
      have e1 := (ht2.cell (World.block_lt_of_cell? _ _ HB.out) (show w.heap.size ≠ b by omega)).trans HB.out
      have H5 := Lib.hid (Dvd.congr ((HR.out.turn hf2 ht2).set (j := j) hi (X i j * (X i 0).inv)) (fun r _ c _ => rdv_step j i r c))
      have B5 := Lib.hid (box_set (gs := gs) (r := i) (j := j) (u := .int .i64 ((X i j * (X i 0).inv).val : Nat)) e1 HLOW.out)
      clear d2 f2 d3 hf2 ht2 e1 HR HB
      go_wp2_with fail
      exact ⟨⟨j + 1, hlt, by go_num, H5.out, B5.out⟩, by simp [intOf]; omega⟩
    · obtain rfl : j = m := by omega
      clear hR
      go_wp2_with fail
      go_end0
      exact ⟨rfl, HR.out⟩

/-- in each's loop, of either step -/
def EaC (q : FP) (b wd n m g bx : Nat) (bv : Nat → Value) (gs Cs : Nat → Nat) (X : Nat → Nat → El q) (w0 : World) (s6 : Value) (W : World) : Prop := ∃ j : Nat, j ≤ m ∧ s6 = .int .i64 j ∧ Dvd q b wd n m g bx bv gs Cs (cup X j) w0 W
def EaR (q : FP) (b wd n m g bx : Nat) (bv : Nat → Value) (gs Cs : Nat → Nat) (X : Nat → Nat → El q) (w0 : World) (s6 : Value) (W : World) : Prop := ∃ i : Nat, 1 ≤ i ∧ i ≤ n ∧ s6 = .int .i64 i ∧ Dvd q b wd n m g bx bv gs Cs (rup X i) w0 W

set_option maxRecDepth 100000 in
set_option maxHeartbeats 2000000 in
theorem each_col (q : FP) (b wd n m g cn bx : Nat) (bv : Nat → Value) (gs Cs : Nat → Nat) (X : Nat → Nat → El q) (w0 w : World) (hn0 : 0 < n) (hn : n ≤ 100) (hm : m ≤ 100) (h0 : ∀ j, j < m → X 0 j ≠ 0) (h : Dvd q b wd n m g bx bv gs Cs X w0 w) :
    Calls Tryz.prog 34 #[.int .i64 0, .int .i64 m, .func (.func 35) #[.agg #[.pointer (some ⟨b, 0, none⟩), .slice (some ⟨g, 0, none⟩) n cn]] #[]] w
      fun e w' => e = .returned (.tuple #[]) ∧ Dvd q b wd n m g bx bv gs Cs (colE X) w0 w' := by
  have HX := Lib.hid h
  have H0 := Lib.hid h0
  clear h h0
  go_enter Tryz.func34, Tryz.ntmps34
  go_wp2_with fail
  go_loopw [6] (fun s6 wr => EaC q b wd n m g bx bv gs Cs X w0 s6 wr) (fun s6 _ => m - (intOf s6).toNat)
  case atStart => exact ⟨0, Nat.zero_le _, rfl, HX.out.congr (fun r _ c _ => by unfold cup; rw [if_neg (by omega)])⟩
  case round =>
    clear HX
    obtain ⟨j, hj, rfl, hR⟩ := hrel
    have HR := Lib.hid hR
    clear hR
    by_cases hlt : j < m
    · have HZ := Lib.hid (show cup X j 0 j ≠ 0 from by unfold cup; rw [if_neg (by omega)]; exact H0.out j hlt)
      go_wp2_with fail
      refine (dcol22 q b wd n m g cn bx bv gs Cs (cup X j) j w0 _ hn0 hlt hn HZ.out HR.out).mono ?_
      rintro e w2 ⟨rfl, h2⟩
      have H2 := Lib.hid (h2.congr (fun r hr c _ => cup_step r c hr))
      clear h2 HR HZ
      go_wp2_with fail
      exact ⟨⟨j + 1, hlt, by go_num, H2.out⟩, by simp [intOf]; omega⟩
    · obtain rfl : j = m := by omega
      have HE := Lib.hid (HR.out.congr (X' := colE X) (fun r _ c hc => by unfold cup; rw [if_pos hc]))
      go_wp2_with fail
      go_end0
      exact ⟨rfl, HE.out⟩

set_option maxRecDepth 100000 in
set_option maxHeartbeats 2000000 in
theorem each_row (q : FP) (b wd n m g cn bx : Nat) (bv : Nat → Value) (gs Cs : Nat → Nat) (X : Nat → Nat → El q) (w0 w : World) (hn0 : 0 < n) (hm0 : 0 < m) (hn : n ≤ 100) (hm : m ≤ 100) (h0 : ∀ i, i < n → X i 0 ≠ 0) (h1 : ∀ j, j < m → rowE X 0 j = X 0 j) (h : Dvd q b wd n m g bx bv gs Cs X w0 w) :
    Calls Tryz.prog 34 #[.int .i64 1, .int .i64 n, .func (.func 36) #[.agg #[.pointer (some ⟨b, 0, none⟩), .slice (some ⟨g, 0, none⟩) n cn]] #[]] w
      fun e w' => e = .returned (.tuple #[]) ∧ Dvd q b wd n m g bx bv gs Cs (rowE X) w0 w' := by
  have HX := Lib.hid h
  have H0 := Lib.hid h0
  have H1 := Lib.hid h1
  clear h h0 h1
  go_enter Tryz.func34, Tryz.ntmps34
  go_wp2_with fail
  go_loopw [6] (fun s6 wr => EaR q b wd n m g bx bv gs Cs X w0 s6 wr) (fun s6 _ => n - (intOf s6).toNat)
  case atStart => exact ⟨1, Nat.le_refl _, hn0, rfl, HX.out.congr (fun r _ c _ => by unfold rup; rw [if_neg (by omega)])⟩
  case round =>
    clear HX
    obtain ⟨i, hi1, hi, rfl, hR⟩ := hrel
    have HR := Lib.hid hR
    clear hR
    by_cases hlt : i < n
    · have HZ := Lib.hid (show rup X i i 0 ≠ 0 from by unfold rup; rw [if_neg (by omega)]; exact H0.out i hlt)
      go_wp2_with fail
      refine (drow23 q b wd n m g cn bx bv gs Cs (rup X i) i w0 _ hm0 hlt hm HZ.out HR.out).mono ?_
      rintro e w2 ⟨rfl, h2⟩
      have H2 := Lib.hid (h2.congr (fun r hr c hc => rup_step r c hi1 hc))
      clear h2 HR HZ
      go_wp2_with fail
      exact ⟨⟨i + 1, by omega, hlt, by go_num, H2.out⟩, by simp [intOf]; omega⟩
    · obtain rfl : i = n := by omega
      have HE := Lib.hid (HR.out.congr (X' := rowE X) (fun r hr c hc => by
        unfold rup
        by_cases e : 1 ≤ r
        · rw [if_pos ⟨e, hr⟩]
        · obtain rfl : r = 0 := by omega
          rw [if_neg (by omega), H1.out c hc]))
      go_wp2_with fail
      go_end0
      exact ⟨rfl, HE.out⟩
end Go.Proofs.YtgcochamjicjiaaGreat
