/- The contract of package region's Mul. -/
import Derived.Test.YtgbipbcejjlpiaaGreatDoorRgb
namespace Go.Proofs.YtgbipbcejjlpiaaGreatDoor
open Go.RowKit

theorem rowIs_type {w : World} {g t t' n n' : Nat} {k k' : Nat → Value} (h : w.rowIs g t n k) (h' : w.rowIs g t' n' k') : t = t' := by
  obtain ⟨c, h1, _⟩ := h
  obtain ⟨c', h2, _⟩ := h'
  rw [h1] at h2
  injection h2 with h2
  injection h2

/-- a store into a row of numbers leaves the field -/
theorem Fld.setInt {p b wd g m i : Nat} {w : World} {k : Nat → Value} {t : Nat} (h : Fld p b wd w) (hr : w.rowIs g t m k) (h1 : t ≠ TF) (h2 : t ≠ T16) (v : Value) : Fld p b wd (w.setCell ⟨g, i, none⟩ v) := by
  refine ⟨h.1, ?_⟩
  rcases h.2 with h | ⟨x, y, g1, g2, r1, r2, r3⟩
  · refine Or.inl (World.rowIs.setOther h (a := ⟨g, i, none⟩) ?_ v)
    rintro rfl
    exact h1 (rowIs_type hr h)
  · refine Or.inr ⟨x, y, g1, g2, r1.setOther (a := ⟨g, i, none⟩) ?_ v, r2.setOther (a := ⟨g, i, none⟩) ?_ v, r3.setOther (a := ⟨g, i, none⟩) ?_ v⟩
    · rintro rfl
      exact h1 (rowIs_type hr r1)
    · rintro rfl
      exact h2 (rowIs_type hr r2)
    · rintro rfl
      exact h2 (rowIs_type hr r3)

theorem Turned.setNew {b g i : Nat} {w w' : World} (h : Turned b w w') (hg : w.heap.size ≤ g) (v : Value) : Turned b w (w'.setCell ⟨g, i, none⟩ v) :=
  ⟨h.os, h.tape, h.output, by simpa [World.setCell] using h.size, fun k hk hb => (Below.heap_setCell _ _ _ _ (by simp; omega)).trans (h.block k hk hb)⟩

theorem fmul_le {p wd : Nat} (hg : Good p wd) (a x : Int) : 0 ≤ fmul p a x ∧ fmul p a x ≤ M.ord p := by
  unfold fmul
  split
  · have := M.md_in hg.prim.1 (M.mul a.toNat x.toNat)
    omega
  · omega

/-- the bytes f, each number of them times a -/
def mulB (p n : Nat) (a : Int) (f : Nat → Nat) : Nat → Nat := byt n (fun j => fmul p a (word n f j))

/-- in Mul's loop -/
def MulAt (p b wd n m : Nat) (a : Int) (f : Nat → Nat) (w : World) (s27 : Value) (wr : World) : Prop :=
  ∃ k : Nat, k ≤ m ∧ s27 = .int .i64 k ∧ wr.rowIs w.heap.size TI m (fun j => .int .i64 (if j < k then fmul p a (word n f j) else (word n f j : Nat))) ∧ Fld p b wd wr ∧ Turned b w wr
/-- what Mul tells -/
def MulSaid (p b wd n L : Nat) (a : Int) (f : Nat → Nat) (w : World) (e : Ending) (w' : World) : Prop :=
  ∃ g, e = .returned (.tuple #[.slice (some ⟨g, 0, none⟩) L L, .int .i64 0]) ∧ w.heap.size ≤ g ∧ Rd b w' (u8s (mulB p n a f)) (some ⟨g, 0, none⟩) L ∧ Fld p b wd w' ∧ Turned b w w'

theorem mulAt_step {p b wd n m k : Nat} {a : Int} {f : Nat → Nat} {w wr : World} (hk : k < m) (hrow : wr.rowIs w.heap.size TI m (fun j => .int .i64 (if j < k then fmul p a (word n f j) else (word n f j : Nat))))
    (hf : Fld p b wd wr) (ht : Turned b w wr) {v : Value} (hv : v = .int .i64 (fmul p a (word n f k))) : MulAt p b wd n m a f w (.int .i64 (k + 1 : Nat)) (wr.setCell ⟨w.heap.size, k, none⟩ v) := by
  subst hv
  refine ⟨k + 1, hk, rfl, (hrow.set k _).congr (fun j _ => ?_), hf.setInt hrow (by decide) (by decide) _, ht.setNew (Nat.le_refl _) _⟩
  rcases Nat.lt_trichotomy j k with h | h | h
  · rw [if_neg (by omega), if_pos h, if_pos (by omega)]
  · subst h; rw [if_pos rfl, if_pos (by omega)]
  · rw [if_neg (by omega), if_neg (by omega), if_neg (by omega)]

set_option maxRecDepth 100000 in
set_option maxHeartbeats 2000000 in
theorem mul_yes (p b wd n : Nat) (hw : Wide wd n (M.ord p)) (a : Int) (a0 : 0 ≤ a) (a1 : a ≤ M.ord p) (f : Nat → Nat) (hf : ∀ j, f j < 256) (A : Option Addr) (m L cap : Nat) (hL : L = n * m) (hm : m ≤ 100000) (w : World) (hfl : Fld p b wd w) (hr : Rd b w (u8s f) A L) :
    Calls Tryz.prog 46 #[.pointer (some ⟨b, 0, none⟩), .int .i64 a, .slice A L cap] w (MulSaid p b wd n L a f w) := by
  have hg := hfl.1
  have hbl := hfl.lt
  have hc0 := hfl.c0
  have HI := Lib.hid (inB_iff.2 ⟨a0, a1⟩)
  have HF := Lib.hid hfl
  have HR := Lib.hid hr
  have HL := Lib.hid hL
  have A1 := Lib.hid a1
  clear hfl hr hL a1
  go_enter Tryz.func46, Tryz.ntmps46
  go_wp2_with fail
  refine (isnum31 b wd _ hw.kind a _ hc0).mono ?_
  rintro e w' ⟨rfl, rfl⟩
  rw [HI.out]
  go_wp2_with fail
  refine (words_yes b wd n _ hw f hf A m L cap HL.out hm _ hc0 HR.out).mono ?_
  rintro e w1 ⟨rfl, hrow, hb⟩
  have HST := Lib.hid (show MulAt p b wd n m a f w (.int .i64 0) w1 from ⟨0, Nat.zero_le _, rfl, hrow.congr (fun j _ => by rw [if_neg (by omega)]), HF.out.of_below hb, Turned.of_below hb⟩)
  clear hrow hb
  go_wp2_with fail
  go_loopw [27] (fun s27 wr => MulAt p b wd n m a f w s27 wr) (fun s27 _ => m - (intOf s27).toNat)
  case atStart => exact HST.out
  case round =>
    clear HST
    obtain ⟨k, hk, rfl, hrow, hf', ht⟩ := hrel
    by_cases hlt : k < m
    · have g1 := hrow.cell (i := k) hlt
      rw [if_neg (by omega)] at g1
      have HW := Lib.hid hrow
      have HF' := Lib.hid hf'
      have HT := Lib.hid ht
      clear hrow hf' ht
      go_wp2_with fail
      refine (fmul12 p b wd a _ _ HF'.out).mono ?_
      rintro e w2 ⟨rfl, hf2, ht2⟩
      have hrow2 := ht2.row HW.out (by omega)
      have g2 := hrow2.cell (i := k) hlt
      rw [if_neg (by omega)] at g2
      have f2 := hrow2.frozen k
      have HS := Lib.hid (mulAt_step hlt hrow2 hf2 (HT.out.trans ht2) rfl)
      clear hrow2 hf2 ht2 HW HF' HT
      go_wp2_with fail
      exact ⟨HS.out, by simp [intOf]; omega⟩
    · obtain rfl : k = m := by omega
      have hin : allIn (M.ord p) (fun j => fmul p a (word n f j)) k := fun j _ => fmul_le hg a _
      have HIN := Lib.hid hin
      have HRD := Lib.hid (Rd.of_row (n := k) (hrow.congr (g := i64s (fun j => fmul p a (word n f j))) (fun j hj => by rw [if_pos hj])) (show w.heap.size ≠ b by omega) (Nat.le_refl _))
      have hc1 := hf'.c0
      have hbl1 := hf'.lt
      have HF' := Lib.hid hf'
      have HT := Lib.hid ht
      clear hrow hf' ht hin
      go_wp2_with fail
      refine (bytes13 b wd n _ hw _ _ k k hm _ hc1 HRD.out hbl1).mono ?_
      rintro e w2 ⟨hb2, ⟨_, g, rfl, hgn, hrd⟩ | ⟨hno, _⟩⟩
      · have HE := Lib.hid (show MulSaid p b wd n L a f w (.returned (.tuple #[.slice (some ⟨g, 0, none⟩) (k * n) (k * n), .int .i64 0])) w2 from
          ⟨g, by rw [HL.out, Nat.mul_comm], Nat.le_trans HT.out.size hgn, by rw [HL.out, Nat.mul_comm]; exact hrd b hbl1, HF'.out.of_below hb2, HT.out.trans (Turned.of_below hb2)⟩)
        clear hb2 hrd
        go_wp2_with fail
        go_ret2
        exact HE.out
      · exact absurd HIN.out hno

set_option maxRecDepth 100000 in
theorem mul_out (p b wd : Nat) (a : Int) (ha : inB (M.ord p) a = false) (v : Value) (w : World) (hfl : Fld p b wd w) :
    Calls Tryz.prog 46 #[.pointer (some ⟨b, 0, none⟩), .int .i64 a, v] w fun e w' => e = .returned (.tuple #[nilS, .int .i64 1]) ∧ w = w' := by
  have hk := hfl.1.kind
  have hc0 := hfl.c0
  have HI := Lib.hid ha
  clear ha hfl
  go_enter Tryz.func46, Tryz.ntmps46
  go_wp2_with fail
  refine (isnum31 b wd _ hk a _ hc0).mono ?_
  rintro e w' ⟨rfl, rfl⟩
  rw [HI.out]
  go_wp2_with fail
  go_ret2
  exact ⟨rfl, rfl⟩

set_option maxRecDepth 100000 in
theorem mul_odd (p b wd n : Nat) (hw : Wide wd n (M.ord p)) (a : Int) (ha : inB (M.ord p) a = true) (A : Option Addr) (L cap : Nat) (hL : L % n ≠ 0) (h63 : L ≤ 100000) (w : World) (hfl : Fld p b wd w) :
    Calls Tryz.prog 46 #[.pointer (some ⟨b, 0, none⟩), .int .i64 a, .slice A L cap] w fun e w' => e = .returned (.tuple #[nilS, .int .i64 1]) ∧ w = w' := by
  have hc0 := hfl.c0
  have HI := Lib.hid ha
  have HL := Lib.hid hL
  clear ha hfl hL
  go_enter Tryz.func46, Tryz.ntmps46
  go_wp2_with fail
  refine (isnum31 b wd _ hw.kind a _ hc0).mono ?_
  rintro e w' ⟨rfl, rfl⟩
  rw [HI.out]
  go_wp2_with fail
  refine (words_no b wd n _ hw A L cap HL.out h63 _ hc0).mono ?_
  rintro e w' ⟨rfl, rfl⟩
  go_wp2_with fail
  go_ret2
  exact ⟨rfl, rfl⟩

set_option maxRecDepth 100000 in
theorem mul_nil (a : Int) (v : Value) (w : World) :
    Calls Tryz.prog 46 #[.pointer none, .int .i64 a, v] w fun e w' => e = .returned (.tuple #[nilS, .int .i64 1]) ∧ w = w' := by
  go_enter Tryz.func46, Tryz.ntmps46
  go_wp2_with fail
  refine (isnum_nil a _).mono ?_
  rintro e w' ⟨rfl, rfl⟩
  go_wp2_with fail
  go_ret2
  exact ⟨rfl, rfl⟩
end Go.Proofs.YtgbipbcejjlpiaaGreatDoor
