/- Contracts of the laws' own first test of layer 2, and of how they choose a field. -/
import Derived.Test.YtjojbkkdligpgaaRfn
namespace Go.Proofs.Ytjojbkkdligpgaa
open Go.RowKit

/-- the field is there; of what was there in w0 nothing has turned, and the field is none of it -/
def Live (p b wd : Nat) (w0 w : World) : Prop := Fld p b wd w ∧ Below w0.heap.size w0 w ∧ w0.heap.size ≤ b

theorem Live.next {p b wd : Nat} {w0 w w' : World} (h : Live p b wd w0 w) (hf : Fld p b wd w') (ht : Turned b w w') : Live p b wd w0 w' :=
  ⟨hf, h.2.1.trans (ht.below h.2.2 h.2.1.size), h.2.2⟩
theorem Live.below {p b wd : Nat} {w0 w w' : World} (h : Live p b wd w0 w) (hb : Below w.heap.size w w') : Live p b wd w0 w' :=
  ⟨h.1.of_below hb, h.2.1.trans (hb.mono h.2.1.size), h.2.2⟩
theorem Live.drew {p b wd : Nat} {w0 w : World} (h : Live p b wd w0 w) : Live p b wd w0 w.drew := h.below (Below.refl _ _).drew
theorem Live.cell {p b wd : Nat} {w0 w : World} (h : Live p b wd w0 w) {q : Addr} (hq : q.block < w0.heap.size) : w.cell? q = w0.cell? q := h.2.1.cell hq
theorem Live.start {p b wd : Nat} {w0 w w' : World} (hb : Below w0.heap.size w0 w) (hf : Fld p b wd w') (hn : w.heap.size ≤ b) (hb' : Below w.heap.size w w') : Live p b wd w0 w' :=
  ⟨hf, hb.trans (hb'.mono hb.size), Nat.le_trans hb.size hn⟩

theorem below_trans {w w1 w2 : World} (h1 : Below w.heap.size w w1) (h2 : Below w1.heap.size w1 w2) : Below w.heap.size w w2 := h1.trans (h2.mono h1.size)

theorem good285 : Good 285 8 := good_of M.prim285 (by decide +kernel) (Or.inl rfl)
theorem good299 : Good 299 8 := good_of M.prim299 (by decide +kernel) (Or.inl rfl)
theorem good355 : Good 355 8 := good_of M.prim355 (by decide +kernel) (Or.inl rfl)
theorem good69643 : Good 69643 16 := good_of M.prim69643 (by decide +kernel) (Or.inr rfl)

theorem ord285 : M.ord 285 = 255 := by decide +kernel
theorem inv285 : finv 285 2 = .tuple #[.int .i64 142, .bool true] := by
  rw [finv_yes (by omega) (by rw [ord285]; omega)]
  have : M.inv 285 (2 : Int).toNat = 142 := by
    unfold M.inv
    rw [ord285, M.pw_fast _ 285 _ 8 (by decide)]
    decide +kernel
  rw [this]; rfl
theorem mul285 : fmul 285 2 128 = 29 := by
  rw [fmul_in (by omega) (by rw [ord285]; omega) (by omega) (by rw [ord285]; omega)]
  have : M.md (M.mul (2 : Int).toNat (128 : Int).toNat) 285 = 29 := by decide +kernel
  rw [this]; rfl
theorem no283 : ¬ Fits 8 283 := fun h => M.notPrim283 h.2.2

set_option maxHeartbeats 1000000 in
theorem awake9 (w : World) : Calls Try.prog 9 #[] w fun e w' => e = .returned (.bool true) ∧ Below w.heap.size w w' := by
  go_enter Try.func9, Try.ntmps9
  go_wp2_with fail
  refine (new_yes 285 8 good285 _).mono ?_
  rintro e w1 ⟨b, rfl, h1, hn, hb1⟩
  have H1 := Lib.hid (Live.start (Below.refl _ w) h1 hn hb1)
  clear h1 hn hb1
  go_wp2_with fail
  refine (finv18 285 b 8 2 _ H1.out.1).mono ?_
  rintro e w2 ⟨rfl, h2, t2⟩
  rw [inv285]
  have H2 := Lib.hid (H1.out.next h2 t2)
  clear h2 t2 H1
  go_wp2_with fail
  refine (fmul12 285 b 8 2 128 _ H2.out.1).mono ?_
  rintro e w3 ⟨rfl, h3, t3⟩
  rw [mul285]
  have H3 := Lib.hid (H2.out.next h3 t3)
  clear h3 t3 H2
  go_wp2_with fail
  refine (size13 b 8 255 (Or.inl ⟨rfl, rfl⟩) _ H3.out.1.c0).mono ?_
  rintro e w' ⟨rfl, rfl⟩
  go_wp2_with fail
  refine (new_no 8 283 (by omega) (by omega) no283 _).mono ?_
  rintro e w4 ⟨rfl, hb4⟩
  have H4 := Lib.hid (H3.out.below hb4)
  clear hb4 H3
  go_wp2_with fail
  go_ret
  exact ⟨rfl, H4.out.2.1⟩

/-- a field is chosen -/
def FieldSaid (w : World) (e : Ending) (w' : World) : Prop := ∃ p wd : Nat, Good p wd ∧ e = .returned (.tuple #[.int .i64 wd, .int .u32 p]) ∧ Below w.heap.size w w'

set_option maxHeartbeats 1000000 in
theorem field15 (k : Int) (k0 : 0 ≤ k) (k1 : k ≤ 255) (w : World) : Calls Try.prog 15 #[.int .u8 k] w (FieldSaid w) := by
  have hm : k % 4 = 0 ∨ k % 4 = 1 ∨ k % 4 = 2 ∨ k % 4 = 3 := by omega
  rcases hm with hm | hm | hm | hm
  all_goals
    go_enter Try.func15, Try.ntmps15
    go_wp2_with fail
    go_ret2
    first
      | exact ⟨285, 8, good285, rfl, (Below.refl _ _).alloc (Nat.le_refl _) _⟩
      | exact ⟨299, 8, good299, rfl, (Below.refl _ _).alloc (Nat.le_refl _) _⟩
      | exact ⟨355, 8, good355, rfl, (Below.refl _ _).alloc (Nat.le_refl _) _⟩
      | exact ⟨69643, 16, good69643, rfl, (Below.refl _ _).alloc (Nat.le_refl _) _⟩
end Go.Proofs.Ytjojbkkdligpgaa
