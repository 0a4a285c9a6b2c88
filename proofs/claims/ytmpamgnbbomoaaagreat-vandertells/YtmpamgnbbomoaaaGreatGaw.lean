/- Contracts of the laws' own first test of layer 2, and of how they choose a field. -/
import Derived.Test.YtmpamgnbbomoaaaGreatRfn
namespace Go.Proofs.YtmpamgnbbomoaaaGreat
open Go.RowKit

/-- the field is there; of what was there in w0 nothing has turned, and the field is none of it -/
def Live (p b wd : Nat) (w0 w : World) : Prop := Fld p b wd w ∧ Below w0.heap.size w0 w ∧ w0.heap.size ≤ b

theorem Live.next {p b wd : Nat} {w0 w w' : World} (h : Live p b wd w0 w) (hf : Fld p b wd w') (ht : Turned b w w') : Live p b wd w0 w' :=
  ⟨hf, h.2.1.trans (ht.below h.2.2 h.2.1.size), h.2.2⟩
theorem Live.below {p b wd : Nat} {w0 w w' : World} (h : Live p b wd w0 w) (hb : Below w.heap.size w w') : Live p b wd w0 w' :=
  ⟨h.1.of_below hb, h.2.1.trans (hb.mono h.2.1.size), h.2.2⟩
theorem Live.drew {p b wd : Nat} {w0 w : World} (h : Live p b wd w0 w) : Live p b wd w0 w.drew := h.below (Below.refl _ _).drew
theorem Live.cell {p b wd : Nat} {w0 w : World} (h : Live p b wd w0 w) {q : Addr} (hq : q.block < w0.heap.size) : w.cell? q = w0.cell? q := h.2.1.cell hq
theorem Live.start {p b wd : Nat} {w0 w w' : World} (hb : Below w0.heap.size w0 w) (hf : Fld p b wd w') (hn : w.heap.size ≤ b) (hb' : Below w.heap.size w w') : Live p b wd w0 w' :=
  ⟨hf, hb.trans (hb'.mono hb.size), Nat.le_trans hb.size hn⟩

theorem below_trans {w w1 w2 : World} (h1 : Below w.heap.size w w1) (h2 : Below w1.heap.size w1 w2) : Below w.heap.size w w2 := h1.trans (h2.mono h1.size)

theorem good285 : Good 285 8 := good_of M.prim285 (by decide +kernel) (Or.inl rfl)
theorem good299 : Good 299 8 := good_of M.prim299 (by decide +kernel) (Or.inl rfl)
theorem good355 : Good 355 8 := good_of M.prim355 (by decide +kernel) (Or.inl rfl)
theorem good69643 : Good 69643 16 := good_of M.prim69643 (by decide +kernel) (Or.inr rfl)

theorem ord285 : M.ord 285 = 255 := by decide +kernel
theorem inv285 : finv 285 2 = .tuple #[.int .i64 142, .bool true] := by
  rw [finv_yes (by omega) (by rw [ord285]; omega)]
  have : M.inv 285 (2 : Int).toNat = 142 := by
    unfold M.inv
    rw [ord285, M.pw_fast _ 285 _ 8 (by decide)]
    decide +kernel
  rw [this]; rfl
theorem mul285 : fmul 285 2 128 = 29 := by
  rw [fmul_in (by omega) (by rw [ord285]; omega) (by omega) (by rw [ord285]; omega)]
  have : M.md (M.mul (2 : Int).toNat (128 : Int).toNat) 285 = 29 := by decide +kernel
  rw [this]; rfl
theorem no283 : ¬ Fits 8 283 := fun h => M.notPrim283 h.2.2

/-- a field is chosen -/
def FieldSaid (w : World) (e : Ending) (w' : World) : Prop := ∃ p wd : Nat, Good p wd ∧ e = .returned (.tuple #[.int .i64 wd, .int .u32 p]) ∧ Below w.heap.size w w'
end Go.Proofs.YtmpamgnbbomoaaaGreat
