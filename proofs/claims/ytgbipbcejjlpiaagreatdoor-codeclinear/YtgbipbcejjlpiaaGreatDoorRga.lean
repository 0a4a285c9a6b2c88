/- Contracts of layer 3's own first test, and of how its laws choose a field. -/
import Derived.Test.YtgbipbcejjlpiaaGreatDoorRgu
import Derived.Test.YtgbipbcejjlpiaaGreatDoorGxj
import Derived.Laws.BytesArg
namespace Go.Proofs.YtgbipbcejjlpiaaGreatDoor
open Go.RowKit

/-- a field is chosen -/
def FieldSaid3 (w : World) (e : Ending) (w' : World) : Prop :=
  ∃ p wd n b : Nat, Wide wd n (M.ord p) ∧ e = .returned (.tuple #[.pointer (some ⟨b, 0, none⟩), .int .i64 wd, .int .u32 p]) ∧ Fld p b wd w' ∧ w.heap.size ≤ b ∧ Below w.heap.size w w'

theorem ord69643 : M.ord 69643 = 65535 := by decide +kernel
theorem wide285 : Wide 8 1 (M.ord 285) := Or.inl ⟨rfl, rfl, ord285⟩
theorem wide69643 : Wide 16 2 (M.ord 69643) := Or.inr ⟨rfl, rfl, ord69643⟩

theorem fmul_one {p wd : Nat} (hg : Good p wd) {x : Int} (x0 : 0 ≤ x) (x1 : x ≤ M.ord p) : fmul p 1 x = x := by
  have := hg.bounds
  rw [fmul_in (by omega) (by omega) x0 x1, show (1 : Int).toNat = 1 from rfl, M.mul_comm, M.mul_one, M.md_self hg.prim.1 (by omega)]
  omega
theorem mulB_one {p wd n : Nat} (hg : Good p wd) (hw : Wide wd n (M.ord p)) {f : Nat → Nat} (hf : ∀ j, f j < 256) (i : Nat) : mulB p n 1 f i = f i := by
  unfold mulB
  rw [← byt_word hw hf i]
  congr 1
  funext j
  rw [fmul_one hg (by omega) (by have := word_le hw hf j; omega)]

/-- the bytes 1 and 2 -/
def twoB (j : Nat) : Nat := if j = 0 then 1 else if j = 1 then 2 else 0
theorem twoB_lt (j : Nat) : twoB j < 256 := by
  unfold twoB
  split
  · omega
  · split <;> omega
theorem rd_two {b : Nat} {w : World} (hb : b < w.heap.size) : Rd b (w.alloc (.cells #[.int .u8 1, .int .u8 2] TB)) (u8s twoB) (some ⟨w.heap.size, 0, none⟩) 2 := by
  have h := World.rowIs_alloc w #[.int .u8 1, .int .u8 2] TB (u8s twoB) (fun i hi => by
    simp at hi
    match i, hi with
    | 0, _ => rfl
    | 1, _ => rfl)
  exact Rd.of_row h (by omega) (by simp)
end Go.Proofs.YtgbipbcejjlpiaaGreatDoor
