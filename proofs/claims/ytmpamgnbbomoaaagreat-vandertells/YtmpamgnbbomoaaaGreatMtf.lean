/- Contracts of package matrix: rows copied, picked and joined; the identity. -/
import Derived.Test.YtmpamgnbbomoaaaGreatMtd
import Derived.Lib.SliceRun
namespace Go.Proofs.YtmpamgnbbomoaaaGreat
open Go.RowKit

theorem underI : Tryz.prog.underlying TIs = some (.slice TI) := Tryz.underlying37
theorem underM' : Tryz.prog.underlying TM = some (.slice TIs) := Tryz.underlying28

/-- a matrix that is told -/
def MatTold (n : Nat) (F : Nat → Nat → Int) (Ls : Nat → Nat) (w : World) (v : Value) (w' : World) : Prop := ∃ A c, v = .slice A n c ∧ n ≤ c ∧ (∀ b, b < w.heap.size → Mx b w' F Ls A n) ∧ Below w.heap.size w w'
theorem MatTold.from {n : Nat} {F : Nat → Nat → Int} {Ls : Nat → Nat} {w w1 w' : World} {v : Value} (hb : Below w.heap.size w w1) (h : MatTold n F Ls w1 v w') : MatTold n F Ls w v w' := by
  obtain ⟨A, c, h1, h2, h3, h4⟩ := h
  exact ⟨A, c, h1, h2, fun b hb' => h3 b (Nat.lt_of_lt_of_le hb' hb.size), below_tr hb h4⟩
theorem MatTold.nil {F : Nat → Nat → Int} {Ls : Nat → Nat} {w w' : World} (h : Below w.heap.size w w') : MatTold 0 F Ls w nilS w' := ⟨none, 0, rfl, Nat.le_refl _, fun _ _ => Mx.zero, h⟩

/-- a matrix that is being built at block g: k of its n rows are laid -/
def Bld (g n : Nat) (F : Nat → Nat → Int) (Ls : Nat → Nat) (w : World) (k : Nat) (W : World) : Prop :=
  w.heap.size ≤ g ∧ Below w.heap.size w W ∧ ∃ (As : Nat → Option Addr) (Cs : Nat → Nat), W.rowIs g TIs n (fun r => if r < k then .slice (As r) (Ls r) (Cs r) else nilS) ∧ ∀ r, r < k → ∀ b, (b < w.heap.size ∨ b = g) → Rd b W (i64s (F r)) (As r) (Ls r)

theorem Rd.set_other {b g i : Nat} {w : World} {k : Nat → Value} {A : Option Addr} {n : Nat} (h : Rd b w k A n) (hg : Rd g w k A n) (v : Value) : Rd b (w.setCell ⟨g, i, none⟩ v) k A n := fun hn => by
  obtain ⟨ad, rfl, h1, h2, hc⟩ := h hn
  obtain ⟨ad', e, h3, _, _⟩ := hg hn
  injection e with e
  subst e
  refine ⟨ad, rfl, h1, by simpa [World.setCell] using h2, fun j hj => (World.cell?_of_block (Below.heap_setCell _ _ _ _ ?_)).trans (hc j hj)⟩
  rw [block_of_add]
  exact h3

theorem Bld.start (n : Nat) (F : Nat → Nat → Int) (Ls : Nat → Nat) (w : World) : Bld w.heap.size n F Ls w 0 (w.alloc (.cells (madeCells #[nilS] n) TIs)) :=
  ⟨Nat.le_refl _, below_alloc _ _, fun _ => none, fun _ => 0, (World.rowIs_made w nilS n TIs).congr (fun r _ => by rw [if_neg (by omega)]), fun r hr => absurd hr (by omega)⟩
theorem Bld.below {g n : Nat} {F : Nat → Nat → Int} {Ls : Nat → Nat} {w : World} {k : Nat} {W W' : World} (h : Bld g n F Ls w k W) (hb : Below W.heap.size W W') : Bld g n F Ls w k W' := by
  obtain ⟨h1, h2, As, Cs, h3, h4⟩ := h
  exact ⟨h1, below_tr h2 hb, As, Cs, h3.of_block (hb.block _ h3.lt), fun r hr b hb' => (h4 r hr b hb').below hb⟩
theorem Bld.step {g n : Nat} {F : Nat → Nat → Int} {Ls : Nat → Nat} {w : World} {k : Nat} {W : World} {A' : Option Addr} {c' : Nat} (h : Bld g n F Ls w k W) (hr : ∀ b, (b < w.heap.size ∨ b = g) → Rd b W (i64s (F k)) A' (Ls k)) :
    Bld g n F Ls w (k + 1) (W.setCell ⟨g, k, none⟩ (.slice A' (Ls k) c')) := by
  obtain ⟨h1, h2, As, Cs, h3, h4⟩ := h
  refine ⟨h1, h2.setCell (p := ⟨g, k, none⟩) h1 _, fun r => if r = k then A' else As r, fun r => if r = k then c' else Cs r, (h3.set k _).congr (fun r _ => ?_), fun r hr' b hb => ?_⟩
  · rcases Nat.lt_trichotomy r k with e | e | e
    · rw [if_neg (by omega), if_pos e, if_pos (by omega)]
      dsimp only
      rw [if_neg (by omega), if_neg (by omega)]
    · subst e
      rw [if_pos rfl, if_pos (by omega)]
      dsimp only
      rw [if_pos rfl, if_pos rfl]
    · rw [if_neg (by omega), if_neg (by omega), if_neg (by omega)]
  · by_cases e : r = k
    · subst e
      dsimp only
      rw [if_pos rfl]
      exact (hr b hb).set_other (hr g (Or.inr rfl)) _
    · dsimp only
      rw [if_neg e]
      exact (h4 r (by omega) b hb).set_other (h4 r (by omega) g (Or.inr rfl)) _
theorem Bld.cell {g n : Nat} {F : Nat → Nat → Int} {Ls : Nat → Nat} {w : World} {k : Nat} {W : World} (h : Bld g n F Ls w k W) {i : Nat} (hi : i < n) : ∃ v, W.cell? ⟨g, i, none⟩ = some v ∧ v.cells.size = 1 ∧ W.frozen? ⟨g, i, none⟩ = false := by
  obtain ⟨h1, h2, As, Cs, h3, h4⟩ := h
  refine ⟨_, h3.cell hi, ?_, h3.frozen i⟩
  split <;> rfl
theorem Bld.told {g n : Nat} {F : Nat → Nat → Int} {Ls : Nat → Nat} {w : World} {W : World} (h : Bld g n F Ls w n W) (c : Nat) (hc : n ≤ c) : MatTold n F Ls w (.slice (some ⟨g, 0, none⟩) n c) W := by
  obtain ⟨h1, h2, As, Cs, h3, h4⟩ := h
  exact ⟨_, c, rfl, hc, fun b hb => ⟨As, Cs, (Rd.of_row h3 (by omega) (Nat.le_refl _)).congr (fun r hr => by rw [if_pos hr]), fun r hr => h4 r hr b (Or.inl hb)⟩, h2⟩
end Go.Proofs.YtmpamgnbbomoaaaGreat
