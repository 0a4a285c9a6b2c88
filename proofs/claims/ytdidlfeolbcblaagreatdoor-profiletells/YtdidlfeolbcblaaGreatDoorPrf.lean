/- Layer 9: the document's Some. -/
import Derived.Test.YtdidlfeolbcblaaGreatDoorPrb
namespace Go.Proofs.YtdidlfeolbcblaaGreatDoor
open Go.RowKit

abbrev T3u : Nat := 51

abbrev arr3 (x y z : Int) : Array Value := #[.int .u8 x, .int .u8 y, .int .u8 z]

theorem size3u : (Tryz.prog.info? T3u).map (·.size) = some (3 : Nat) := by kernel_rfl

theorem max_pos {p : Int} (h : 1 ≤ p ∧ p ≤ 6) : 3 ≤ maxI p ∧ maxI p ≤ 4 := by unfold maxI; split <;> (try split) <;> omega
/-- three numbers -/
def three (x y z : Int) : Nat → Value
  | 0 => .int .i64 x
  | 1 => .int .i64 y
  | _ => .int .i64 z
theorem row3_alloc (w : World) (x y z : Int) : (w.alloc (.cells #[.int .i64 x, .int .i64 y, .int .i64 z] TPa)).rowIs w.heap.size TPa 3 (three x y z) :=
  World.rowIs_alloc w #[.int .i64 x, .int .i64 y, .int .i64 z] TPa _ (fun i hi => by
    simp at hi
    match i, hi with
    | 0, _ => rfl
    | 1, _ => rfl
    | 2, _ => rfl)
theorem rowIs_agg3 {w : World} {g t : Nat} {x y z : Int} (h : w.rowIs g t 3 (three x y z)) : w.heap[g]? = some (.cells (parA x y z) t (0, 0)) := by
  obtain ⟨⟨l⟩, h1, h2, h3⟩ := h
  rw [h1]
  match l, h2 with
  | [a, b, c], _ =>
    have e0 := h3 0 (by omega)
    have e1 := h3 1 (by omega)
    have e2 := h3 2 (by omega)
    simp [three] at e0 e1 e2
    rw [e0, e1, e2]
theorem size3 : (Tryz.prog.info? TPa).map (·.size) = some (3 : Nat) := by kernel_rfl

set_option maxRecDepth 100000 in
set_option maxHeartbeats 1000000 in
theorem some20 (x y z : Int) (hx : 0 ≤ x ∧ x ≤ 255) (hy : 0 ≤ y ∧ y ≤ 255) (hz : 0 ≤ z ∧ z ≤ 255) (w : World) :
    Calls Tryz.prog 20 #[.agg (arr3 x y z)] w fun e w' => ∃ p k m, e = .returned (.agg (parA p k m)) ∧ mayX p k m ∧ Below w.heap.size w w' := by
  obtain ⟨p, hp, p1⟩ : ∃ p, 1 + x % 6 = p ∧ (1 ≤ p ∧ p ≤ 6) := ⟨1 + x % 6, rfl, by omega⟩
  obtain ⟨k, hk, k1⟩ : ∃ k, 1 + y % 8 = k ∧ (1 ≤ k ∧ k ≤ 8) := ⟨1 + y % 8, rfl, by omega⟩
  obtain ⟨M, hM, M1, M2⟩ : ∃ M, maxI p = M ∧ 3 ≤ M ∧ M ≤ 4 := ⟨_, rfl, max_pos p1⟩
  obtain ⟨m, hm, m1, m2⟩ : ∃ m, 1 + z % M = m ∧ 1 ≤ m ∧ m ≤ M := ⟨1 + z % M, rfl, by have := Int.emod_nonneg z (show M ≠ 0 by omega); omega, by have := Int.emod_lt_of_pos z (show 0 < M by omega); omega⟩
  have HX := Lib.hid (show mayX p k m from ⟨p1, k1, m1, by rw [hM]; exact m2⟩)
  have s0 : (w.alloc (.cells (arr3 x y z) T3u)).heap.size = w.heap.size + 1 := by simp
  have q0 : (w.alloc (.cells (arr3 x y z) T3u)).cell? ⟨w.heap.size, 2, none⟩ = some (.int .u8 z) := by simp
  have B0 := (Below.refl _ w).alloc (Nat.le_refl _) (.cells (arr3 x y z) T3u)
  obtain ⟨v0, hv0⟩ : ∃ v0, w.alloc (.cells (arr3 x y z) T3u) = v0 := ⟨_, rfl⟩
  rw [hv0] at s0 q0 B0
  have R1 := row3_alloc v0 0 0 0
  have s1 : (v0.alloc (.cells #[.int .i64 0, .int .i64 0, .int .i64 0] TPa)).heap.size = w.heap.size + 1 + 1 := by simp [s0]
  have B1 := below_alloc v0 (.cells #[.int .i64 0, .int .i64 0, .int .i64 0] TPa)
  obtain ⟨v1, hv1⟩ : ∃ v1, v0.alloc (.cells #[.int .i64 0, .int .i64 0, .int .i64 0] TPa) = v1 := ⟨_, rfl⟩
  rw [hv1] at s1 B1 R1
  have R2 := row3_alloc v1 p k 0
  have B2 := below_alloc v1 (.cells #[.int .i64 p, .int .i64 k, .int .i64 0] TPa)
  rw [s0] at R1
  rw [s1] at R2
  have s2 : (v1.alloc (.cells #[.int .i64 p, .int .i64 k, .int .i64 0] TPa)).heap.size = w.heap.size + 1 + 1 + 1 := by simp [s1]
  have KEEP := Lib.hid (show ∀ w', Below (v1.alloc (.cells #[.int .i64 p, .int .i64 k, .int .i64 0] TPa)).heap.size (v1.alloc (.cells #[.int .i64 p, .int .i64 k, .int .i64 0] TPa)) w' → w'.cell? ⟨w.heap.size, 2, none⟩ = some (.int .u8 z) ∧ w'.rowIs (w.heap.size + 1) TPa 3 (three 0 0 0) ∧ w'.rowIs (w.heap.size + 1 + 1) TPa 3 (three p k 0) ∧ Below w.heap.size w w' from fun w' h => by
    have hB := below_tr (below_tr B1 B2) h
    exact ⟨(hB.cell (p := ⟨w.heap.size, 2, none⟩) (by rw [s0]; exact Nat.lt_succ_self _)).trans q0, R1.of_block ((below_tr B2 h).block _ (by rw [s1]; omega)), R2.of_block (h.block _ (by rw [s2]; omega)), below_tr B0 hB⟩)
  rw [← hv1, ← hv0] at KEEP
  clear R1 R2 B0 B1 B2 s0 s1 s2 q0 hv0 hv1 p1 k1
  go_enter Tryz.func20, Tryz.ntmps20
  go_wp2_with fail
  refine (rof9 p _).mono ?_
  rintro e w1 ⟨rfl, hb1⟩
  obtain ⟨q1, R1, R2, B1⟩ := KEEP.out _ (below_tr hb1 (below_alloc w1 (.cells (rowA p) TRw)))
  simp only [rowA, hM] at q1 R1 R2 B1 ⊢
  clear KEEP hb1 hM
  have a0 := R2.cell (i := 0) (by omega)
  have a1 := R2.cell (i := 1) (by omega)
  have a2 := R2.cell (i := 2) (by omega)
  have f2 := R2.frozen 2
  have z0 := R1.cell (i := 0) (by omega)
  have z1 := R1.cell (i := 1) (by omega)
  have z2 := R1.cell (i := 2) (by omega)
  have g0 := R1.frozen 0
  have g1 := R1.frozen 1
  have g2 := R1.frozen 2
  simp only [three] at a0 a1 a2 z0 z1 z2
  have HR1 := Lib.hid R1
  have HB1 := Lib.hid B1
  clear R1 R2 B1
  have hM0 : ¬ M = 0 := by omega
  go_wp2_with fail
  have RF := ((((HR1.out.setOther (a := ⟨w.heap.size + 1 + 1, 2, none⟩) (by simp) (.int .i64 m)).set 0 (.int .i64 p)).set 1 (.int .i64 k)).set 2 (.int .i64 m)).congr (g := three p k m) (fun i hi => by
    match i, hi with
    | 0, _ => rfl
    | 1, _ => rfl
    | 2, _ => rfl)
  have HE := Lib.hid ((((HB1.out.setCell (p := ⟨w.heap.size + 1 + 1, 2, none⟩) (by simp; omega) (.int .i64 m)).setCell (p := ⟨w.heap.size + 1, 0, none⟩) (by simp) (.int .i64 p)).setCell (p := ⟨w.heap.size + 1, 1, none⟩) (by simp) (.int .i64 k)).setCell (p := ⟨w.heap.size + 1, 2, none⟩) (by simp) (.int .i64 m))
  refine bodyPost_ret (results_cell_row rfl _ _ (w.heap.size + 1) TPa (parA p k m) (0, 0) _ rfl (rowIs_agg3 RF) Tryz.underlying23 rfl size3) rfl ?_
  exact ⟨p, k, m, rfl, HX.out, HE.out⟩
end Go.Proofs.YtdidlfeolbcblaaGreatDoor
