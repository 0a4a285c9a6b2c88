/- The contracts of package jvan: mayCode, powers, highest and Extended. -/
import Derived.Test.YtgcochamjicjiaaJva
import Derived.Deep.AppendLies
namespace Go.Proofs.Ytgcochamjicjiaa
open Go.RowKit

/-- a row of numbers that is made while the field may turn -/
def RowNew (p b wd n : Nat) (l : Nat → Int) (w : World) (e : Ending) (w' : World) : Prop :=
  ∃ g, e = .returned (.slice (some ⟨g, 0, none⟩) n n) ∧ w'.rowIs g TI n (i64s l) ∧ w.heap.size ≤ g ∧ Fld p b wd w' ∧ Turned b w w'
def PowAt (p b wd n : Nat) (l : Nat → Int) (w : World) (s13 : Value) (W : World) : Prop :=
  ∃ j : Nat, j ≤ n ∧ s13 = .int .i64 j ∧ W.rowIs w.heap.size TI n (fun x => .int .i64 (if x < j then l x else 0)) ∧ Fld p b wd W ∧ Turned b w W
theorem powAt_step {p b wd n j : Nat} {l : Nat → Int} {w W : World} (hj : j < n) (h1 : W.rowIs w.heap.size TI n (fun x => .int .i64 (if x < j then l x else 0))) (hf : Fld p b wd W) (ht : Turned b w W) :
    PowAt p b wd n l w (.int .i64 ((j + 1 : Nat) : Int)) (W.setCell ⟨w.heap.size, j, none⟩ (.int .i64 (l j))) := by
  refine ⟨j + 1, hj, rfl, (h1.set j _).congr (fun x _ => ?_), hf.setRow h1 (by decide) (by decide) _, ht.set_new (Nat.le_refl _) _⟩
  rcases Nat.lt_trichotomy x j with e | e | e
  · rw [if_neg (by omega), if_pos e, if_pos (by omega)]
  · rw [if_pos e, if_pos (by omega), e]
  · rw [if_neg (by omega), if_neg (by omega), if_neg (by omega)]

/-- in Extended's loop: i rows are there -/
def ExtAt (q : FP) (b wd k n : Nat) (F : Nat → Nat → Int) (w : World) (s9 s25 : Value) (wr : World) : Prop := ∃ i : Nat, i ≤ n ∧ s25 = .int .i64 i ∧ Van q b wd k (fun _ => 0) F w 0 i nilS s9 wr

theorem van_room {q : FP} {b wd k N : Nat} {F : Nat → Nat → Int} {w : World} (hf : Fld q.p b wd w) (hN : N ≤ 100) :
    Van q b wd k (fun _ => 0) F w 0 0 nilS (.slice (some ⟨w.heap.size, 0, none⟩) 0 N) (w.alloc (.cells (madeCells #[nilS] N) TIs)) :=
  ⟨⟨hf.of_below (below_alloc _ _), Turned.of_below (below_alloc _ _), World.ownsRow_nil _ _ _ _⟩, fun _ => none, fun _ => 0, World.ownsRow_made w _ N (Nat.le_refl _) (by unfold maxLen; omega) (by rw [size_madeCells, Nat.mul_one]), fun r hr => absurd hr (by omega)⟩
/-- a new row is appended -/
theorem van_new {q : FP} {b wd n : Nat} {l : Nat → Int} {F : Nat → Nat → Int} {w wr w1 : World} {j g g' cap : Nat} {va : Value} {o : Obj} {As : Nat → Option Addr} {Cs : Nat → Nat} (hb : b < w.heap.size)
    (hv : AppT q b wd w TI (i64s l) 0 nilS wr) (h1 : wr.ownsRow w.heap.size TIs 1 va j ((List.range j).map (slis As (fun _ => n) Cs))) (h2 : ∀ r, r < j → ∀ g, (g = b ∨ nilS.ownBlock = some g ∨ va.ownBlock = some g) → Rd g wr (i64s (F r)) (As r) n)
    (hr : wr.rowIs g TI n (i64s (F j))) (hg : w.heap.size ≤ g)
    (ho : w1.ownsRow w.heap.size TIs 1 (.slice (some ⟨g', 0, none⟩) (j + 1) cap) (j + 1) ((List.range j).map (slis As (fun _ => n) Cs) ++ [.slice (some ⟨g, 0, none⟩) n n])) (hgr : (wr.alloc o).grownBy w1 va.ownBlock) (hg' : va.ownBlock = some g' ∨ g' = wr.heap.size + 1) :
    Van q b wd n l F w 0 (j + 1) nilS (.slice (some ⟨g', 0, none⟩) (j + 1) cap) w1 := by
  refine Van.row hv h1 h2 (fun x hx => Rd.of_row hr ?_ (Nat.le_refl _)) ho hgr hg'
  rcases hx with rfl | hx | hx
  · omega
  · cases hx
  · rintro rfl
    exact absurd (own_kind h1 hx hr) (by decide)
/-- all rows are there -/
theorem Van.said {q : FP} {b wd n N : Nat} {l : Nat → Int} {E : Nat → Nat → El q} {w wr : World} {va : Value} (h : Van q b wd n l (ivs E) w 0 N nilS va wr) (hb : b < w.heap.size) : VSaid q b wd N n E w (.returned (.tuple #[va, .int .i64 0])) wr := by
  obtain ⟨As, Cs, h1, h2⟩ := h.rows
  obtain ⟨A, c, rfl, hc, hrd⟩ := Rd.of_own h1 hb
  exact ⟨A, c, rfl, hc, ⟨As, Cs, hrd, fun r hr => h2 r hr b (Or.inl rfl)⟩, h.pts.fld, h.pts.turned⟩

theorem make_room (n : Nat) (hn : n ≤ 100) (w : World) : (Instr.makeSlice TM (.int .i64 0) (.int .i64 (n : Int))).run Try.prog w = .ok (.slice (some ⟨w.heap.size, 0, none⟩) 0 n) (w.alloc (.cells (madeCells #[nilS] n) TIs)) := by
  obtain ⟨i0, hi, hz0, hz1, hz2⟩ := info_parts infoRow
  have h := run_makeSlice (P := Try.prog) w TM TIs i0 nilS underM' hi hz0 .i64 .i64 0 (n : Int) (by omega) (by omega) (by rw [hz1]; omega) (by rw [hz2]; omega) (by omega)
  rw [hz1, Nat.mul_one, Int.toNat_natCast] at h
  exact h
end Go.Proofs.Ytgcochamjicjiaa
