/- Layer 13: a table of 256 numbers in a box; contract of Table. -/
import Derived.Test.YtbhpfdikkknijaaDoorCrd
import Derived.Laws.BitsAllLaws
import Derived.Laws.Rows
import Derived.Laws.Tables
import Derived.Deep.WholeRow
namespace Go.Proofs.YtbhpfdikkknijaaDoor
open Go.RowKit

abbrev TTa : Nat := 28

/-- the first k are so -/
def tabF (k : Nat) : Nat → Value := fun i => .int .u32 ((if i < k then cst8 i else 0 : Nat))
/-- the table -/
def tabA : Array Value := ⟨(List.range 256).map (fun i => Value.int .u32 (cst8 i : Nat))⟩
theorem tabA_size : tabA.size = 256 := by simp [tabA]
theorem tabA_at {i : Nat} (h : i < 256) : tabA[i]? = some (.int .u32 (cst8 i : Nat)) := by simp [tabA, h]
theorem tabA_one : tabA.all (·.oneCell') = true := by
  rw [Array.all_eq_true]
  intro i hi
  have := tabA_at (i := i) (by rw [tabA_size] at hi; exact hi)
  rw [Array.getElem?_eq_getElem hi] at this
  rw [Option.some.inj this]
  rfl
theorem rowIs_tab {w : World} {g t : Nat} (h : w.rowIs g t 256 (tabF 256)) : w.heap[g]? = some (.cells tabA t (0, 0)) := by
  obtain ⟨l, h1, h2, h3⟩ := h
  rw [h1]
  suffices l = tabA by rw [this]
  refine Array.ext (by rw [h2, tabA_size]) fun i hi1 hi2 => ?_
  have e1 := h3 i (by rw [h2] at hi1; exact hi1)
  have e2 := tabA_at (i := i) (by rw [tabA_size] at hi2; exact hi2)
  rw [Array.getElem?_eq_getElem hi1] at e1
  rw [Array.getElem?_eq_getElem hi2] at e2
  rw [Option.some.inj e1, Option.some.inj e2, tabF, if_pos (by rw [h2] at hi1; exact hi1)]
theorem zeroTa (w : World) : (zeroValue TTa).run Tryd.prog w = .ok (.agg (Array.replicate 256 (.int .u32 0))) w := by kernel_rfl
theorem sizeTa : (Tryd.prog.info? TTa).map (·.size) = some tabA.size := by rw [tabA_size]; kernel_rfl
theorem store_tab {w : World} {g : Nat} {old : Array Value} (h1 : w.heap[g]? = some (.cells old TTa (0, 0))) (h2 : old.size = 256) : Sem.run Tryd.prog (storeCells ⟨g, 0, none⟩ tabA.toList) w = .ok () (w.setRow g tabA) := by
  have := run_storeCells_from (P := Tryd.prog) g TTa tabA.toList 0 old w h1 (by rw [Array.length_toList, tabA_size, h2]) (fun v hv => (Array.all_eq_true_iff_forall_mem.1 tabA_one) v (by simpa using hv))
  simpa using this
/-- the table, told by a call, is laid in a new box -/
theorem store_tab_new (z : Array Value) (hz : z.size = 256) (w : World) : Sem.run Tryd.prog (storeCells ⟨w.heap.size, 0, none⟩ tabA.toList) (w.alloc (.cells z TTa)) = .ok () (w.alloc (.cells tabA TTa)) := by
  rw [store_tab (old := z) (World.alloc_heap_new w _) hz, World.setRow_alloc_new]
theorem tab_box {w v : World} (hv : w.alloc (.cells tabA TTa) = v) : (∀ i, i < 256 → v.cell? ⟨w.heap.size, i, none⟩ = some (.int .u32 (cst8 i : Nat))) ∧ (∀ i, v.frozen? ⟨w.heap.size, i, none⟩ = false) ∧ Below w.heap.size w v := by
  subst hv
  have h := World.rowIs_alloc w tabA TTa (fun i => .int .u32 (cst8 i : Nat)) (fun i hi => tabA_at (by rwa [tabA_size] at hi))
  rw [tabA_size] at h
  exact ⟨fun i hi => h.cell hi, fun i => h.frozen i, below_alloc w _⟩
/-- in a loop that fills the table -/
def TabAt (g : Nat) (w : World) (s4 : Value) (wr : World) : Prop :=
  ∃ k : Nat, k ≤ 256 ∧ s4 = .int .i64 k ∧ wr.rowIs (g + 1) TTa 256 (tabF k) ∧ wr.rowIs g TTa 256 (tabF 0) ∧ Below g w wr
theorem tabAt_step {g : Nat} {w wr : World} {k x : Nat} (hk : k < 256) (hx : cst8 k = x) (h1 : wr.rowIs (g + 1) TTa 256 (tabF k)) (h2 : wr.rowIs g TTa 256 (tabF 0)) (hb : Below g w wr) :
    TabAt g w (.int .i64 ((k : Int) + 1)) (wr.setCell ⟨g + 1, k, none⟩ (.int .u32 x)) := by
  refine ⟨k + 1, hk, rfl, (h1.set k _).congr (fun i _ => ?_), h2.setOther (by simp) _, hb.setCell (p := ⟨g + 1, k, none⟩) (by simp) _⟩
  subst hx
  unfold tabF
  rcases Nat.lt_trichotomy i k with h | h | h
  · rw [if_neg (by omega), if_pos h, if_pos (by omega)]
  · subst h; rw [if_pos rfl, if_pos (by omega)]
  · rw [if_neg (by omega), if_neg (by omega), if_neg (by omega)]
theorem tab_start (w : World) (z : Array Value) (hz : Array.replicate 256 (.int .u32 0) = z) {v : World} (hv : (w.alloc (.cells z TTa)).alloc (.cells z TTa) = v) : TabAt w.heap.size w (.int .i64 0) v := by
  have hs : z.size = 256 := by rw [← hz]; simp
  have hc : ∀ i, i < z.size → z[i]? = some (tabF 0 i) := fun i hi => by rw [hs] at hi; rw [← hz]; simp [tabF, hi]
  subst hv
  refine ⟨0, Nat.zero_le _, rfl, ?_, ?_, ?_⟩
  · have := World.rowIs_alloc (w.alloc (.cells z TTa)) z TTa (tabF 0) hc
    rwa [World.size_alloc, hs] at this
  · have := (World.rowIs_alloc w z TTa (tabF 0) hc).alloc (.cells z TTa)
    rwa [hs] at this
  · exact (two_boxes rfl).2.2.2
end Go.Proofs.YtbhpfdikkknijaaDoor
