/- Contracts of package matrix: the identity, and rows picked. -/
import Derived.Test.YtmpamgnbbomoaaaGreatMtf
namespace Go.Proofs.YtmpamgnbbomoaaaGreat
open Go.RowKit

theorem setCell_comm {w : World} {a c : Addr} (h : a.block ≠ c.block) (v u : Value) : (w.setCell a v).setCell c u = (w.setCell c u).setCell a v := by
  unfold World.setCell
  congr 1
  apply Array.ext_getElem?
  intro i
  simp only [Array.getElem?_modify]
  by_cases h1 : a.block = i <;> by_cases h2 : c.block = i <;> simp_all

/-- the identity's numbers -/
def idF (r c : Nat) : Int := if r = c then 1 else 0

/-- a row of the identity is laid -/
theorem Bld.unit {g n : Nat} {w : World} {k : Nat} {W : World} (h : Bld g n idF (fun _ => n) w k W) :
    Bld g n idF (fun _ => n) w (k + 1) (((W.alloc (.cells (madeCells #[.int .i64 0] n) TI)).setCell ⟨g, k, none⟩ (.slice (some ⟨W.heap.size, 0, none⟩) n n)).setCell ⟨W.heap.size, k, none⟩ (.int .i64 1)) := by
  have hg : g < W.heap.size := by obtain ⟨_, _, _, _, h3, _⟩ := h; exact h3.lt
  have hw : w.heap.size ≤ W.heap.size := h.2.1.size
  rw [setCell_comm (show (⟨g, k, none⟩ : Addr).block ≠ (⟨W.heap.size, k, none⟩ : Addr).block by simp; omega)]
  have hrow := (World.rowIs_made W (.int .i64 0) n TI).set k (.int .i64 1)
  refine (h.below ((below_alloc W (.cells (madeCells #[.int .i64 0] n) TI)).setCell (p := ⟨W.heap.size, k, none⟩) (Nat.le_refl _) (.int .i64 1))).step (fun b hb => ?_)
  refine (Rd.of_row hrow (by rcases hb with hb | hb <;> omega) (Nat.le_refl _)).congr (fun j _ => ?_)
  simp only [i64s, idF]
  by_cases e : j = k
  · subst e; simp
  · rw [if_neg e, if_neg (fun e' => e e'.symm)]

set_option maxRecDepth 100000 in
set_option maxHeartbeats 1000000 in
theorem identity_yes (n : Nat) (hs : side n) (w : World) :
    Calls Tryz.prog 40 #[.int .i64 n] w fun e w' => ∃ v, e = .returned v ∧ MatTold n idF (fun _ => n) w v w' := by
  have hn : n ≤ 20 := hs.2
  have hmk := run_make_row' (P := Tryz.prog) TM TIs nilS 24 underM' infoRow rfl .i64 .i64 n (by omega) (by omega)
  have hmk2 := run_make_row' (P := Tryz.prog) TIs TI (.int .i64 0) 8 underI infoI rfl .i64 .i64 n (by omega) (by omega)
  go_enter Tryz.func40, Tryz.ntmps40
  go_wp2_with fail
  refine (side28 n _).mono ?_
  rintro e w' ⟨t, rfl, ht, rfl⟩
  obtain rfl : t = true := ht.2 hs
  clear ht
  go_wp2_with fail
  go_loopw [12] (fun s12 wr => ∃ k : Nat, k ≤ n ∧ s12 = .int .i64 k ∧ Hid (Bld w.heap.size n idF (fun _ => n) w k wr)) (fun s12 _ => n - (intOf s12).toNat)
  case atStart => exact ⟨0, Nat.zero_le _, rfl, Lib.hid (Bld.start n _ _ w)⟩
  case round =>
    obtain ⟨k, hk, rfl, hb⟩ := hrel
    by_cases hlt : k < n
    · have HS := Lib.hid hb.out.unit
      have hb1 := hb.out.below (below_alloc wr (.cells (madeCells #[.int .i64 0] n) TI))
      obtain ⟨v0, g1, hv1, f1⟩ := hb1.cell hlt
      have hgl : w.heap.size < wr.heap.size := by obtain ⟨_, _, _, _, h3, _⟩ := hb.out; exact h3.lt
      have g2 : ((wr.alloc (.cells (madeCells #[.int .i64 0] n) TI)).setCell ⟨w.heap.size, k, none⟩ (.slice (some ⟨wr.heap.size, 0, none⟩) n n)).cell? ⟨w.heap.size, k, none⟩ = some (.slice (some ⟨wr.heap.size, 0, none⟩) n n) := World.cell?_setCell_same _ _ _ g1
      have hr0 := World.rowIs_made wr (.int .i64 0) n TI
      have hne : wr.heap.size ≠ (⟨w.heap.size, k, none⟩ : Addr).block := by simp; omega
      have hr1 : ((wr.alloc (.cells (madeCells #[.int .i64 0] n) TI)).setCell ⟨w.heap.size, k, none⟩ (.slice (some ⟨wr.heap.size, 0, none⟩) n n)).rowIs wr.heap.size TI n (fun _ => .int .i64 0) := hr0.setOther (a := ⟨w.heap.size, k, none⟩) hne _
      have g3 := hr1.cell hlt
      have f3 := hr1.frozen k
      have hEq := World.setCell_alloc_past (w := wr) (.cells (madeCells #[.int .i64 0] n) TI) w.heap.size k (.slice (some ⟨wr.heap.size, 0, none⟩) n n) hgl
      have hEq2 := World.setCell_alloc_at (w := wr.setCell ⟨w.heap.size, k, none⟩ (.slice (some ⟨wr.heap.size, 0, none⟩) n n)) (madeCells #[.int .i64 0] n) TI wr.heap.size k (.int .i64 1) (by simp [World.setCell])
      rw [hEq] at g2 g3 f3 HS
      rw [hEq2] at HS
      clear hb1 hr0 hr1 hb hEq hEq2
      go_wp2_with fail
      exact ⟨⟨k + 1, hlt, by go_num, HS⟩, by simp [intOf]; omega⟩
    · obtain rfl : k = n := by omega
      go_wp2_with fail
      go_ret
      exact ⟨_, rfl, hb.out.told k (Nat.le_refl _)⟩

set_option maxRecDepth 100000 in
theorem identity_no (n : Int) (hs : n < 1 ∨ 20 < n) (w : World) :
    Calls Tryz.prog 40 #[.int .i64 n] w fun e w' => e = .returned nilS ∧ w = w' := by
  have hc : ∀ w, Calls Tryz.prog 60 #[.int .i64 n] w fun e w' => e = .returned (.bool false) ∧ w = w' := fun w => by
    rcases hs with h | h
    · exact side_neg n h w
    · exact side_big n h w
  clear hs
  have HC := Lib.hid hc
  clear hc
  go_enter Tryz.func40, Tryz.ntmps40
  go_wp2_with fail
  refine (HC.out _).mono ?_
  rintro e w' ⟨rfl, rfl⟩
  go_wp2_with fail
  go_ret
  exact ⟨rfl, rfl⟩

/-- rows may be picked -/
def pickP (c n : Nat) (Ls : Nat → Nat) (F : Nat → Nat → Int) (m : Nat) (l : Nat → Int) : Prop := mayP c n Ls F ∧ side m ∧ ∀ r, r < m → 0 ≤ l r ∧ l r < n
/-- what Pick tells -/
def PickAny (c n : Nat) (Ls : Nat → Nat) (F : Nat → Nat → Int) (m : Nat) (l : Nat → Int) (w : World) (e : Ending) (w' : World) : Prop :=
  ∃ t v, e = .returned (.tuple #[v, .int .i64 (errOf t)]) ∧ (t = true ↔ pickP c n Ls F m l) ∧ MatTold (cond t m 0) (fun r => F (l r).toNat) (fun r => Ls (l r).toNat) w v w'
theorem PickAny.no {c n : Nat} {Ls : Nat → Nat} {F : Nat → Nat → Int} {m : Nat} {l : Nat → Int} {w w' : World} (h : ¬ pickP c n Ls F m l) (hb : Below w.heap.size w w') : PickAny c n Ls F m l w (.returned (.tuple #[nilS, .int .i64 1])) w' :=
  ⟨false, _, rfl, by simp [h], MatTold.nil hb⟩
/-- in Pick's loop: the rows themselves, not copied yet -/
def PickAt (As : Nat → Option Addr) (Ls Cs : Nat → Nat) (n m : Nat) (l : Nat → Int) (w : World) (s26 : Value) (wr : World) : Prop :=
  ∃ k : Nat, k ≤ m ∧ s26 = .int .i64 k ∧ (∀ r, r < k → 0 ≤ l r ∧ l r < n) ∧ wr.rowIs w.heap.size TIs m (fun r => if r < k then slis As Ls Cs (l r).toNat else nilS) ∧ Below w.heap.size w wr

theorem pickAt_step {As : Nat → Option Addr} {Ls Cs : Nat → Nat} {n m : Nat} {l : Nat → Int} {w wr : World} {k : Nat} (hk : k < m) (hall : ∀ r, r < k → 0 ≤ l r ∧ l r < n) (h0 : 0 ≤ l k) (h1 : l k < n)
    (hrow : wr.rowIs w.heap.size TIs m (fun r => if r < k then slis As Ls Cs (l r).toNat else nilS)) (hb : Below w.heap.size w wr) :
    PickAt As Ls Cs n m l w (.int .i64 (k + 1 : Nat)) (wr.setCell ⟨w.heap.size, k, none⟩ (slis As Ls Cs (l k).toNat)) := by
  refine ⟨k + 1, hk, rfl, fun r hr => (Nat.lt_succ_iff_lt_or_eq.1 hr).elim (fun h => hall r h) (fun h => by rw [h]; exact ⟨h0, h1⟩), (hrow.set k _).congr (fun r _ => ?_), hb.setCell (p := ⟨w.heap.size, k, none⟩) (Nat.le_refl _) _⟩
  rcases Nat.lt_trichotomy r k with h | h | h
  · rw [if_neg (by omega), if_pos h, if_pos (by omega)]
  · subst h; rw [if_pos rfl, if_pos (by omega)]
  · rw [if_neg (by omega), if_neg (by omega), if_neg (by omega)]
end Go.Proofs.YtmpamgnbbomoaaaGreat
