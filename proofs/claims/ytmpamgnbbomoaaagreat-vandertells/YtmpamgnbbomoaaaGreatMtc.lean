/- What lies in memory while package matrix's Mul goes through the columns. -/
import Derived.Test.YtmpamgnbbomoaaaGreatMtb
import Derived.RangeFuncWrites
namespace Go.Proofs.YtmpamgnbbomoaaaGreat
open Go.RowKit

/-- w' is as w was, in all blocks of cells, and in all blocks below H -/
structure Kept (H : Nat) (W W' : World) : Prop where
  os : W'.os = W.os
  tape : W'.tape = W.tape
  output : W'.output = W.output
  size : W.heap.size ≤ W'.heap.size
  block : ∀ k, k < W.heap.size → (k < H ∨ ∃ c t f, W.heap[k]? = some (.cells c t f)) → W'.heap[k]? = W.heap[k]?

theorem Kept.of_below {H : Nat} {W W' : World} (h : Below W.heap.size W W') : Kept H W W' := ⟨h.os, h.tape, h.output, h.size, fun k hk _ => h.block k hk⟩
theorem Kept.of_putObj {H r : Nat} {W : World} {o o' : Obj} (hr : H ≤ r) (h : W.heap[r]? = some o) (ho : o.isCells = false) : Kept H W (W.putObj r o') := by
  refine ⟨rfl, rfl, rfl, by simp, fun k _ hk => World.putObj_heap_other ?_⟩
  rintro rfl
  rcases hk with hk | ⟨c, t, f, hk⟩
  · omega
  · rw [h] at hk
    injection hk with hk
    subst hk
    cases ho
theorem Kept.row {H : Nat} {W W' : World} (h : Kept H W W') {g t n : Nat} {f : Nat → Value} (hr : W.rowIs g t n f) : W'.rowIs g t n f := by
  have hlt := hr.lt
  obtain ⟨c, h1, h2⟩ := hr
  exact ⟨c, (h.block g hlt (Or.inr ⟨_, _, _, h1⟩)).trans h1, h2⟩
theorem Kept.cell {H : Nat} {W W' : World} (h : Kept H W W') {q : Addr} {v : Value} (hq : q.block < H) (hc : W.cell? q = some v) : W'.cell? q = some v :=
  (World.cell?_of_block (h.block q.block (World.block_lt_of_cell? W q hc) (Or.inl hq))).trans hc
theorem Kept.fld {H p b wd : Nat} {W W' : World} (h : Kept H W W') (hf : Fld p b wd W) : Fld p b wd W' := by
  refine ⟨hf.1, ?_⟩
  rcases hf.2 with hf | ⟨x, y, g1, g2, r1, r2, r3⟩
  · exact Or.inl (h.row hf)
  · exact Or.inr ⟨x, y, g1, g2, h.row r1, h.row r2, h.row r3⟩
theorem Kept.own {H base e n : Nat} {W W' : World} {v : Value} {xs : List Value} (h : Kept H W W') (ho : W.ownsRow base e 1 v n xs) : W'.ownsRow base e 1 v n xs := by
  refine ⟨ho.1, ?_⟩
  rcases ho.2 with hn | ⟨g, cap, cur, h1, h2, h3, h4⟩
  · exact Or.inl hn
  · exact Or.inr ⟨g, cap, cur, h1, h2, (h.block g (Array.getElem?_eq_some_iff.1 h3).1 (Or.inr ⟨_, _, _, h3⟩)).trans h3, h4⟩
theorem Kept.turned {H b : Nat} {w W W' : World} (h : Kept H W W') (ht : Turned b w W) (hw : w.heap.size ≤ H) : Turned b w W' :=
  ⟨h.os.trans ht.os, h.tape.trans ht.tape, h.output.trans ht.output, Nat.le_trans ht.size h.size, fun k hk hb => (h.block k (Nat.lt_of_lt_of_le hk ht.size) (Or.inl (by omega))).trans (ht.block k hk hb)⟩

/-- the product's number in row r and column c -/
def mulF (p : Nat) (F G : Nat → Nat → Int) (k r c : Nat) : Int := (dotN p (F r) (fun x => G x c) k : Nat)

/-- the matrices, and the rows V of the product, of which row r has cnt r numbers -/
structure MidV (p b wd n k : Nat) (A B : Option Addr) (ca cb : Nat) (F G : Nat → Nat → Int) (w : World) (V : Nat → Value) (cnt : Nat → Nat) (W : World) : Prop where
  fld : Fld p b wd W
  turned : Turned b w W
  size : w.heap.size + 5 ≤ W.heap.size
  cf : W.cell? ⟨w.heap.size, 0, none⟩ = some (.pointer (some ⟨b, 0, none⟩))
  ca : W.cell? ⟨w.heap.size + 1, 0, none⟩ = some (.slice A n ca)
  cp : W.cell? ⟨w.heap.size + 3, 0, none⟩ = some (.slice (some ⟨w.heap.size + 2, 0, none⟩) n n)
  cb : W.cell? ⟨w.heap.size + 4, 0, none⟩ = some (.slice B k cb)
  row : W.rowIs (w.heap.size + 2) TIs n V
  own : ∀ r, r < n → W.ownsRow (w.heap.size + 5) TI 1 (V r) (cnt r) ((List.range (cnt r)).map (i64s (mulF p F G k r)))
  apart : ∀ r r', r < n → r' < n → r ≠ r' → (V r).ownBlock = none ∨ (V r).ownBlock ≠ (V r').ownBlock
def Mid (p b wd n k : Nat) (A B : Option Addr) (ca cb : Nat) (F G : Nat → Nat → Int) (w : World) (cnt : Nat → Nat) (W : World) : Prop := ∃ V, MidV p b wd n k A B ca cb F G w V cnt W

section
variable {p b wd n k : Nat} {A B : Option Addr} {ca cb : Nat} {F G : Nat → Nat → Int} {w : World} {V : Nat → Value} {cnt : Nat → Nat} {W W' : World}

theorem MidV.kept (h : MidV p b wd n k A B ca cb F G w V cnt W) (hk : Kept (w.heap.size + 5) W W') : MidV p b wd n k A B ca cb F G w V cnt W' :=
  ⟨hk.fld h.fld, hk.turned h.turned (by omega), Nat.le_trans h.size hk.size, hk.cell (by simp) h.cf, hk.cell (by simp) h.ca, hk.cell (by simp) h.cp, hk.cell (by simp) h.cb, hk.row h.row, fun r hr => hk.own (h.own r hr), h.apart⟩
theorem MidV.below (h : MidV p b wd n k A B ca cb F G w V cnt W) (hb : Below W.heap.size W W') : MidV p b wd n k A B ca cb F G w V cnt W' := h.kept (Kept.of_below hb)
theorem MidV.drew (h : MidV p b wd n k A B ca cb F G w V cnt W) : MidV p b wd n k A B ca cb F G w V cnt W.drew := h.below (Below.refl _ _).drew
theorem MidV.congr {cnt' : Nat → Nat} (h : MidV p b wd n k A B ca cb F G w V cnt W) (he : ∀ r, r < n → cnt r = cnt' r) : MidV p b wd n k A B ca cb F G w V cnt' W :=
  ⟨h.fld, h.turned, h.size, h.cf, h.ca, h.cp, h.cb, h.row, fun r hr => by rw [← he r hr]; exact h.own r hr, h.apart⟩

/-- the field's own tables may be made in between -/
theorem MidV.turn (h : MidV p b wd n k A B ca cb F G w V cnt W) (hb : b < w.heap.size) (hf : Fld p b wd W') (ht : Turned b W W') : MidV p b wd n k A B ca cb F G w V cnt W' := by
  have hc : ∀ (q : Addr) v, q.block ≠ b → W.cell? q = some v → W'.cell? q = some v := fun q v hq hv => (ht.cell (World.block_lt_of_cell? W q hv) hq).trans hv
  refine ⟨hf, h.turned.trans ht, Nat.le_trans h.size ht.size, hc _ _ (by simp; omega) h.cf, hc _ _ (by simp; omega) h.ca, hc _ _ (by simp; omega) h.cp, hc _ _ (by simp; omega) h.cb, ht.row h.row (by omega), fun r hr => ?_, h.apart⟩
  have ho := h.own r hr
  refine ⟨ho.1, ?_⟩
  rcases ho.2 with hn | ⟨g, cap, cur, g1, g2, g3, g4⟩
  · exact Or.inl hn
  · exact Or.inr ⟨g, cap, cur, g1, g2, (ht.block g (Array.getElem?_eq_some_iff.1 g3).1 (by omega)).trans g3, g4⟩

/-- behind an append to row i: what lies below the rows is as it was -/
theorem MidV.low {i : Nat} {o : Obj} {W1 : World} (h : MidV p b wd n k A B ca cb F G w V cnt W) (hi : i < n) (hgr : (W.alloc o).grownBy W1 (V i).ownBlock) :
    W1.cell? ⟨w.heap.size, 0, none⟩ = some (.pointer (some ⟨b, 0, none⟩)) ∧ W1.cell? ⟨w.heap.size + 3, 0, none⟩ = some (.slice (some ⟨w.heap.size + 2, 0, none⟩) n n) ∧ W1.rowIs (w.heap.size + 2) TIs n V := by
  have h3 := h.size
  have hlow : ∀ q, q < w.heap.size + 5 → W1.heap[q]? = W.heap[q]? := fun q hq =>
    (hgr.block q (by simp; omega) (fun e => by have := ((h.own i hi).lt q e.symm).1; omega)).trans (Below.heap_alloc W o q (by omega))
  exact ⟨(World.cell?_of_block (hlow _ (by simp))).trans h.cf, (World.cell?_of_block (hlow _ (by simp))).trans h.cp, h.row.of_block (hlow _ (by omega))⟩

/-- what is appended to row i, and stored -/
theorem MidV.step {i g cap : Nat} {o : Obj} {W1 : World} (h : MidV p b wd n k A B ca cb F G w V cnt W)
    (hi : i < n) (hown : W1.ownsRow (w.heap.size + 5) TI 1 (.slice (some ⟨g, 0, none⟩) (cnt i + 1) cap) (cnt i + 1) ((List.range (cnt i)).map (i64s (mulF p F G k i)) ++ [i64s (mulF p F G k i) (cnt i)]))
    (hgr : (W.alloc o).grownBy W1 (V i).ownBlock) (hg : (V i).ownBlock = some g ∨ g = (W.alloc o).heap.size) :
    MidV p b wd n k A B ca cb F G w (fun r => if r = i then .slice (some ⟨g, 0, none⟩) (cnt i + 1) cap else V r) (fun r => if r = i then cnt r + 1 else cnt r) (W1.setCell ⟨w.heap.size + 2, i, none⟩ (.slice (some ⟨g, 0, none⟩) (cnt i + 1) cap)) := by
  have h3 := h.size
  have h8 := h.row
  have h10 := h.apart
  have hV : ∀ r, r < n → ∀ q, (V r).ownBlock = some q → w.heap.size + 5 ≤ q ∧ q < W.heap.size := fun r hr q hq => (h.own r hr).lt q hq
  have hbl : ∀ q, q < W.heap.size → (V i).ownBlock ≠ some q → W1.heap[q]? = W.heap[q]? := fun q hq hne =>
    (hgr.block q (by simp; omega) (fun e => hne e.symm)).trans (Below.heap_alloc W o q hq)
  have hlow : ∀ q, q < w.heap.size + 5 → W1.heap[q]? = W.heap[q]? := fun q hq => hbl q (by omega) (fun e => by have := (hV i hi q e).1; omega)
  have hsz : W.heap.size ≤ W1.heap.size := Nat.le_trans (by simp) hgr.size
  have hset : ∀ q, q ≠ w.heap.size + 2 → (W1.setCell ⟨w.heap.size + 2, i, none⟩ (.slice (some ⟨g, 0, none⟩) (cnt i + 1) cap)).heap[q]? = W1.heap[q]? := fun q hq => Below.heap_setCell _ _ _ _ hq
  have hc : ∀ (q : Addr) v, q.block < w.heap.size + 5 → q.block ≠ w.heap.size + 2 → W.cell? q = some v → (W1.setCell ⟨w.heap.size + 2, i, none⟩ (.slice (some ⟨g, 0, none⟩) (cnt i + 1) cap)).cell? q = some v := fun q v hq hne hv =>
    (World.cell?_of_block ((hset q.block hne).trans (hlow q.block hq))).trans hv
  have hrow1 : W1.rowIs (w.heap.size + 2) TIs n V := h8.of_block (hlow _ (by omega))
  -- a row of a field, or of its tables, is none of the product's
  have hfl : ∀ (x t m : Nat) (f : Nat → Value), W.rowIs x t m f → t ≠ TI → t ≠ TIs → (W1.setCell ⟨w.heap.size + 2, i, none⟩ (.slice (some ⟨g, 0, none⟩) (cnt i + 1) cap)).rowIs x t m f := fun x t m f hr ht1 ht2 => by
    refine hr.of_block ((hset x ?_).trans (hbl x hr.lt ?_))
    · rintro rfl
      obtain ⟨c, e1, _⟩ := hr
      obtain ⟨c', e2, _⟩ := h8
      rw [e1] at e2
      injection e2 with e2
      injection e2 with _ e2
      exact ht2 e2
    · intro hq
      obtain ⟨c, e1, _⟩ := hr
      rcases (h.own i hi).2 with ⟨hv, _⟩ | ⟨g', _, cur, hv, _, e2, _⟩
      · rw [hv] at hq; cases hq
      · rw [hv] at hq
        simp only [Value.ownBlock] at hq
        injection hq with hq
        subst hq
        rw [e1] at e2
        injection e2 with e2
        injection e2 with _ e2
        exact ht1 e2
  refine ⟨⟨h.fld.1, ?_⟩, ?_, ?_, hc _ _ (by simp) (by simp) h.cf, hc _ _ (by simp) (by simp) h.ca, hc _ _ (by simp) (by simp) h.cp, hc _ _ (by simp) (by simp) h.cb, ?_, ?_, ?_⟩
  · rcases h.fld.2 with h1 | ⟨x, y, g1, g2, r1, r2, r3⟩
    · exact Or.inl (hfl _ _ _ _ h1 (by decide) (by decide))
    · exact Or.inr ⟨x, y, g1, g2, hfl _ _ _ _ r1 (by decide) (by decide), hfl _ _ _ _ r2 (by decide) (by decide), hfl _ _ _ _ r3 (by decide) (by decide)⟩
  · refine ⟨hgr.os.trans h.turned.os, hgr.tape.trans h.turned.tape, hgr.output.trans h.turned.output, ?_, fun q hq hqb => ((hset q (by omega)).trans (hlow q (by omega))).trans (h.turned.block q hq hqb)⟩
    have := h.turned.size
    simp only [World.setCell, Array.size_modify]
    omega
  · simp only [World.setCell, Array.size_modify]
    omega
  · exact hrow1.set i _
  · intro r hr
    by_cases e : r = i
    · subst e
      simp only [if_pos]
      rw [range_snoc]
      refine ⟨hown.1, ?_⟩
      rcases hown.2 with ⟨hv, _⟩ | ⟨g', cap', cur, hv, hb', hh, hx⟩
      · cases hv
      · exact Or.inr ⟨g', cap', cur, hv, hb', (hset g' (by omega)).trans hh, hx⟩
    · simp only [if_neg e]
      have ho := h.own r hr
      refine ⟨ho.1, ?_⟩
      rcases ho.2 with hn | ⟨g', cap', cur, hv, hb', hh, hx⟩
      · exact Or.inl hn
      · refine Or.inr ⟨g', cap', cur, hv, hb', ((hset g' (by omega)).trans (hbl g' (Array.getElem?_eq_some_iff.1 hh).1 ?_)).trans hh, hx⟩
        rcases h10 r i hr hi e with hno | hno
        · rw [hv] at hno; cases hno
        · rw [hv] at hno
          exact fun he => hno he.symm
  · intro r r' hr hr' hne
    by_cases e : r = i
    · subst e
      simp only [if_pos, if_neg (Ne.symm hne)]
      refine Or.inr ?_
      intro he
      replace he : some g = (V r').ownBlock := he
      have hq := hV r' hr' g he.symm
      rcases hg with hg | hg
      · rcases h10 r' r hr' hr (Ne.symm hne) with hno | hno
        · rw [hno] at he; cases he
        · exact hno (he.symm.trans hg.symm)
      · simp at hg
        omega
    · by_cases e' : r' = i
      · subst e'
        simp only [if_neg e, if_pos]
        rcases h10 r r' hr hr' hne with hno | hno
        · exact Or.inl hno
        · refine Or.inr fun he => ?_
          replace he : (V r).ownBlock = some g := he
          rcases hg with hg | hg
          · exact hno (he.trans hg.symm)
          · have hq := hV r hr g he
            simp at hg
            omega
      · simp only [if_neg e, if_neg e']
        exact h10 r r' hr hr' hne
end

/-- in the loop over the rows, at a column that lies at block g: i rows have got their number -/
def RowAt (p b wd n k : Nat) (A B : Option Addr) (ca cb : Nat) (F G : Nat → Nat → Int) (w : World) (j g H : Nat) (W0 : World) (s39 : Value) (W : World) : Prop :=
  ∃ (i : Nat) (V : Nat → Value), i ≤ n ∧ s39 = .int .i64 i ∧ MidV p b wd n k A B ca cb F G w V (fun r => if r < i then j + 1 else j) W ∧ W.rowIs g TI k (i64s (fun r => G r j)) ∧
    (∀ r, r < n → (V r).ownBlock ≠ some g) ∧ w.heap.size + 5 ≤ g ∧ KeepsFrom H W0 W

theorem rowAt_step {p b wd n k : Nat} {A B : Option Addr} {ca cb : Nat} {F G : Nat → Nat → Int} {w : World} {j g H i g' cap : Nat} {W0 W W1 : World} {V : Nat → Value} {o : Obj}
    (hm : MidV p b wd n k A B ca cb F G w V (fun r => if r < i then j + 1 else j) W) (hc : W.rowIs g TI k (i64s (fun r => G r j))) (hne : ∀ r, r < n → (V r).ownBlock ≠ some g) (hgl : w.heap.size + 5 ≤ g) (hk : KeepsFrom H W0 W)
    (hi : i < n) (hown : W1.ownsRow (w.heap.size + 5) TI 1 (.slice (some ⟨g', 0, none⟩) (j + 1) cap) (j + 1) ((List.range j).map (i64s (mulF p F G k i)) ++ [i64s (mulF p F G k i) j]))
    (hgr : (W.alloc o).grownBy W1 (V i).ownBlock) (hg : (V i).ownBlock = some g' ∨ g' = (W.alloc o).heap.size) :
    RowAt p b wd n k A B ca cb F G w j g H W0 (.int .i64 (i + 1 : Nat)) (W1.setCell ⟨w.heap.size + 2, i, none⟩ (.slice (some ⟨g', 0, none⟩) (j + 1) cap)) := by
  have e0 : (if i < i then j + 1 else j) = j := if_neg (by omega)
  have hst := hm.step (i := i) (g := g') (cap := cap) (o := o) (W1 := W1) hi (by simp only [e0]; exact hown) hgr hg
  simp only [e0] at hst
  have hlt := hc.lt
  refine ⟨i + 1, _, hi, rfl, hst.congr (fun r _ => ?_), ?_, ?_, hgl, hk.trans ?_⟩
  · by_cases e : r = i
    · subst e; rw [if_pos rfl, if_neg (by omega), if_pos (by omega)]
    · rw [if_neg e]
      by_cases h : r < i
      · rw [if_pos h, if_pos (by omega)]
      · rw [if_neg h, if_neg (by omega)]
  · refine hc.of_block ((Below.heap_setCell _ _ _ _ (show g ≠ w.heap.size + 2 by omega)).trans ((hgr.block g (by simp; omega) (fun e => hne i hi e.symm)).trans (Below.heap_alloc W o g hlt)))
  · intro r hr
    by_cases e : r = i
    · subst e
      simp only [if_pos]
      intro he
      replace he : some g' = some g := he
      injection he with he
      subst he
      rcases hg with hg | hg
      · exact hne r hr hg
      · simp at hg
        omega
    · simp only [if_neg e]
      exact hne r hr
  · refine ((KeepsOthers.alloc W o).trans ((KeepsOthers.of_grownBy hgr ?_).trans (KeepsOthers.setCell _ _ _))).from H
    intro q o' hq ho'
    rcases (hm.own i hi).2 with ⟨hv, _⟩ | ⟨g2, _, cur, hv, _, e2, _⟩
    · rw [hv] at hq; cases hq
    · rw [hv] at hq
      simp only [Value.ownBlock] at hq
      injection hq with hq
      subst hq
      rw [(Below.heap_alloc W o _ (Array.getElem?_eq_some_iff.1 e2).1).trans e2] at ho'
      injection ho' with ho'
      subst ho'
      rfl

/-- all columns are through -/
theorem Mid.told {p b wd n k : Nat} {A B : Option Addr} {ca cb : Nat} {F G : Nat → Nat → Int} {w : World} {m : Nat} {W : World} (h : Mid p b wd n k A B ca cb F G w (fun _ => m) W) (hb : b < w.heap.size) :
    Mx b W (mulF p F G k) (fun _ => m) (some ⟨w.heap.size + 2, 0, none⟩) n := by
  obtain ⟨V, h⟩ := h
  have hv : ∀ r, ∃ (A' : Option Addr) (c' : Nat), r < n → V r = .slice A' m c' ∧ Rd b W (i64s (mulF p F G k r)) A' m := fun r => by
    by_cases hr : r < n
    · obtain ⟨A', c', e1, _, e2⟩ := Rd.of_own (b := b) (h.own r hr) (by omega)
      exact ⟨A', c', fun _ => ⟨e1, e2⟩⟩
    · exact ⟨none, 0, fun h => absurd h hr⟩
  refine ⟨fun r => Classical.choose (hv r), fun r => Classical.choose (Classical.choose_spec (hv r)), (Rd.of_row (n := n) h.row (by omega) (Nat.le_refl _)).congr (fun j hj => ?_), fun r hr => ?_⟩
  · exact (Classical.choose_spec (Classical.choose_spec (hv j)) hj).1
  · exact (Classical.choose_spec (Classical.choose_spec (hv r)) hr).2
end Go.Proofs.YtmpamgnbbomoaaaGreat
