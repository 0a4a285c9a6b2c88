/- The contracts of package cauchy: moveOn, haveInverse. A law of a range over a function whose body may return; the contracts of package cauchy's choices and haveInverse. The contract of package cauchy's Safe. -/
import Derived.Test.YtgdgimknnjbieaaGreatDoorGxs
import Derived.Laws.CopyRow
import Derived.Deep.RegionLaw
import Derived.Test.YtgdgimknnjbieaaGreatDoorRfh
import Derived.Deep.Cut
import Derived.Deep.CutRange

namespace Go.Proofs.YtgdgimknnjbieaaGreatDoor
open Go.RowKit

/-- a row is written over from place off on -/
def over (off : Nat) (f h : Nat → Value) (j : Nat) : Value := if j < off then f j else h (j - off)
end Go.Proofs.YtgdgimknnjbieaaGreatDoor

namespace Go.Proofs.YtgdgimknnjbieaaGreatDoor
open Go.RowKit Go.Shelf
attribute [local go_sem] Oper.semAt_some

/-- a block that an iterator may write, or the law itself: an int's row, or no cells at all -/
def SoftAt (A : World) (k : Nat) : Prop := ∃ o, A.heap[k]? = some o ∧ (o.isCells = false ∨ ∃ cs fr, o = .cells cs TI fr)
/-- nothing has turned but, from block B on, blocks that may -/
structure Soft (B : Nat) (A A' : World) : Prop where
  low : Below 0 A A'
  block : ∀ k, k < A.heap.size → A'.heap[k]? = A.heap[k]? ∨ (B ≤ k ∧ SoftAt A k)
theorem Soft.at_ {B : Nat} {A A' : World} (h : Soft B A A') {k : Nat} (hk : k < B) (hs : k < A.heap.size) : A'.heap[k]? = A.heap[k]? := by
  rcases h.block k hs with e | e
  · exact e
  · omega
theorem Soft.of_below {B : Nat} {A A' : World} (h : Below A.heap.size A A') : Soft B A A' := ⟨h.mono (Nat.zero_le _), fun k hk => Or.inl (h.block k hk)⟩
theorem Soft.put {B r : Nat} {A : World} {o : Obj} (hr : B ≤ r) (ho : A.heap[r]? = some o) (hc : o.isCells = false) (o' : Obj) : Soft B A (A.putObj r o') := ⟨⟨rfl, rfl, rfl, by simp, fun _ hk => absurd hk (by omega)⟩, fun q _ => by
  by_cases e : q = r
  · subst e
    exact Or.inr ⟨hr, _, ho, Or.inl hc⟩
  · exact Or.inl (World.putObj_heap_other e)⟩
theorem Soft.mono {B B' : Nat} {A A' : World} (h : Soft B A A') (hb : B' ≤ B) : Soft B' A A' := ⟨h.low, fun k hk => (h.block k hk).imp id (fun e => ⟨by omega, e.2⟩)⟩
theorem Soft.row {B : Nat} {A A' : World} (h : Soft B A A') {g t n : Nat} {f : Nat → Value} (hr : A.rowIs g t n f) (ht : t ≠ TI) : A'.rowIs g t n f := by
  rcases h.block g hr.lt with e | ⟨_, o, ho, hc⟩
  · exact hr.of_block e
  · obtain ⟨c, h1, _⟩ := hr
    rw [h1] at ho
    injection ho with ho
    subst ho
    rcases hc with hc | ⟨cs, fr, hc⟩
    · cases hc
    · injection hc with _ e
      exact absurd e ht
theorem Soft.fld {B p b wd : Nat} {A A' : World} (h : Soft B A A') (hf : Fld p b wd A) : Fld p b wd A' := by
  refine ⟨hf.1, ?_⟩
  rcases hf.2 with hr | ⟨g, l, g1, g2, h1, h2, h3⟩
  · exact Or.inl (h.row (show A.rowIs b TF 7 _ from hr) (by decide))
  · exact Or.inr ⟨g, l, g1, g2, h.row h1 (by decide), h.row h2 (by decide), h.row h3 (by decide)⟩
theorem Soft.turned {B b : Nat} {w A A' : World} (h : Soft B A A') (ht : Turned b w A) (hB : w.heap.size ≤ B) : Turned b w A' :=
  ⟨h.low.os.trans ht.os, h.low.tape.trans ht.tape, h.low.output.trans ht.output, Nat.le_trans ht.size h.low.size, fun k hk hb => (h.at_ (Nat.lt_of_lt_of_le hk hB) (Nat.lt_of_lt_of_le hk ht.size)).trans (ht.block k hk hb)⟩
theorem Rd.put {b r : Nat} {W : World} {o o' : Obj} {K : Nat → Value} {A : Option Addr} {n : Nat} (h : Rd b W K A n) (ho : W.heap[r]? = some o) (hc : o.isCells = false) : Rd b (W.putObj r o') K A n := fun hn => by
  obtain ⟨ad, h1, h2, h3, h4⟩ := h hn
  have hne : ad.block ≠ r := fun e => by
    have h5 := h4 0 hn
    rw [show ad.add 0 = ad by simp [Addr.add]] at h5
    subst e
    unfold World.cell? at h5
    rw [ho] at h5
    cases o <;> simp_all [Obj.isCells]
  exact ⟨ad, h1, h2, by simpa using h3, fun j hj => by
    rw [← h4 j hj]
    have hb : (ad.add j).block = ad.block := block_of_add ad j
    unfold World.cell?
    rw [hb, World.putObj_heap_other hne]⟩

/-- what the choices are told from -/
def ChT (bc br k N : Nat) (W : World) : Prop := W.cell? ⟨bc, 0, none⟩ = some (.int .i64 k) ∧ W.cell? ⟨br, 0, none⟩ = some (.int .i64 N)
end Go.Proofs.YtgdgimknnjbieaaGreatDoor

namespace Go.Proofs.YtgdgimknnjbieaaGreatDoor
open Go.RowKit Go.Shelf
attribute [local go_sem] Oper.semAt_some

/-- what Safe asks -/
def safeP (c m : Nat) (Ls : Nat → Nat) (F : Nat → Nat → Int) : Prop := mayP c m Ls F ∧ m ≤ 5 ∧ Ls 0 ≤ 8

theorem Rd.fresh {b : Nat} {W : World} {K : Nat → Value} {A : Option Addr} {n : Nat} (h : Rd b W K A n) : Rd W.heap.size W K A n := fun hn => by
  obtain ⟨ad, h1, _, h3, h4⟩ := h hn
  exact ⟨ad, h1, by omega, h3, h4⟩
theorem Mx.fresh {b : Nat} {W : World} {F : Nat → Nat → Int} {Ls : Nat → Nat} {A : Option Addr} {n : Nat} (h : Mx b W F Ls A n) : Mx W.heap.size W F Ls A n := by
  obtain ⟨As, Cs, h1, h2⟩ := h
  exact ⟨As, Cs, h1.fresh, fun r hr => (h2 r hr).fresh⟩

/-- while the choices go on -/
def SafI (q : FP) (b wd : Nat) (w6 W : World) : Prop := Fld q.p b wd W ∧ Turned b w6 W
theorem SafI.soft {q : FP} {b wd : Nat} {w6 X Y : World} (h : SafI q b wd w6 X) (hb : Soft w6.heap.size X Y) : SafI q b wd w6 Y := ⟨hb.fld h.1, hb.turned h.2 (Nat.le_refl _)⟩
theorem SafI.told {q : FP} {b wd bc br k N : Nat} {w6 W : World} (h : SafI q b wd w6 W) (h1 : w6.cell? ⟨br, 0, none⟩ = some (.int .i64 (N : Int))) (h2 : w6.cell? ⟨bc, 0, none⟩ = some (.int .i64 (k : Int))) (hb : b ≠ br ∧ b ≠ bc) : ChT bc br k N W :=
  ⟨(h.2.cell (q := ⟨bc, 0, none⟩) (lt_of_cell h2) (fun e => hb.2 e.symm)).trans h2, (h.2.cell (q := ⟨br, 0, none⟩) (lt_of_cell h1) (fun e => hb.1 e.symm)).trans h1⟩
/-- a choice has been found that has no inverse -/
def SafX (q : FP) (b wd k m : Nat) (F : Nat → Nat → Int) (w W : World) : Prop :=
  Fld q.p b wd W ∧ Turned b w W ∧ W.cell? ⟨w.heap.size + 1, 0, none⟩ = some (.bool false) ∧ W.cell? ⟨w.heap.size + 1 + 1, 0, none⟩ = some (.int .i64 0) ∧ ¬ SafeP q k m (elM q F)
theorem SafX.soft {q : FP} {b wd k m B : Nat} {F : Nat → Nat → Int} {w X Y : World} (h : SafX q b wd k m F w X) (hb : Soft B X Y) (hB : w.heap.size ≤ B) (h4 : w.heap.size + 1 < B) (h5 : w.heap.size + 1 + 1 < B) : SafX q b wd k m F w Y := by
  obtain ⟨h1, h2, h3, h6, h7⟩ := h
  exact ⟨hb.fld h1, hb.turned h2 hB, (World.cell?_of_block (hb.at_ h4 (lt_of_cell h3))).trans h3, (World.cell?_of_block (hb.at_ h5 (lt_of_cell h6))).trans h6, h7⟩
end Go.Proofs.YtgdgimknnjbieaaGreatDoor
