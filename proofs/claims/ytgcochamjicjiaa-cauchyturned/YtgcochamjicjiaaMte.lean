/- The contract of package matrix's Mul. -/
import Derived.Test.YtgcochamjicjiaaGxi
import Derived.Deep.AppendLies
namespace Go.Proofs.Ytgcochamjicjiaa
open Go.RowKit Go.Shelf
attribute [local go_sem] Oper.semAt_some

theorem underM : Try.prog.underlying TM = some (.slice TIs) := Try.underlying31

theorem cell_newest (W : World) (v : Value) (t : TypeId) : (W.alloc (.cells #[v] t)).cell? ⟨W.heap.size, 0, none⟩ = some v := (World.rowIs_alloc W #[v] t (fun _ => v) (fun i hi => by
  simp at hi
  subst hi
  rfl)).cell (i := 0) (by simp)

/-- what lies there when the columns begin -/
theorem mid_start {p b wd n k : Nat} {A B : Option Addr} {ca cb : Nat} {F G : Nat → Nat → Int} {w w2 w5 : World} (hf : Fld p b wd w) (hb2 : Below w.heap.size w w2) (hs2 : w2.heap.size = w.heap.size + 2)
    (hx1 : w2.cell? ⟨w.heap.size, 0, none⟩ = some (.pointer (some ⟨b, 0, none⟩))) (hx2 : w2.cell? ⟨w.heap.size + 1, 0, none⟩ = some (.slice A n ca))
    (hw5 : ((w2.alloc (.cells (madeCells #[nilS] n) TIs)).alloc (.cells #[.slice (some ⟨w.heap.size + 2, 0, none⟩) n n] TM)).alloc (.cells #[.slice B k cb] TM) = w5) :
    Mid p b wd n k A B ca cb F G w (fun _ => 0) w5 := by
  have hb5 : Below w2.heap.size w2 w5 := by rw [← hw5]; exact (((Below.refl _ w2).alloc (Nat.le_refl _) _).alloc (by simp) _).alloc (by simp; omega) _
  have hB : Below w.heap.size w w5 := below_tr hb2 hb5
  refine ⟨fun _ => nilS, hf.of_below hB, Turned.of_below hB, by rw [← hw5]; simp [hs2], (hb5.cell (by simp [hs2])).trans hx1, (hb5.cell (by simp [hs2])).trans hx2, ?_, ?_, ?_, fun r _ => World.ownsRow_nil _ _ _ _, fun _ _ _ _ _ => Or.inl rfl⟩
  · rw [← hw5]
    have h := cell_newest (w2.alloc (.cells (madeCells #[nilS] n) TIs)) (.slice (some ⟨w.heap.size + 2, 0, none⟩) n n) TM
    rw [World.size_alloc, hs2] at h
    exact ((below_alloc _ _).cell (World.block_lt_of_cell? _ _ h)).trans h
  · rw [← hw5]
    have h := cell_newest ((w2.alloc (.cells (madeCells #[nilS] n) TIs)).alloc (.cells #[.slice (some ⟨w.heap.size + 2, 0, none⟩) n n] TM)) (.slice B k cb) TM
    rw [World.size_alloc, World.size_alloc, hs2] at h
    exact h
  · rw [← hw5]
    have h := World.rowIs_made w2 nilS n TIs
    rw [hs2] at h
    exact (h.alloc _).alloc _

/-- what Mul tells of two matrices -/
def MulSaid4 (p b wd n k m : Nat) (F G : Nat → Nat → Int) (w : World) (e : Ending) (w' : World) : Prop :=
  ∃ A c, e = .returned (.tuple #[.slice A n c, .int .i64 0]) ∧ Mx b w' (mulF p F G k) (fun _ => m) A n ∧ Fld p b wd w' ∧ Turned b w w'
/-- the same, with room for all rows -/
def MulSaidC (p b wd n k m : Nat) (F G : Nat → Nat → Int) (w : World) (e : Ending) (w' : World) : Prop :=
  ∃ A c, e = .returned (.tuple #[.slice A n c, .int .i64 0]) ∧ n ≤ c ∧ Mx b w' (mulF p F G k) (fun _ => m) A n ∧ Fld p b wd w' ∧ Turned b w w'
/-- the same, as the rows lie in memory: each is the call's own -/
def MulSaidM (p b wd n k m : Nat) (A B : Option Addr) (ca cb : Nat) (F G : Nat → Nat → Int) (w : World) (e : Ending) (w' : World) : Prop :=
  e = .returned (.tuple #[.slice (some ⟨w.heap.size + 2, 0, none⟩) n n, .int .i64 0]) ∧ Mid p b wd n k A B ca cb F G w (fun _ => m) w'

/-- what Mul tells, of any rows -/
def MMulAny (p b wd n k : Nat) (La Lb : Nat → Nat) (F G : Nat → Nat → Int) (w : World) (e : Ending) (w' : World) : Prop :=
  ∃ t A c, e = .returned (.tuple #[.slice A (cond t n 0) c, .int .i64 (errOf t)]) ∧ (t = true ↔ mayP (M.ord p) n La F ∧ mayP (M.ord p) k Lb G ∧ La 0 = k) ∧ Mx b w' (mulF p F G k) (fun _ => Lb 0) A (cond t n 0) ∧ Fld p b wd w' ∧ Turned b w w'
end Go.Proofs.Ytgcochamjicjiaa
