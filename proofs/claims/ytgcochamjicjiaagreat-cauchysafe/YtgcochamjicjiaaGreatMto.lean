/- What came in, as it is read: rows of numbers, numbers, bytes. -/
import Derived.Test.YtgcochamjicjiaaGreatGxh
import Derived.Test.YtgcochamjicjiaaGreatArr
import Derived.Deep.Matrix
import Derived.ChangeSlices
namespace Go.Proofs.YtgcochamjicjiaaGreat
open Go.RowKit Go.ChangeShapes

/-- rows of numbers that came in -/
def IsMat (w : World) (a : Option Addr) (len cap : Nat) : Prop := ∃ (F : Nat → Nat → Int) (Ls : Nat → Nat), len ≤ cap ∧ (a = none → cap = 0) ∧ ∀ b, w.heap.size ≤ b → Mx b w F Ls a len
/-- numbers that came in -/
def IsInts (w : World) (a : Option Addr) (len cap : Nat) : Prop := ∃ l : Nat → Int, len ≤ cap ∧ ∀ b, w.heap.size ≤ b → Rd b w (i64s l) a len
/-- bytes that came in -/
def IsBytes (w : World) (a : Option Addr) (len cap : Nat) : Prop := ∃ f : Nat → Nat, (∀ j, f j < 256) ∧ len ≤ cap ∧ ∀ b, w.heap.size ≤ b → Rd b w (u8s f) a len

theorem mat_in {H : Type} {enc : TypeId × Value → H} {W : World} {base : Nat} {held : Bool} {fuel : Nat} {a : Option Addr} {len cap : Nat} {x : DataW H × List MemPlace}
    (h : DataW.trod enc Tryz.prog W base (fun _ => true) held fuel 22 [.slice a len cap] = some x) : IsMat W a len cap := by
  rcases Deep.open_int_rows Tryz.underlying22 Tryz.underlying40 Tryz.underlying3 (by kernel_rfl) (by kernel_rfl) h with ⟨hcs, _⟩ | ⟨ad, len', cap', A, L, C, Z, hcs, _, hl, hm, _, hrows⟩
  · simp at hcs
    obtain ⟨rfl, rfl, rfl⟩ := hcs
    exact ⟨fun _ _ => 0, fun _ => 0, Nat.le_refl _, fun _ => rfl, fun _ _ => Mx.zero⟩
  · simp at hcs
    obtain ⟨rfl, rfl, rfl⟩ := hcs
    refine ⟨fun r j => (Z r).getD j 0, L, hl, fun h => (by cases h), fun b hb => ⟨A, C, fun hn => ⟨ad, rfl, ?_, ?_, fun j hj => (hrows j (by omega)).1⟩, fun r hr hn => ?_⟩⟩
    · have := lt_of_cell (hrows 0 (by omega)).1
      rw [block_of_add] at this
      omega
    · have := lt_of_cell (hrows 0 (by omega)).1
      rwa [block_of_add] at this
    · obtain ⟨_, h2, _, h4, _, h6, h7⟩ := hrows r (by omega)
      rcases hA : A r with _ | a'
      · have := h6 hA
        omega
      · have hc := (h7 a' hA).2
        have hlt := lt_of_cell (hc 0 (by omega))
        rw [block_of_add] at hlt
        exact ⟨a', rfl, by omega, hlt, fun j hj => hc j (by omega)⟩

theorem ints_in {H : Type} {enc : TypeId × Value → H} {W : World} {base : Nat} {held : Bool} {fuel : Nat} {a : Option Addr} {len cap : Nat} {x : DataW H × List MemPlace}
    (h : DataW.trod enc Tryz.prog W base (fun _ => true) held fuel 40 [.slice a len cap] = some x) : IsInts W a len cap := by
  rcases open_ints Tryz.underlying40 Tryz.underlying3 (by kernel_rfl) h with ⟨hcs, _⟩ | ⟨ad, l, c, zs, hcs, _, hl, hm, hz, _, hcell, hwz⟩
  · simp at hcs
    obtain ⟨rfl, rfl, rfl⟩ := hcs
    exact ⟨fun _ => 0, Nat.le_refl _, fun _ _ => Rd.zero⟩
  · simp at hcs
    obtain ⟨rfl, rfl, rfl⟩ := hcs
    have := rd_in (k := .i64) (w := W) (a := some ad) (len := len) (cap := cap) (zs := zs) (Or.inr ⟨ad, rfl, hl, hm, by simpa using hz, hcell, hwz⟩)
    exact ⟨fun j => zs.getD j 0, this.1, this.2⟩
end Go.Proofs.YtgcochamjicjiaaGreat
