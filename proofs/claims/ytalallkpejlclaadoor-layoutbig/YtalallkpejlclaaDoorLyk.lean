/- What came in, as it is read: bytes, and rows of bytes, with what nil ones are. -/
import Derived.Test.YtalallkpejlclaaDoorBsa
import Derived.Deep.Matrix
import Derived.ChangeSlices
namespace Go.Proofs.YtalallkpejlclaaDoor
open Go.RowKit Go.ChangeShapes

/-- bytes that came in: nil ones have no room -/
def IsBytesN (w : World) (a : Option Addr) (len cap : Nat) : Prop := ∃ f : Nat → Nat, (∀ j, f j < 256) ∧ len ≤ cap ∧ (a = none → cap = 0) ∧ ∀ b, w.heap.size ≤ b → Rd b w (u8s f) a len
/-- rows of bytes that came in -/
def IsRowsN (w : World) (a : Option Addr) (len cap : Nat) : Prop :=
  ∃ (As : Nat → Option Addr) (Ls Cs : Nat → Nat) (F : Nat → Nat → Nat), (∀ r j, F r j < 256) ∧ len ≤ cap ∧ (∀ r, r < len → As r = none → Cs r = 0) ∧ (∀ b, w.heap.size ≤ b → Rd b w (slis As Ls Cs) a len) ∧ ∀ r, r < len → ∀ b, w.heap.size ≤ b → Rd b w (u8s (F r)) (As r) (Ls r)

theorem bytesn_in {H : Type} {enc : TypeId × Value → H} {W : World} {base : Nat} {held : Bool} {fuel : Nat} {a : Option Addr} {len cap : Nat} {x : DataW H × List MemPlace}
    (h : DataW.trod enc Tryd.prog W base (fun _ => true) held fuel 24 [.slice a len cap] = some x) : IsBytesN W a len cap := by
  have h2 := bytes_in h
  obtain ⟨f, hf, hl, hr⟩ := h2
  refine ⟨f, hf, hl, fun ha => ?_, hr⟩
  rcases open_ints Tryd.underlying24 Tryd.underlying5 (by kernel_rfl) h with ⟨hcs, _⟩ | ⟨ad, l, c, zs, hcs, _⟩
  · simp at hcs
    exact hcs.2.2
  · simp at hcs
    rw [hcs.1] at ha
    cases ha

theorem rowsn_in {H : Type} {enc : TypeId × Value → H} {W : World} {base : Nat} {held : Bool} {fuel : Nat} {a : Option Addr} {len cap : Nat} {x : DataW H × List MemPlace}
    (h : DataW.trod enc Tryd.prog W base (fun _ => true) held fuel 31 [.slice a len cap] = some x) : IsRowsN W a len cap := by
  rcases Deep.open_int_rows Tryd.underlying31 Tryd.underlying24 Tryd.underlying5 (by kernel_rfl) (by kernel_rfl) h with ⟨hcs, _⟩ | ⟨ad, len', cap', A, L, C, Z, hcs, _, hl, hm, _, hrows⟩
  · simp at hcs
    obtain ⟨rfl, rfl, rfl⟩ := hcs
    exact ⟨fun _ => none, fun _ => 0, fun _ => 0, fun _ _ => 0, fun _ _ => Nat.zero_lt_succ _, Nat.le_refl _, fun r hr => absurd hr (by omega), fun _ _ => Rd.zero, fun r hr => absurd hr (by omega)⟩
  · simp at hcs
    obtain ⟨rfl, rfl, rfl⟩ := hcs
    refine ⟨A, L, C, fun r j => ((Z r).getD j 0).toNat % 256, fun r j => Nat.mod_lt _ (by omega), hl, fun r hr => (hrows r (by omega)).2.2.2.2.2.1, fun b hb hn => ⟨ad, rfl, ?_, ?_, fun j hj => (hrows j (by omega)).1⟩, fun r hr b hb hn => ?_⟩
    · have := lt_of_cell (hrows 0 (by omega)).1
      rw [block_of_add] at this
      omega
    · have := lt_of_cell (hrows 0 (by omega)).1
      rwa [block_of_add] at this
    · obtain ⟨_, h2, _, h3, h4, h5, h6⟩ := hrows r (by omega)
      rcases hA : A r with _ | a'
      · have := h5 hA
        omega
      · have hc := (h6 a' hA).2
        have hlt := lt_of_cell (hc 0 (by omega))
        rw [block_of_add] at hlt
        refine ⟨a', rfl, by omega, hlt, fun j hj => ?_⟩
        rw [hc j (by omega)]
        have := range_u8 h4 j
        simp only [u8s, List.getD_eq_getElem?_getD]
        congr 2
        omega
end Go.Proofs.YtalallkpejlclaaDoor
