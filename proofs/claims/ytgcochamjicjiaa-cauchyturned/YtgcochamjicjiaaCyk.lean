/- What came in, as it is read: two lists of numbers of 64 bits, a list of numbers of 16 bits. -/
import Derived.Test.YtgcochamjicjiaaMto
namespace Go.Proofs.Ytgcochamjicjiaa
open Go.RowKit Go.ChangeShapes

/-- numbers that came in, with their bounds -/
def IsInts64 (w : World) (a : Option Addr) (len cap : Nat) : Prop := ∃ l : Nat → Int, (∀ j, -9223372036854775808 ≤ l j ∧ l j ≤ 9223372036854775807) ∧ len ≤ cap ∧ ∀ b, w.heap.size ≤ b → Rd b w (i64s l) a len
/-- numbers of 16 bits -/
def u16s (f : Nat → Nat) (j : Nat) : Value := .int .u16 ((f j : Nat) : Int)
def IsWords (w : World) (a : Option Addr) (len cap : Nat) : Prop := ∃ f : Nat → Nat, (∀ j, f j < 65536) ∧ len ≤ cap ∧ ∀ b, w.heap.size ≤ b → Rd b w (u16s f) a len

theorem getD_all {p : Int → Prop} {zs : List Int} (h : ∀ n ∈ zs, p n) (h0 : p 0) (j : Nat) : p (zs.getD j 0) := by
  rw [List.getD_eq_getElem?_getD]
  rcases hj : zs[j]? with _ | x
  · exact h0
  · exact h x (List.mem_of_getElem? hj)

theorem ints64_in {H : Type} {enc : TypeId × Value → H} {W : World} {base : Nat} {held : Bool} {fuel : Nat} {a : Option Addr} {len cap : Nat} {x : DataW H × List MemPlace}
    (h : DataW.trod enc Try.prog W base (fun _ => true) held fuel 22 [.slice a len cap] = some x) : IsInts64 W a len cap := by
  rcases open_ints Try.underlying22 Try.underlying3 (by kernel_rfl) h with ⟨hcs, _⟩ | ⟨ad, l, c, zs, hcs, _, hl, hm, hz, _, hcell, hwz⟩
  · simp at hcs
    obtain ⟨rfl, rfl, rfl⟩ := hcs
    exact ⟨fun _ => 0, fun _ => by dsimp only; omega, Nat.le_refl _, fun _ _ => Rd.zero⟩
  · simp at hcs
    obtain ⟨rfl, rfl, rfl⟩ := hcs
    have := rd_in (k := .i64) (w := W) (a := some ad) (len := len) (cap := cap) (zs := zs) (Or.inr ⟨ad, rfl, hl, hm, by simpa using hz, hcell, hwz⟩)
    exact ⟨fun j => zs.getD j 0, fun j => getD_all (p := fun n => -9223372036854775808 ≤ n ∧ n ≤ 9223372036854775807) (fun n hn => by have := bounds_i64 (hwz n hn); omega) ⟨by decide, by decide⟩ j, this.1, this.2⟩

theorem ints2_in {H : Type} {enc : TypeId × Value → H} {W : World} {base : Nat} {held : Bool} {fuel : Nat} {c0 c1 : Value} {x : DataW H × List MemPlace}
    (h : DataW.trod enc Try.prog W base (fun _ => true) held fuel 23 [c0, c1] = some x) : ∃ a0 l0 k0 a1 l1 k1, c0 = .slice a0 l0 k0 ∧ c1 = .slice a1 l1 k1 ∧ IsInts64 W a0 l0 k0 ∧ IsInts64 W a1 l1 k1 := by
  obtain ⟨m, y0, y1, hy0, hy1⟩ := two_cells Try.underlying23 (by kernel_rfl) h
  have hs : ∀ {c : Value} {y : DataW H × List MemPlace}, DataW.trod enc Try.prog W base (fun _ => true) held m 22 [c] = some y → ∃ a l k, c = .slice a l k ∧ IsInts64 W a l k := fun {c} {y} hy => by
    rcases open_ints Try.underlying22 Try.underlying3 (by kernel_rfl) hy with ⟨hcs, _⟩ | ⟨ad, l, cc, zs, hcs, _⟩
    · simp at hcs
      subst hcs
      exact ⟨_, _, _, rfl, ints64_in hy⟩
    · simp at hcs
      subst hcs
      exact ⟨_, _, _, rfl, ints64_in hy⟩
  obtain ⟨a0, l0, k0, e0, m0⟩ := hs hy0
  obtain ⟨a1, l1, k1, e1, m1⟩ := hs hy1
  exact ⟨a0, l0, k0, a1, l1, k1, e0, e1, m0, m1⟩

theorem words_in {H : Type} {enc : TypeId × Value → H} {W : World} {base : Nat} {held : Bool} {fuel : Nat} {a : Option Addr} {len cap : Nat} {x : DataW H × List MemPlace}
    (h : DataW.trod enc Try.prog W base (fun _ => true) held fuel 49 [.slice a len cap] = some x) : IsWords W a len cap := by
  rcases open_ints Try.underlying49 Try.underlying50 (by kernel_rfl) h with ⟨hcs, _⟩ | ⟨ad, l, c, zs, hcs, _, hl, hm, hz, _, hcell, hwz⟩
  · simp at hcs
    obtain ⟨rfl, rfl, rfl⟩ := hcs
    exact ⟨fun _ => 0, fun _ => by dsimp only; omega, Nat.le_refl _, fun _ _ => Rd.zero⟩
  · simp at hcs
    obtain ⟨rfl, rfl, rfl⟩ := hcs
    have h1 := rd_in (k := .u16) (w := W) (a := some ad) (len := len) (cap := cap) (zs := zs) (Or.inr ⟨ad, rfl, hl, hm, by simpa using hz, hcell, hwz⟩)
    have hr := fun j => getD_all (p := fun n => 0 ≤ n ∧ n ≤ 65535) (fun n hn => by have := bounds_u16 (hwz n hn); omega) ⟨by decide, by decide⟩ j
    refine ⟨fun j => (zs.getD j 0).toNat, fun j => ?_, h1.1, fun b hb => (h1.2 b hb).congr (fun j _ => ?_)⟩
    · have := hr j
      dsimp only
      omega
    · have := hr j
      simp only [u16s]
      congr 1
      omega
end Go.Proofs.Ytgcochamjicjiaa
