/- Plain mathematics, of no program: which of some known polynomials are irreducible, and primitive: reckoned. -/
import Derived.Test.YtomlfmfahlcedaaPow
namespace Go.Proofs.Ytomlfmfahlcedaa.M

theorem primes_of : ∀ (l : List Nat), (∀ x, x ∈ l → 2 ≤ x ∧ ∀ m, m < x → 1 < m → ¬ m ∣ x) → Primes (l.foldr (· * ·) 1) l
  | [], _ => ⟨by simp, fun m hm hd => by have := Nat.le_of_dvd (by decide) hd; simp at this; omega⟩
  | x :: r, h => by
    have ih := primes_of r (fun y hy => h y (by simp [hy]))
    obtain ⟨x2, hx⟩ := h x (by simp)
    rw [List.foldr_cons]
    refine ⟨fun y hy => ?_, fun m hm hd => ?_⟩
    · rcases List.mem_cons.1 hy with rfl | hy
      · exact ⟨x2, Nat.dvd_mul_right _ _⟩
      · exact ⟨(ih.1 y hy).1, Nat.dvd_trans (ih.1 y hy).2 (Nat.dvd_mul_left _ _)⟩
    · by_cases hg : Nat.gcd m x = 1
      · obtain ⟨y, hy, hym⟩ := ih.2 m hm (Nat.Coprime.dvd_of_dvd_mul_left hg hd)
        exact ⟨y, by simp [hy], hym⟩
      · have gq := Nat.gcd_dvd_right m x
        have gm := Nat.gcd_dvd_left m x
        have g0 : 0 < Nat.gcd m x := Nat.gcd_pos_of_pos_left _ (by omega)
        have gl := Nat.le_of_dvd (by omega) gq
        refine ⟨x, by simp, ?_⟩
        rcases Nat.lt_or_ge (Nat.gcd m x) x with h1 | h1
        · exact absurd gq (hx _ h1 (by omega))
        · rwa [show Nat.gcd m x = x by omega] at gm

theorem primes255 : Primes 255 [3, 5, 17] := primes_of [3, 5, 17] (by decide +kernel)
theorem primes65535 : Primes 65535 [3, 5, 17, 257] := primes_of [3, 5, 17, 257] (by decide +kernel)

theorem irr285 : irr 285 = true := by decide +kernel
theorem irr283 : irr 283 = true := by decide +kernel
theorem irr69643 : irr 69643 = true := by decide +kernel

theorem prim285 : Prim 285 := by
  refine (prim_iff (l := [3, 5, 17]) irr285 primes255).2 ⟨?_, ?_⟩
  · rw [pw_fast 2 285 _ 8 (by decide +kernel)]; decide +kernel
  · intro x hx
    rw [pw_fast 2 285 _ 8 (Nat.lt_of_le_of_lt (Nat.div_le_self _ _) (by decide +kernel))]
    revert x
    decide +kernel

theorem prim69643 : Prim 69643 := by
  refine (prim_iff (l := [3, 5, 17, 257]) irr69643 primes65535).2 ⟨?_, ?_⟩
  · rw [pw_fast 2 69643 _ 16 (by decide +kernel)]; decide +kernel
  · intro x hx
    rw [pw_fast 2 69643 _ 16 (Nat.lt_of_le_of_lt (Nat.div_le_self _ _) (by decide +kernel))]
    revert x
    decide +kernel

theorem notPrim283 : ¬ Prim 283 := by
  intro h
  refine h.2.2 51 (by decide +kernel) (by decide +kernel) ?_
  rw [pw_fast 2 283 51 8 (by decide)]
  decide +kernel

end Go.Proofs.Ytomlfmfahlcedaa.M
