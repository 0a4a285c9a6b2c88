/- Plain mathematics, of no program: trial division, step by step. -/
import Derived.Test.YtomlfmfahlcedaaPow
namespace Go.Proofs.Ytomlfmfahlcedaa.M

/-- where trial division of n0 stands: n is left, q is next, l was found -/
structure PrimInv (n0 n q : Nat) (l : List Nat) : Prop where
  pos : 1 ≤ n
  dvd : n ∣ n0
  two : 2 ≤ q
  least : ∀ m, 1 < m → m ∣ n → q ≤ m
  mem : ∀ x, x ∈ l → 2 ≤ x ∧ x ∣ n0
  all : ∀ m, 1 < m → m ∣ n0 → (∃ x, x ∈ l ∧ x ∣ m) ∨ m ∣ n
  len : l.length + 2 ≤ q

/-- the same while q is divided away -/
structure InnerInv (n0 n q : Nat) (l : List Nat) : Prop where
  pos : 1 ≤ n
  dvd : n ∣ n0
  two : 2 ≤ q
  least : ∀ m, 1 < m → m ∣ n → q ≤ m
  mem : ∀ x, x ∈ l → 2 ≤ x ∧ x ∣ n0
  has : q ∈ l
  least' : ∀ m, 1 < m → m ∣ q → q ≤ m
  all : ∀ m, 1 < m → m ∣ n0 → (∃ x, x ∈ l ∧ x ∣ m) ∨ m ∣ n
  len : l.length + 1 ≤ q

theorem PrimInv.start {n0 : Nat} (h : 1 ≤ n0) : PrimInv n0 n0 2 [] where
  pos := h
  dvd := Nat.dvd_refl _
  two := Nat.le_refl _
  least := fun m hm _ => hm
  mem := by simp
  all := fun m _ h => .inr h
  len := by simp

theorem PrimInv.skip {n0 n q : Nat} {l : List Nat} (h : PrimInv n0 n q l) (hq : n % q ≠ 0) : PrimInv n0 n (q + 1) l where
  pos := h.pos
  dvd := h.dvd
  two := by have := h.two; omega
  least := fun m hm hd => by
    have h1 := h.least m hm hd
    rcases Nat.lt_or_ge q m with h2 | h2
    · exact h2
    · obtain rfl : m = q := by omega
      exact absurd (Nat.mod_eq_zero_of_dvd hd) hq
  mem := h.mem
  all := h.all
  len := by have := h.len; omega

theorem PrimInv.inner {n0 n q : Nat} {l : List Nat} (h : PrimInv n0 n q l) (hq : n % q = 0) : InnerInv n0 n q (l ++ [q]) where
  pos := h.pos
  dvd := h.dvd
  two := h.two
  least := h.least
  mem := fun x hx => by
    rcases List.mem_append.1 hx with h1 | h1
    · exact h.mem x h1
    · obtain rfl : x = q := by simpa using h1
      exact ⟨h.two, Nat.dvd_trans (Nat.dvd_of_mod_eq_zero hq) h.dvd⟩
  has := by simp
  least' := fun m hm hd => h.least m hm (Nat.dvd_trans hd (Nat.dvd_of_mod_eq_zero hq))
  all := fun m hm hd => by
    rcases h.all m hm hd with ⟨x, h1, h2⟩ | h1
    · exact .inl ⟨x, by simp [h1], h2⟩
    · exact .inr h1
  len := by have := h.len; simp; omega

theorem InnerInv.step {n0 n q : Nat} {l : List Nat} (h : InnerInv n0 n q l) (hq : n % q = 0) : InnerInv n0 (n / q) q l := by
  have qn := Nat.dvd_of_mod_eq_zero hq
  have q2 := h.two
  have hd : n / q ∣ n := Nat.div_dvd_of_dvd qn
  exact {
    pos := Nat.div_pos (Nat.le_of_dvd h.pos qn) (by omega)
    dvd := Nat.dvd_trans hd h.dvd
    two := h.two
    least := fun m hm hx => h.least m hm (Nat.dvd_trans hx hd)
    mem := h.mem
    has := h.has
    least' := h.least'
    all := fun m hm hx => by
      rcases h.all m hm hx with h1 | h1
      · exact .inl h1
      · by_cases hg : Nat.gcd m q = 1
        · refine .inr (Nat.Coprime.dvd_of_dvd_mul_left (k := m) (m := q) hg ?_)
          rwa [Nat.mul_div_cancel' qn]
        · refine .inl ⟨q, h.has, ?_⟩
          have gq := Nat.gcd_dvd_right m q
          have gm := Nat.gcd_dvd_left m q
          have g0 : 0 < Nat.gcd m q := Nat.gcd_pos_of_pos_left _ (by omega)
          have := h.least' _ (by omega) gq
          have := Nat.le_of_dvd (by omega) gq
          rwa [show Nat.gcd m q = q by omega] at gm
    len := h.len }

theorem InnerInv.done {n0 n q : Nat} {l : List Nat} (h : InnerInv n0 n q l) (hq : n % q ≠ 0) : PrimInv n0 n (q + 1) l where
  pos := h.pos
  dvd := h.dvd
  two := by have := h.two; omega
  least := fun m hm hd => by
    have h1 := h.least m hm hd
    rcases Nat.lt_or_ge q m with h2 | h2
    · exact h2
    · obtain rfl : m = q := by omega
      exact absurd (Nat.mod_eq_zero_of_dvd hd) hq
  mem := h.mem
  all := h.all
  len := by have := h.len; omega

theorem PrimInv.primes {n0 n q : Nat} {l : List Nat} (h : PrimInv n0 n q l) (hq : n < q) : Primes n0 l := by
  refine ⟨h.mem, fun m hm hd => ?_⟩
  rcases h.all m hm hd with h1 | h1
  · exact h1
  · have := h.least m hm h1
    have := Nat.le_of_dvd h.pos h1
    omega

end Go.Proofs.Ytomlfmfahlcedaa.M
