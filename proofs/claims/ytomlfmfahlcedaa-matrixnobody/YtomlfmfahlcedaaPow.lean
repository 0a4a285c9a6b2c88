/- Plain mathematics, of no program: powers modulo a polynomial; when a number's powers come back to 1. -/
import Derived.Test.YtomlfmfahlcedaaMath
namespace Go.Proofs.Ytomlfmfahlcedaa.M

def pw (a p : Nat) : Nat → Nat
  | 0 => md 1 p
  | n + 1 => md (mul (pw a p n) a) p

theorem pw_md (a p n : Nat) : md (pw a p n) p = pw a p n := by
  cases n <;> simp [pw, md_md]

theorem pw_add (a p m : Nat) : ∀ n, pw a p (m + n) = md (mul (pw a p m) (pw a p n)) p
  | 0 => by rw [pw, md_mulR, mul_one, pw_md, Nat.add_zero]
  | n + 1 => by
    rw [← Nat.add_assoc, pw, pw_add a p m n, md_mulL, mul_assoc, pw, md_mulR]

theorem pw_double (a p n : Nat) : pw a p (2 * n) = md (mul (pw a p n) (pw a p n)) p := by
  rw [show 2 * n = n + n by omega, pw_add]

theorem pw_one_mul {a p m : Nat} (h : pw a p m = md 1 p) : ∀ t, pw a p (m * t) = md 1 p
  | 0 => rfl
  | t + 1 => by rw [Nat.mul_succ, pw_add, pw_one_mul h t, h, md_mulL, md_mulR, mul_one]

/-- the power whose exponent is the upper bits of n: one bit more -/
theorem pw_shift {a p n m i : Nat} (hi : i < m) :
    pw a p (n >>> (m - (i + 1))) = if n.testBit (m - 1 - i) then md (mul (md (mul (pw a p (n >>> (m - i))) (pw a p (n >>> (m - i)))) p) a) p else md (mul (pw a p (n >>> (m - i))) (pw a p (n >>> (m - i)))) p := by
  obtain ⟨j, hj⟩ : ∃ j, m - (i + 1) = j := ⟨_, rfl⟩
  have e1 : m - i = j + 1 := by omega
  have e2 : m - 1 - i = j := by omega
  rw [hj, e1, e2, ← pw_double]
  have hd : n >>> (j + 1) = n >>> j / 2 := by rw [Nat.shiftRight_succ]
  have hb : n.testBit j = decide (n >>> j % 2 = 1) := by rw [Nat.testBit_eq_decide_div_mod_eq, Nat.shiftRight_eq_div_pow]
  rw [hd, hb]
  generalize n >>> j = x
  by_cases h : x % 2 = 1
  · rw [if_pos (by simpa using h)]
    show _ = pw a p (2 * (x / 2) + 1)
    rw [show 2 * (x / 2) + 1 = x by omega]
  · rw [if_neg (by simpa using h), show 2 * (x / 2) = x by omega]

/-- the same power, by squares: for reckoning -/
def pwTop (a p n m : Nat) : Nat → Nat
  | 0 => md 1 p
  | i + 1 => (fun r => (fun s => if n.testBit (m - 1 - i) then md (mul s a) p else s) (md (mul r r) p)) (pwTop a p n m i)

theorem pwTop_eq (a p n m : Nat) (hn : n < 2 ^ m) : ∀ i, i ≤ m → pwTop a p n m i = pw a p (n >>> (m - i))
  | 0, _ => by
    rw [Nat.sub_zero, Nat.shiftRight_eq_div_pow, Nat.div_eq_of_lt hn]; rfl
  | i + 1, h => by
    rw [pw_shift (by omega), pwTop, pwTop_eq a p n m hn i (by omega)]

theorem pw_fast (a p n m : Nat) (hn : n < 2 ^ m) : pw a p n = pwTop a p n m m := by
  rw [pwTop_eq a p n m hn m (Nat.le_refl _)]; simp

/-! ### primitive polynomials -/

/-- x's powers come back to 1 behind all others alone -/
def Prim (p : Nat) : Prop := irr p = true ∧ pw 2 p (2 ^ (blen p - 1) - 1) = 1 ∧ ∀ d, d ∣ 2 ^ (blen p - 1) - 1 → d < 2 ^ (blen p - 1) - 1 → pw 2 p d ≠ 1

/-- a list of divisors of n, of which each divisor of n that is more than 1 has one -/
def Primes (n : Nat) (l : List Nat) : Prop := (∀ x, x ∈ l → 2 ≤ x ∧ x ∣ n) ∧ ∀ m, 1 < m → m ∣ n → ∃ x, x ∈ l ∧ x ∣ m

theorem irr_blen {p : Nat} (h : irr p = true) : 2 ≤ blen p ∧ blen p ≤ 17 := by
  unfold irr at h
  simp at h
  exact h.1

theorem md_one {p : Nat} (h : 2 ≤ blen p) : md 1 p = 1 := by
  have hp : p ≠ 0 := by rintro rfl; rw [blen_zero] at h; omega
  apply md_small hp
  have : 2 ^ 1 ≤ 2 ^ (blen p - 1) := Nat.pow_le_pow_right (by decide) (by omega)
  omega

theorem count_pos {p : Nat} (h : 2 ≤ blen p) : 0 < 2 ^ (blen p - 1) - 1 := by
  have : 2 ^ 1 ≤ 2 ^ (blen p - 1) := Nat.pow_le_pow_right (by decide) (by omega)
  omega

/-- Prim, by a list of primes -/
theorem prim_iff {p : Nat} {l : List Nat} (hi : irr p = true) (hl : Primes (2 ^ (blen p - 1) - 1) l) :
    Prim p ↔ pw 2 p (2 ^ (blen p - 1) - 1) = 1 ∧ ∀ x, x ∈ l → pw 2 p ((2 ^ (blen p - 1) - 1) / x) ≠ 1 := by
  have hb := irr_blen hi
  have h1 := md_one hb.1
  have hc := count_pos hb.1
  unfold Prim
  generalize 2 ^ (blen p - 1) - 1 = c at *
  constructor
  · rintro ⟨_, ha, hd⟩
    refine ⟨ha, fun x hx => ?_⟩
    obtain ⟨x2, xc⟩ := hl.1 x hx
    exact hd _ (Nat.div_dvd_of_dvd xc) (Nat.div_lt_self hc x2)
  · rintro ⟨ha, hd⟩
    refine ⟨hi, ha, fun d dc dl h => ?_⟩
    obtain ⟨m, rfl⟩ := dc
    have hm : 1 < m := by
      rcases Nat.lt_or_ge 1 m with h | h
      · exact h
      · exfalso
        have : m = 0 ∨ m = 1 := by omega
        rcases this with rfl | rfl <;> omega
    obtain ⟨x, hx, t, rfl⟩ := hl.2 m hm (Nat.dvd_mul_left _ _)
    refine hd x hx ?_
    have x2 := (hl.1 x hx).1
    rw [show d * (x * t) = x * (d * t) by rw [Nat.mul_left_comm], Nat.mul_div_cancel_left _ (by omega)]
    rw [pw_one_mul (h.trans h1.symm), h1]

end Go.Proofs.Ytomlfmfahlcedaa.M
