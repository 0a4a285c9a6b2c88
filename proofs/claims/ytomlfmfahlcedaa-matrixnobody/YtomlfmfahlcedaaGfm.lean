/- Plain mathematics, of no program: of a primitive polynomial the powers of x are all numbers but 0; which power a number is; inverses. -/
import Derived.Test.YtomlfmfahlcedaaField
import Derived.Test.YtomlfmfahlcedaaFacts
namespace Go.Proofs.Ytomlfmfahlcedaa.M

/-- how many numbers but 0 there are -/
def ord (p : Nat) : Nat := 2 ^ (blen p - 1) - 1

theorem prim_irr {p : Nat} (h : Prim p) : irr p = true := h.1
theorem prim_pow {p : Nat} (h : Prim p) : pw 2 p (ord p) = 1 := h.2.1
theorem ord_pos {p : Nat} (h : irr p = true) : 0 < ord p := count_pos (irr_blen h).1
theorem ord_succ {p : Nat} (h : irr p = true) : ord p + 1 = 2 ^ (blen p - 1) := by
  have := ord_pos h
  unfold ord at *
  omega

/-- the least number from 1 to n for which Q holds -/
theorem least (Q : Nat → Prop) : ∀ n, 1 ≤ n → Q n → ∃ m, 1 ≤ m ∧ m ≤ n ∧ Q m ∧ ∀ k, 1 ≤ k → k < m → ¬ Q k := by
  intro n
  induction n using Nat.strongRecOn with
  | _ n ih =>
    intro h1 hq
    by_cases h : ∃ k, 1 ≤ k ∧ k < n ∧ Q k
    · obtain ⟨k, k1, k2, k3⟩ := h
      obtain ⟨m, m1, m2, m3, m4⟩ := ih k k2 k1 k3
      exact ⟨m, m1, by omega, m3, m4⟩
    · exact ⟨n, h1, Nat.le_refl _, hq, fun k k1 k2 hk => h ⟨k, k1, k2, hk⟩⟩

theorem prim_ne {p : Nat} (h : Prim p) {m : Nat} (m1 : 1 ≤ m) (m2 : m < ord p) : pw 2 p m ≠ 1 := by
  obtain ⟨n, n1, n2, n3, n4⟩ := least (fun k => pw 2 p k = 1) (ord p) (ord_pos h.1) (prim_pow h)
  have := (prim_first h.1 n1 n3 (fun k k1 k2 => n4 k k1 k2)).2 h
  exact n4 m m1 (by unfold ord at m2; omega)

theorem pw_range {p : Nat} (h : Prim p) (n : Nat) : 1 ≤ pw 2 p n ∧ pw 2 p n ≤ ord p := by
  have h1 := pw_ne h.1 (prim_two_ne h) n
  have h2 := md_lt (irr_ne h.1) (pw 2 p n)
  rw [pw_md] at h2
  unfold ord
  omega

theorem pw_inj {p : Nat} (h : Prim p) {i j : Nat} (hij : i < j) (hj : j < ord p) : pw 2 p i ≠ pw 2 p j := by
  intro he
  refine prim_ne h (m := j - i) (by omega) (by omega) (pw_cancel h.1 (prim_two_ne h) i (j - i) ?_)
  rw [show i + (j - i) = j by omega, he]

theorem pw_onto {p : Nat} (h : Prim p) {a : Nat} (a1 : 1 ≤ a) (a2 : a ≤ ord p) : ∃ n, n < ord p ∧ pw 2 p n = a := by
  by_cases he : ∃ n, n < ord p ∧ pw 2 p n = a
  · exact he
  · exfalso
    have hp := pigeon (ord p) (ord p + 1) (fun i => if i < ord p then pw 2 p i else a) (fun i hi => by
        split
        · exact pw_range h i
        · exact ⟨a1, a2⟩) (fun i j hij hj => by
        rw [if_pos (show i < ord p by omega)]
        split
        · exact pw_inj h hij ‹_›
        · exact fun e => he ⟨i, by omega, e⟩)
    omega

/-- which of the first k powers a is -/
def lgTo (p a : Nat) : Nat → Nat
  | 0 => 0
  | k + 1 => if pw 2 p k = a then k else lgTo p a k
def lg (p a : Nat) : Nat := lgTo p a (ord p)

theorem lgTo_le (p a : Nat) : ∀ k, lgTo p a k ≤ k
  | 0 => Nat.le_refl _
  | k + 1 => by
    have := lgTo_le p a k
    unfold lgTo
    split <;> omega

theorem lgTo_spec (p a : Nat) : ∀ k, (∃ n, n < k ∧ pw 2 p n = a) → lgTo p a k < k ∧ pw 2 p (lgTo p a k) = a
  | 0, ⟨n, hn, _⟩ => absurd hn (by omega)
  | k + 1, ⟨n, hn, he⟩ => by
    unfold lgTo
    split
    · exact ⟨by omega, ‹_›⟩
    · have : n ≠ k := fun e => by subst e; exact absurd he ‹_›
      have := lgTo_spec p a k ⟨n, by omega, he⟩
      exact ⟨by omega, this.2⟩

theorem lg_spec {p : Nat} (h : Prim p) {a : Nat} (a1 : 1 ≤ a) (a2 : a ≤ ord p) : lg p a < ord p ∧ pw 2 p (lg p a) = a := lgTo_spec p a _ (pw_onto h a1 a2)

theorem lg_pw {p : Nat} (h : Prim p) {n : Nat} (hn : n < ord p) : lg p (pw 2 p n) = n := by
  have r := pw_range h n
  obtain ⟨h1, h2⟩ := lg_spec h r.1 r.2
  rcases Nat.lt_trichotomy (lg p (pw 2 p n)) n with hl | hl | hl
  · exact absurd h2 (pw_inj h hl hn)
  · exact hl
  · exact absurd h2.symm (pw_inj h hl h1)

theorem pw_modord {p : Nat} (h : Prim p) (m : Nat) : pw 2 p (m % ord p) = pw 2 p m := pw_mod (irr_blen h.1).1 (prim_pow h) m

theorem lg_pw_mod {p : Nat} (h : Prim p) (n : Nat) : lg p (pw 2 p n) = n % ord p := by
  rw [← pw_modord h, lg_pw h (Nat.mod_lt _ (ord_pos h.1))]

/-- a power of a power -/
theorem pw_pw (a p m : Nat) : ∀ n, pw (pw a p m) p n = pw a p (m * n)
  | 0 => by simp [pw]
  | n + 1 => by rw [pw, pw_pw a p m n, Nat.mul_succ, pw_add]

theorem pw_succ_zero (p n : Nat) : pw 0 p (n + 1) = 0 := by rw [pw, mul_zero, md_zero]

/-- a product is the power of both together -/
theorem mul_lg {p : Nat} (h : Prim p) {a b : Nat} (a1 : 1 ≤ a) (a2 : a ≤ ord p) (b1 : 1 ≤ b) (b2 : b ≤ ord p) : md (mul a b) p = pw 2 p (lg p a + lg p b) := by
  rw [pw_add, (lg_spec h a1 a2).2, (lg_spec h b1 b2).2]

theorem pw_lg {p : Nat} (h : Prim p) {a : Nat} (a1 : 1 ≤ a) (a2 : a ≤ ord p) (n : Nat) : pw a p n = pw 2 p (lg p a * n) := by
  have := pw_pw 2 p (lg p a) n
  rw [(lg_spec h a1 a2).2] at this
  exact this

theorem fermat2 {p : Nat} (h : Prim p) {a : Nat} (a1 : 1 ≤ a) (a2 : a ≤ ord p) : pw a p (ord p) = 1 := by
  rw [pw_lg h a1 a2, ← pw_modord h, Nat.mul_mod_left]
  exact md_one (irr_blen h.1).1

/-- the inverse -/
def inv (p a : Nat) : Nat := pw a p (ord p - 1)

theorem mul_inv {p : Nat} (h : Prim p) {a : Nat} (a1 : 1 ≤ a) (a2 : a ≤ ord p) : md (mul a (inv p a)) p = 1 := by
  have := fermat2 h a1 a2
  rw [show ord p = (ord p - 1) + 1 by have := ord_pos h.1; omega, pw, mul_comm] at this
  exact this

theorem pw_le {p : Nat} (h : irr p = true) (a n : Nat) : pw a p n ≤ ord p := by
  have h2 := md_lt (irr_ne h) (pw a p n)
  rw [pw_md] at h2
  unfold ord
  omega

theorem inv_range {p : Nat} (h : Prim p) {a : Nat} (a1 : 1 ≤ a) (a2 : a ≤ ord p) : 1 ≤ inv p a ∧ inv p a ≤ ord p := by
  unfold inv
  rw [pw_lg h a1 a2]
  exact pw_range h _

/-- 2 to any power, also one below 0 -/
def ex (p : Nat) (n : Int) : Nat := pw 2 p (n % (ord p : Int)).toNat

theorem ex_nat {p : Nat} (h : Prim p) (n : Nat) : ex p (n : Int) = pw 2 p n := by
  unfold ex
  rw [show (((n : Int) % (ord p : Int)).toNat) = n % ord p by rw [← Int.natCast_emod]; rfl, pw_modord h]

theorem ex_range {p : Nat} (h : Prim p) (n : Int) : 1 ≤ ex p n ∧ ex p n ≤ ord p := pw_range h _

theorem ex_neg {p : Nat} (h : Prim p) {a : Nat} (a1 : 1 ≤ a) (a2 : a ≤ ord p) : ex p (-(lg p a : Int)) = inv p a := by
  obtain ⟨hl, _⟩ := lg_spec h a1 a2
  unfold inv
  rw [pw_lg h a1 a2, ← ex_nat h]
  unfold ex
  congr 2
  have h0 := ord_pos h.1
  obtain ⟨c, hc⟩ : ∃ c, ord p = c + 1 := ⟨ord p - 1, by omega⟩
  rw [hc]
  rw [show c + 1 - 1 = c by omega]
  rw [show ((lg p a * c : Nat) : Int) = -(lg p a : Int) + ((c + 1 : Nat) : Int) * (lg p a : Int) by
    rw [Int.natCast_mul, Int.natCast_add, Int.add_mul, Int.mul_comm]; simp; omega]
  rw [Int.add_mul_emod_self_left]

theorem ex_mod {p : Nat} (n : Int) : pw 2 p (n % (ord p : Int)).toNat = ex p n := rfl

theorem ex_turn {p : Nat} (n : Int) : ex p (-n) = ex p ((ord p : Int) - n) := by
  unfold ex
  rw [show (ord p : Int) - n = -n + (ord p : Int) by omega, Int.add_emod_right]

theorem lg_lt (p a : Nat) : lg p a ≤ ord p := lgTo_le p a _

/-- the table of logarithms, one step further -/
theorem lgTo_succ (p a k : Nat) : lgTo p a (k + 1) = if pw 2 p k = a then k else lgTo p a k := rfl

theorem md_in {p : Nat} (h : irr p = true) (a : Nat) : md a p ≤ ord p := by
  have := md_lt (irr_ne h) a
  unfold ord
  omega

theorem md_self {p : Nat} (h : irr p = true) {a : Nat} (ha : a ≤ ord p) : md a p = a := md_small (irr_ne h) (by have := ord_succ h; omega)

/-- what was multiplied is divided again -/
theorem mul_back {p : Nat} (h : Prim p) {a b : Nat} (a2 : a ≤ ord p) (b1 : 1 ≤ b) (b2 : b ≤ ord p) : md (mul (md (mul a b) p) (inv p b)) p = a := by
  rw [md_mulL, mul_assoc, ← md_mulR, mul_inv h b1 b2, mul_one, md_self h.1 a2]

theorem mul_assoc_md (a b c p : Nat) : md (mul (md (mul a b) p) c) p = md (mul a (md (mul b c) p)) p := by
  rw [md_mulL, mul_assoc, md_mulR]

theorem xor_le {p a b : Nat} (h : irr p = true) (ha : a ≤ ord p) (hb : b ≤ ord p) : a ^^^ b ≤ ord p := by
  have h1 := ord_succ h
  have := Nat.xor_lt_two_pow (x := a) (y := b) (n := blen p - 1) (by omega) (by omega)
  omega

/-- the step of the table of powers -/
theorem pw_step {p k : Nat} (h : irr p = true) : pw 2 p (k + 1) = if 2 ^ (blen p - 1) ≤ 2 * pw 2 p k then 2 * pw 2 p k ^^^ p else 2 * pw 2 p k := by
  have hp := irr_ne h
  have h0 := ord_succ h
  have hle := pw_le h 2 k
  have hl := low_of hp
  have hb := (irr_blen h).1
  rw [pw, mul_two]
  generalize pw 2 p k = x at *
  have hx : 2 * x < 2 ^ (blen p - 1 + 1) := by rw [Nat.pow_succ]; omega
  split
  · rename_i hge
    have hlt : 2 * x ^^^ p < 2 ^ (blen p - 1) := by
      refine Nat.lt_pow_two_of_testBit _ (fun i hi => ?_)
      rw [Nat.testBit_xor]
      rcases Nat.lt_or_ge i (blen p) with h1 | h1
      · obtain rfl : i = blen p - 1 := by omega
        rw [tb_top hge hx, tb_top hl.1 hl.2]; rfl
      · rw [Nat.testBit_lt_two_pow (Nat.lt_of_lt_of_le hx (Nat.pow_le_pow_right (by decide) (by omega))), Nat.testBit_lt_two_pow (Nat.lt_of_lt_of_le hl.2 (Nat.pow_le_pow_right (by decide) (by omega)))]; rfl
    rw [← md_small hp hlt]
    have := md_xor_shl (2 * x) p 0
    rw [Nat.shiftLeft_zero] at this
    rw [this]
  · exact md_small hp (by omega)

theorem irr299' : irr 299 = true := by decide +kernel
theorem irr355 : irr 355 = true := by decide +kernel
theorem prim299 : Prim 299 := by
  refine (prim_iff (l := [3, 5, 17]) irr299' primes255).2 ⟨?_, ?_⟩
  · rw [pw_fast 2 299 _ 8 (by decide +kernel)]; decide +kernel
  · intro x hx
    rw [pw_fast 2 299 _ 8 (Nat.lt_of_le_of_lt (Nat.div_le_self _ _) (by decide +kernel))]
    revert x
    decide +kernel
theorem prim355 : Prim 355 := by
  refine (prim_iff (l := [3, 5, 17]) irr355 primes255).2 ⟨?_, ?_⟩
  · rw [pw_fast 2 355 _ 8 (by decide +kernel)]; decide +kernel
  · intro x hx
    rw [pw_fast 2 355 _ 8 (Nat.lt_of_le_of_lt (Nat.div_le_self _ _) (by decide +kernel))]
    revert x
    decide +kernel
end Go.Proofs.Ytomlfmfahlcedaa.M
