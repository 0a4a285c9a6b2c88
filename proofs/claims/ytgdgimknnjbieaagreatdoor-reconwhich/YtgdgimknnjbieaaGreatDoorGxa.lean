/- Plain mathematics, of no program: polynomials over GF(2) as natural numbers: products without carries, remainders, and their laws. Plain mathematics, of no program: powers modulo a polynomial; when a number's powers come back to 1. Plain mathematics, of no program: trial division, step by step. Plain mathematics, of no program: modulo what is irreducible there is a field; powers come back to 1. Plain mathematics, of no program: which of some known polynomials are irreducible, and primitive: reckoned. Plain mathematics, of no program: of a primitive polynomial the powers of x are all numbers but 0; which power a number is; inverses. -/

namespace Go.Proofs.YtgdgimknnjbieaaGreatDoor.M

/-- how many bits a number has -/
def blen (n : Nat) : Nat := if n = 0 then 0 else Nat.log2 n + 1

theorem lt_blen (n k : Nat) : k < blen n ↔ 2 ^ k ≤ n := by
  unfold blen
  by_cases h : n = 0
  · subst h
    have := Nat.two_pow_pos k
    simp
  · rw [if_neg h, Nat.lt_succ_iff, Nat.le_log2 h]

theorem blen_le (n k : Nat) : blen n ≤ k ↔ n < 2 ^ k := by
  have := lt_blen n k
  omega

theorem lt_pow_blen (n : Nat) : n < 2 ^ blen n := (blen_le n _).1 (Nat.le_refl _)

theorem blen_pos {n : Nat} (h : n ≠ 0) : 0 < blen n := by
  rw [lt_blen]; simp; omega

theorem blen_zero : blen 0 = 0 := rfl

theorem pow_blen_le {n : Nat} (h : n ≠ 0) : 2 ^ (blen n - 1) ≤ n := by
  have := blen_pos h
  rw [← lt_blen]; omega

theorem blen_eq {n k : Nat} (h1 : 2 ^ k ≤ n) (h2 : n < 2 ^ (k + 1)) : blen n = k + 1 := by
  have a := (lt_blen n k).2 h1
  have b := (blen_le n (k + 1)).2 h2
  omega

theorem tb_top {n k : Nat} (h1 : 2 ^ k ≤ n) (h2 : n < 2 ^ (k + 1)) : n.testBit k = true := by
  rw [Nat.testBit_eq_decide_div_mod_eq]
  have : n / 2 ^ k = 1 := by
    apply Nat.div_eq_of_lt_le <;> rw [Nat.pow_succ] at * <;> omega
  rw [this]; rfl

theorem xor_top_lt {n k : Nat} (h : n < 2 ^ (k + 1)) (hb : n.testBit k = true) : n ^^^ 2 ^ k < 2 ^ k := by
  apply Nat.lt_pow_two_of_testBit
  intro i hi
  rw [Nat.testBit_xor, Nat.testBit_two_pow]
  by_cases e : k = i
  · subst e; simp [hb]
  · have : n.testBit i = false := Nat.testBit_lt_two_pow (Nat.lt_of_lt_of_le h (Nat.pow_le_pow_right (by decide) (by omega)))
    simp [this, e]

theorem lt_of_tb_false {n k : Nat} (h : n < 2 ^ (k + 1)) (hb : n.testBit k = false) : n < 2 ^ k := by
  apply Nat.lt_pow_two_of_testBit
  intro i hi
  by_cases e : k = i
  · subst e; exact hb
  · exact Nat.testBit_lt_two_pow (Nat.lt_of_lt_of_le h (Nat.pow_le_pow_right (by decide) (by omega)))

def Lin (f : Nat → Nat) : Prop := ∀ a b, f (a ^^^ b) = f a ^^^ f b

theorem Lin.zero {f : Nat → Nat} (h : Lin f) : f 0 = 0 := by
  have := h 0 0
  simpa using this

/-- two linear maps that agree on the powers of 2 agree -/
theorem lin_ext {f g : Nat → Nat} (hf : Lin f) (hg : Lin g) : ∀ (k : Nat), (∀ j, j < k → f (2 ^ j) = g (2 ^ j)) → ∀ a, a < 2 ^ k → f a = g a
  | 0, _, a, ha => by
    obtain rfl : a = 0 := by simpa using ha
    rw [hf.zero, hg.zero]
  | k + 1, h, a, ha => by
    have ih := lin_ext hf hg k (fun j hj => h j (by omega))
    cases hb : a.testBit k with
    | false => exact ih a (lt_of_tb_false ha hb)
    | true =>
      have e : a = (a ^^^ 2 ^ k) ^^^ 2 ^ k := by rw [Nat.xor_assoc, Nat.xor_self, Nat.xor_zero]
      rw [e, hf, hg, ih _ (xor_top_lt ha hb), h k (by omega)]

theorem lin_ext' {f g : Nat → Nat} (hf : Lin f) (hg : Lin g) (h : ∀ j, f (2 ^ j) = g (2 ^ j)) (a : Nat) : f a = g a :=
  lin_ext hf hg a (fun j _ => h j) a Nat.lt_two_pow_self

/-! ### products -/

def mulTo (a b : Nat) : Nat → Nat
  | 0 => 0
  | k + 1 => mulTo a b k ^^^ (if b.testBit k then a <<< k else 0)

def mul (a b : Nat) : Nat := mulTo a b (blen b)

theorem mulTo_more (a b k : Nat) (hb : b < 2 ^ k) : ∀ d, mulTo a b (k + d) = mulTo a b k
  | 0 => rfl
  | d + 1 => by
    have : b.testBit (k + d) = false := Nat.testBit_lt_two_pow (Nat.lt_of_lt_of_le hb (Nat.pow_le_pow_right (by decide) (by omega)))
    rw [← Nat.add_assoc, mulTo, this, mulTo_more a b k hb d]; simp

theorem mul_eq {a b k : Nat} (hb : b < 2 ^ k) : mul a b = mulTo a b k := by
  have h := (blen_le b k).2 hb
  have := mulTo_more a b (blen b) (lt_pow_blen b) (k - blen b)
  rw [Nat.add_sub_of_le h] at this
  exact this.symm

theorem ite_xor (p q : Bool) (x : Nat) : (if (p ^^ q) then x else 0) = (if p then x else 0) ^^^ (if q then x else 0) := by
  cases p <;> cases q <;> simp

theorem xor4 (a b c d : Nat) : (a ^^^ b) ^^^ (c ^^^ d) = (a ^^^ c) ^^^ (b ^^^ d) := by
  rw [Nat.xor_assoc, Nat.xor_assoc, ← Nat.xor_assoc b, Nat.xor_comm b c, Nat.xor_assoc c]

theorem mulTo_lin (a k : Nat) : Lin fun b => mulTo a b k := by
  intro b c
  show mulTo a (b ^^^ c) k = mulTo a b k ^^^ mulTo a c k
  induction k with
  | zero => simp [mulTo]
  | succ k ih => rw [mulTo, mulTo, mulTo, ih, Nat.testBit_xor, ite_xor, xor4]

theorem mulTo_linL (b k : Nat) : Lin fun a => mulTo a b k := by
  intro a c
  show mulTo (a ^^^ c) b k = mulTo a b k ^^^ mulTo c b k
  induction k with
  | zero => simp [mulTo]
  | succ k ih =>
    rw [mulTo, mulTo, mulTo, ih, xor4]
    cases b.testBit k
    · simp
    · simp [Nat.shiftLeft_xor_distrib]

theorem mul_lin (a : Nat) : Lin (mul a) := by
  intro b c
  have hb : b < 2 ^ (b + c) := Nat.lt_of_lt_of_le Nat.lt_two_pow_self (Nat.pow_le_pow_right (by decide) (by omega))
  have hc : c < 2 ^ (b + c) := Nat.lt_of_lt_of_le Nat.lt_two_pow_self (Nat.pow_le_pow_right (by decide) (by omega))
  rw [mul_eq hb, mul_eq hc, mul_eq (Nat.xor_lt_two_pow hb hc)]
  exact mulTo_lin a _ b c

theorem mul_linL (b : Nat) : Lin fun a => mul a b := mulTo_linL b _

theorem mulTo_two_pow (a j : Nat) : ∀ k, mulTo a (2 ^ j) k = if j < k then a <<< j else 0
  | 0 => by simp [mulTo]
  | k + 1 => by
    rw [mulTo, mulTo_two_pow a j k, Nat.testBit_two_pow]
    by_cases h : j = k
    · subst h; simp
    · have : (j < k + 1) ↔ (j < k) := by omega
      simp [h, this]

theorem mul_two_pow (a j : Nat) : mul a (2 ^ j) = a <<< j := by
  rw [mul_eq (k := j + 1) (Nat.pow_lt_pow_right (by decide) (by omega)), mulTo_two_pow, if_pos (by omega)]

theorem shl_lin (j : Nat) : Lin fun a => a <<< j := fun _ _ => Nat.shiftLeft_xor_distrib

theorem two_pow_shl (i j : Nat) : 2 ^ i <<< j = 2 ^ (i + j) := by rw [Nat.shiftLeft_eq, Nat.pow_add]

theorem two_pow_mul (a j : Nat) : mul (2 ^ j) a = a <<< j :=
  lin_ext' (mul_lin (2 ^ j)) (shl_lin j) (fun i => by rw [mul_two_pow, two_pow_shl]; show _ = 2 ^ i <<< j; rw [two_pow_shl, Nat.add_comm]) a

theorem mul_comm (a b : Nat) : mul a b = mul b a :=
  lin_ext' (mul_lin a) (mul_linL a) (fun j => by rw [mul_two_pow]; exact (two_pow_mul a j).symm) b

theorem Lin.comp {f g : Nat → Nat} (hf : Lin f) (hg : Lin g) : Lin fun a => f (g a) := fun a b => by
  show f (g (a ^^^ b)) = _
  rw [hg, hf]

theorem mul_shl (a b j : Nat) : mul a (b <<< j) = mul a b <<< j :=
  lin_ext' (f := fun b => mul a (b <<< j)) (g := fun b => mul a b <<< j) ((mul_lin a).comp (shl_lin j)) ((shl_lin j).comp (mul_lin a))
    (fun i => by show mul a (2 ^ i <<< j) = mul a (2 ^ i) <<< j; rw [two_pow_shl, mul_two_pow, mul_two_pow, Nat.shiftLeft_add]) b

theorem mul_assoc (a b c : Nat) : mul (mul a b) c = mul a (mul b c) :=
  lin_ext' (mul_lin (mul a b)) ((mul_lin a).comp (mul_lin b)) (fun j => by rw [mul_two_pow, mul_two_pow, mul_shl]) c

theorem mul_one (a : Nat) : mul a 1 = a := by have := mul_two_pow a 0; simpa using this
theorem one_mul (a : Nat) : mul 1 a = a := by rw [mul_comm, mul_one]
theorem mul_zero (a : Nat) : mul a 0 = 0 := rfl
theorem zero_mul (a : Nat) : mul 0 a = 0 := by rw [mul_comm, mul_zero]
theorem mul_two (a : Nat) : mul a 2 = 2 * a := by have := mul_two_pow a 1; rw [Nat.shiftLeft_eq] at this; simp at this; omega

theorem shl_lt {a l k : Nat} (h : a < 2 ^ l) : a <<< k < 2 ^ (l + k) := by
  rw [Nat.shiftLeft_eq, Nat.pow_add]
  exact Nat.mul_lt_mul_of_pos_right h (Nat.two_pow_pos k)

theorem mulTo_lt {a b l : Nat} (ha : a < 2 ^ l) : ∀ k, mulTo a b k < 2 ^ (l + k - 1)
  | 0 => Nat.two_pow_pos _
  | k + 1 => by
    rw [mulTo]
    have ih := mulTo_lt (b := b) ha k
    apply Nat.xor_lt_two_pow
    · exact Nat.lt_of_lt_of_le ih (Nat.pow_le_pow_right (by decide) (by omega))
    · split
      · exact shl_lt ha
      · exact Nat.two_pow_pos _

theorem mul_lt {a b l k : Nat} (ha : a < 2 ^ l) (hb : b < 2 ^ k) : mul a b < 2 ^ (l + k - 1) := by
  rw [mul_eq hb]; exact mulTo_lt ha k

theorem mul_top {a b l m : Nat} (ha1 : 2 ^ l ≤ a) (ha2 : a < 2 ^ (l + 1)) (hb1 : 2 ^ m ≤ b) (hb2 : b < 2 ^ (m + 1)) :
    2 ^ (l + m) ≤ mul a b ∧ mul a b < 2 ^ (l + m + 1) := by
  refine ⟨?_, by have := mul_lt ha2 hb2; rw [show l + 1 + (m + 1) - 1 = l + m + 1 by omega] at this; exact this⟩
  have e : b = (b ^^^ 2 ^ m) ^^^ 2 ^ m := by rw [Nat.xor_assoc, Nat.xor_self, Nat.xor_zero]
  have hs := xor_top_lt hb2 (tb_top hb1 hb2)
  have h1 := mul_lt ha2 hs
  rw [e, mul_lin a, mul_two_pow]
  apply Nat.ge_two_pow_of_testBit
  rw [Nat.testBit_xor, Nat.testBit_shiftLeft, Nat.testBit_lt_two_pow (by rw [show l + 1 + m - 1 = l + m by omega] at h1; exact h1)]
  simp [tb_top ha1 ha2]

theorem blen_mul {a b : Nat} (ha : a ≠ 0) (hb : b ≠ 0) : blen (mul a b) + 1 = blen a + blen b := by
  have pa := blen_pos ha
  have pb := blen_pos hb
  have h := mul_top (l := blen a - 1) (m := blen b - 1) (pow_blen_le ha) (by rw [Nat.sub_add_cancel pa]; exact lt_pow_blen a) (pow_blen_le hb) (by rw [Nat.sub_add_cancel pb]; exact lt_pow_blen b)
  have := blen_eq h.1 h.2
  omega

/-! ### remainders -/

def red (p low : Nat) : Nat → Nat → Nat
  | 0, a => a
  | k + 1, a => red p low k (a ^^^ (if a.testBit (k + low) then p <<< k else 0))

def md (a p : Nat) : Nat := if p = 0 then 0 else red p (blen p - 1) (blen a + 1 - blen p) a

theorem red_lin (p low k : Nat) : Lin (red p low k) := by
  intro a b
  induction k generalizing a b with
  | zero => rfl
  | succ k ih => rw [red, red, red, ← ih, Nat.testBit_xor, ite_xor, xor4]

theorem red_more {p low k a : Nat} (h : a < 2 ^ (k + low)) : ∀ d, red p low (k + d) a = red p low k a
  | 0 => rfl
  | d + 1 => by
    have : a.testBit (k + d + low) = false := Nat.testBit_lt_two_pow (Nat.lt_of_lt_of_le h (Nat.pow_le_pow_right (by decide) (by omega)))
    rw [← Nat.add_assoc, red, this]
    simp [red_more h d]

theorem red_lt {p low : Nat} (h1 : 2 ^ low ≤ p) (h2 : p < 2 ^ (low + 1)) : ∀ (k : Nat) {a : Nat}, a < 2 ^ (k + low) → red p low k a < 2 ^ low
  | 0, a, h => by simpa [red] using h
  | k + 1, a, h => by
    rw [red]
    apply red_lt h1 h2 k
    rw [show k + 1 + low = (k + low) + 1 by omega] at h
    cases hb : a.testBit (k + low) with
    | false => simpa using lt_of_tb_false h hb
    | true =>
      have hs : p <<< k < 2 ^ ((k + low) + 1) := by have := shl_lt (k := k) h2; rwa [show low + 1 + k = (k + low) + 1 by omega] at this
      have ht : (p <<< k).testBit (k + low) = true := by
        rw [Nat.testBit_shiftLeft]; simp [tb_top h1 h2]
      apply lt_of_tb_false
      · simp only [if_true]; exact Nat.xor_lt_two_pow h hs
      · simp [Nat.testBit_xor, hb, ht]

theorem step_lt {p low k a : Nat} (h1 : 2 ^ low ≤ p) (h2 : p < 2 ^ (low + 1)) (h : a < 2 ^ (k + 1 + low)) :
    a ^^^ (if a.testBit (k + low) then p <<< k else 0) < 2 ^ (k + low) := by
  rw [show k + 1 + low = (k + low) + 1 by omega] at h
  cases hb : a.testBit (k + low) with
  | false => simpa using lt_of_tb_false h hb
  | true =>
    have hs : p <<< k < 2 ^ ((k + low) + 1) := by have := shl_lt (k := k) h2; rwa [show low + 1 + k = (k + low) + 1 by omega] at this
    have ht : (p <<< k).testBit (k + low) = true := by
      rw [Nat.testBit_shiftLeft]; simp [tb_top h1 h2]
    apply lt_of_tb_false
    · simp only [if_true]; exact Nat.xor_lt_two_pow h hs
    · simp [Nat.testBit_xor, hb, ht]

theorem low_of {p : Nat} (hp : p ≠ 0) : 2 ^ (blen p - 1) ≤ p ∧ p < 2 ^ (blen p - 1 + 1) := by
  refine ⟨pow_blen_le hp, ?_⟩
  rw [Nat.sub_add_cancel (blen_pos hp)]
  exact lt_pow_blen p

theorem md_eq {a p k : Nat} (hp : p ≠ 0) (h : a < 2 ^ (k + (blen p - 1))) : md a p = red p (blen p - 1) k a := by
  rw [md, if_neg hp]
  have pp := blen_pos hp
  have ha : a < 2 ^ (blen a + 1 - blen p + (blen p - 1)) := Nat.lt_of_lt_of_le (lt_pow_blen a) (Nat.pow_le_pow_right (by decide) (by omega))
  rcases Nat.le_total k (blen a + 1 - blen p) with hk | hk
  · have := red_more (p := p) h (blen a + 1 - blen p - k)
    rw [Nat.add_sub_of_le hk] at this
    exact this
  · have := red_more (p := p) ha (k - (blen a + 1 - blen p))
    rw [Nat.add_sub_of_le hk] at this
    exact this.symm

theorem md_zero_right (a : Nat) : md a 0 = 0 := by simp [md]

theorem md_lin (p : Nat) : Lin fun a => md a p := by
  intro a b
  show md (a ^^^ b) p = md a p ^^^ md b p
  by_cases hp : p = 0
  · subst hp; simp [md_zero_right]
  · have ha : a < 2 ^ (a + b + (blen p - 1)) := Nat.lt_of_lt_of_le Nat.lt_two_pow_self (Nat.pow_le_pow_right (by decide) (by omega))
    have hb : b < 2 ^ (a + b + (blen p - 1)) := Nat.lt_of_lt_of_le Nat.lt_two_pow_self (Nat.pow_le_pow_right (by decide) (by omega))
    rw [md_eq hp ha, md_eq hp hb, md_eq hp (Nat.xor_lt_two_pow ha hb), red_lin]

theorem md_lt {p : Nat} (hp : p ≠ 0) (a : Nat) : md a p < 2 ^ (blen p - 1) := by
  have ha : a < 2 ^ (a + (blen p - 1)) := Nat.lt_of_lt_of_le Nat.lt_two_pow_self (Nat.pow_le_pow_right (by decide) (by omega))
  rw [md_eq hp ha]
  exact red_lt (low_of hp).1 (low_of hp).2 _ ha

theorem md_small {p a : Nat} (hp : p ≠ 0) (h : a < 2 ^ (blen p - 1)) : md a p = a := by
  rw [md_eq (k := 0) hp (by simpa using h)]; rfl

theorem md_md (a p : Nat) : md (md a p) p = md a p := by
  by_cases hp : p = 0
  · subst hp; simp [md_zero_right]
  · exact md_small hp (md_lt hp a)

theorem md_zero (p : Nat) : md 0 p = 0 := (md_lin p).zero

theorem md_shl (p j : Nat) : md (p <<< j) p = 0 := by
  by_cases hp : p = 0
  · subst hp; simp [md_zero_right]
  · have h := low_of hp
    have hs : p <<< j < 2 ^ (j + 1 + (blen p - 1)) := by have := shl_lt (k := j) h.2; rwa [show blen p - 1 + 1 + j = j + 1 + (blen p - 1) by omega] at this
    have ht : (p <<< j).testBit (j + (blen p - 1)) = true := by
      rw [Nat.testBit_shiftLeft]; simp [tb_top h.1 h.2]
    rw [md_eq hp hs, red, ht]
    simp [(red_lin p _ _).zero]

theorem md_mul_self (p q : Nat) : md (mul p q) p = 0 :=
  lin_ext' (f := fun q => md (mul p q) p) (g := fun _ => 0) ((md_lin p).comp (mul_lin p)) (fun _ _ => by simp) (fun j => by show md (mul p (2 ^ j)) p = 0; rw [mul_two_pow, md_shl]) q

theorem red_quo (p low : Nat) : ∀ (k a : Nat), ∃ q, q < 2 ^ k ∧ a ^^^ red p low k a = mul p q
  | 0, a => ⟨0, by simp, by simp [red, mul_zero]⟩
  | k + 1, a => by
    rw [red]
    cases hb : a.testBit (k + low) with
    | false =>
      obtain ⟨q, h1, h2⟩ := red_quo p low k a
      exact ⟨q, by rw [Nat.pow_succ]; omega, by simpa using h2⟩
    | true =>
      obtain ⟨q, h1, h2⟩ := red_quo p low k (a ^^^ p <<< k)
      refine ⟨q ^^^ 2 ^ k, Nat.xor_lt_two_pow (by rw [Nat.pow_succ]; omega) (by rw [Nat.pow_succ]; have := Nat.two_pow_pos k; omega), ?_⟩
      rw [mul_lin p, mul_two_pow, ← h2]
      simp only [if_true]
      generalize red p low k (a ^^^ p <<< k) = r
      generalize p <<< k = s
      rw [Nat.xor_assoc a s, Nat.xor_comm s r, Nat.xor_assoc a, Nat.xor_assoc r, Nat.xor_self, Nat.xor_zero]

theorem md_quo {p : Nat} (hp : p ≠ 0) (a : Nat) : ∃ q, a ^^^ md a p = mul p q := by
  rw [md, if_neg hp]
  obtain ⟨q, _, h⟩ := red_quo p (blen p - 1) (blen a + 1 - blen p) a
  exact ⟨q, h⟩

theorem xor_eq_zero {a b : Nat} (h : a ^^^ b = 0) : a = b := by
  have : a ^^^ b ^^^ b = b := by rw [h, Nat.zero_xor]
  rwa [Nat.xor_assoc, Nat.xor_self, Nat.xor_zero] at this

theorem md_mulL (a b p : Nat) : md (mul (md a p) b) p = md (mul a b) p := by
  by_cases hp : p = 0
  · subst hp; simp [md_zero_right]
  · obtain ⟨q, hq⟩ := md_quo hp a
    apply Eq.symm
    apply xor_eq_zero
    rw [← md_lin p]
    show md (mul a b ^^^ mul (md a p) b) p = 0
    rw [← mul_linL b]
    show md (mul (a ^^^ md a p) b) p = 0
    rw [hq, mul_assoc, md_mul_self]

theorem md_mulR (a b p : Nat) : md (mul a (md b p)) p = md (mul a b) p := by
  rw [mul_comm, md_mulL, mul_comm]

/-- taking a multiple away changes no remainder -/
theorem md_xor_shl (a p j : Nat) : md (a ^^^ p <<< j) p = md a p := by
  have h : md (a ^^^ p <<< j) p = md a p ^^^ md (p <<< j) p := md_lin p a (p <<< j)
  rw [h, md_shl, Nat.xor_zero]

/-! ### what is irreducible -/

/-- no number below n, from 2 on, divides p -/
def noDiv (p : Nat) : Nat → Bool
  | 0 => true
  | n + 1 => noDiv p n && (decide (n < 2) || md p n != 0)

def irr (p : Nat) : Bool := decide (2 ≤ blen p) && decide (blen p ≤ 17) && noDiv p (2 ^ ((blen p - 1) / 2 + 1))

theorem noDiv_iff (p : Nat) : ∀ n, noDiv p n = true ↔ ∀ q, 2 ≤ q → q < n → md p q ≠ 0
  | 0 => by simp [noDiv]
  | n + 1 => by
    rw [noDiv, Bool.and_eq_true, noDiv_iff p n]
    constructor
    · rintro ⟨h1, h2⟩ q hq hqn
      by_cases e : q = n
      · subst e
        simpa [show ¬ q < 2 by omega] using h2
      · exact h1 q hq (by omega)
    · intro h
      refine ⟨fun q hq hqn => h q hq (by omega), ?_⟩
      by_cases h2 : n < 2
      · simp [h2]
      · simpa [h2] using h n (by omega) (by omega)

theorem noDiv_false {p n m : Nat} (h2 : 2 ≤ n) (hm : n < m) (h : md p n = 0) : noDiv p m = false := by
  rw [Bool.eq_false_iff]
  intro hn
  exact (noDiv_iff p m).1 hn n h2 hm h

theorem noDiv_succ {p n : Nat} (h : noDiv p n = true) (h2 : n < 2 ∨ md p n ≠ 0) : noDiv p (n + 1) = true := by
  rw [noDiv, h]
  rcases h2 with h2 | h2 <;> simp [h2]

end Go.Proofs.YtgdgimknnjbieaaGreatDoor.M

namespace Go.Proofs.YtgdgimknnjbieaaGreatDoor.M

def pw (a p : Nat) : Nat → Nat
  | 0 => md 1 p
  | n + 1 => md (mul (pw a p n) a) p

theorem pw_md (a p n : Nat) : md (pw a p n) p = pw a p n := by
  cases n <;> simp [pw, md_md]

theorem pw_add (a p m : Nat) : ∀ n, pw a p (m + n) = md (mul (pw a p m) (pw a p n)) p
  | 0 => by rw [pw, md_mulR, mul_one, pw_md, Nat.add_zero]
  | n + 1 => by
    rw [← Nat.add_assoc, pw, pw_add a p m n, md_mulL, mul_assoc, pw, md_mulR]

theorem pw_double (a p n : Nat) : pw a p (2 * n) = md (mul (pw a p n) (pw a p n)) p := by
  rw [show 2 * n = n + n by omega, pw_add]

theorem pw_one_mul {a p m : Nat} (h : pw a p m = md 1 p) : ∀ t, pw a p (m * t) = md 1 p
  | 0 => rfl
  | t + 1 => by rw [Nat.mul_succ, pw_add, pw_one_mul h t, h, md_mulL, md_mulR, mul_one]

/-- the power whose exponent is the upper bits of n: one bit more -/
theorem pw_shift {a p n m i : Nat} (hi : i < m) :
    pw a p (n >>> (m - (i + 1))) = if n.testBit (m - 1 - i) then md (mul (md (mul (pw a p (n >>> (m - i))) (pw a p (n >>> (m - i)))) p) a) p else md (mul (pw a p (n >>> (m - i))) (pw a p (n >>> (m - i)))) p := by
  obtain ⟨j, hj⟩ : ∃ j, m - (i + 1) = j := ⟨_, rfl⟩
  have e1 : m - i = j + 1 := by omega
  have e2 : m - 1 - i = j := by omega
  rw [hj, e1, e2, ← pw_double]
  have hd : n >>> (j + 1) = n >>> j / 2 := by rw [Nat.shiftRight_succ]
  have hb : n.testBit j = decide (n >>> j % 2 = 1) := by rw [Nat.testBit_eq_decide_div_mod_eq, Nat.shiftRight_eq_div_pow]
  rw [hd, hb]
  generalize n >>> j = x
  by_cases h : x % 2 = 1
  · rw [if_pos (by simpa using h)]
    show _ = pw a p (2 * (x / 2) + 1)
    rw [show 2 * (x / 2) + 1 = x by omega]
  · rw [if_neg (by simpa using h), show 2 * (x / 2) = x by omega]

/-- the same power, by squares: for reckoning -/
def pwTop (a p n m : Nat) : Nat → Nat
  | 0 => md 1 p
  | i + 1 => (fun r => (fun s => if n.testBit (m - 1 - i) then md (mul s a) p else s) (md (mul r r) p)) (pwTop a p n m i)

theorem pwTop_eq (a p n m : Nat) (hn : n < 2 ^ m) : ∀ i, i ≤ m → pwTop a p n m i = pw a p (n >>> (m - i))
  | 0, _ => by
    rw [Nat.sub_zero, Nat.shiftRight_eq_div_pow, Nat.div_eq_of_lt hn]; rfl
  | i + 1, h => by
    rw [pw_shift (by omega), pwTop, pwTop_eq a p n m hn i (by omega)]

theorem pw_fast (a p n m : Nat) (hn : n < 2 ^ m) : pw a p n = pwTop a p n m m := by
  rw [pwTop_eq a p n m hn m (Nat.le_refl _)]; simp

/-! ### primitive polynomials -/

/-- x's powers come back to 1 behind all others alone -/
def Prim (p : Nat) : Prop := irr p = true ∧ pw 2 p (2 ^ (blen p - 1) - 1) = 1 ∧ ∀ d, d ∣ 2 ^ (blen p - 1) - 1 → d < 2 ^ (blen p - 1) - 1 → pw 2 p d ≠ 1

/-- a list of divisors of n, of which each divisor of n that is more than 1 has one -/
def Primes (n : Nat) (l : List Nat) : Prop := (∀ x, x ∈ l → 2 ≤ x ∧ x ∣ n) ∧ ∀ m, 1 < m → m ∣ n → ∃ x, x ∈ l ∧ x ∣ m

theorem irr_blen {p : Nat} (h : irr p = true) : 2 ≤ blen p ∧ blen p ≤ 17 := by
  unfold irr at h
  simp at h
  exact h.1

theorem md_one {p : Nat} (h : 2 ≤ blen p) : md 1 p = 1 := by
  have hp : p ≠ 0 := by rintro rfl; rw [blen_zero] at h; omega
  apply md_small hp
  have : 2 ^ 1 ≤ 2 ^ (blen p - 1) := Nat.pow_le_pow_right (by decide) (by omega)
  omega

theorem count_pos {p : Nat} (h : 2 ≤ blen p) : 0 < 2 ^ (blen p - 1) - 1 := by
  have : 2 ^ 1 ≤ 2 ^ (blen p - 1) := Nat.pow_le_pow_right (by decide) (by omega)
  omega

/-- Prim, by a list of primes -/
theorem prim_iff {p : Nat} {l : List Nat} (hi : irr p = true) (hl : Primes (2 ^ (blen p - 1) - 1) l) :
    Prim p ↔ pw 2 p (2 ^ (blen p - 1) - 1) = 1 ∧ ∀ x, x ∈ l → pw 2 p ((2 ^ (blen p - 1) - 1) / x) ≠ 1 := by
  have hb := irr_blen hi
  have h1 := md_one hb.1
  have hc := count_pos hb.1
  unfold Prim
  generalize 2 ^ (blen p - 1) - 1 = c at *
  constructor
  · rintro ⟨_, ha, hd⟩
    refine ⟨ha, fun x hx => ?_⟩
    obtain ⟨x2, xc⟩ := hl.1 x hx
    exact hd _ (Nat.div_dvd_of_dvd xc) (Nat.div_lt_self hc x2)
  · rintro ⟨ha, hd⟩
    refine ⟨hi, ha, fun d dc dl h => ?_⟩
    obtain ⟨m, rfl⟩ := dc
    have hm : 1 < m := by
      rcases Nat.lt_or_ge 1 m with h | h
      · exact h
      · exfalso
        have : m = 0 ∨ m = 1 := by omega
        rcases this with rfl | rfl <;> omega
    obtain ⟨x, hx, t, rfl⟩ := hl.2 m hm (Nat.dvd_mul_left _ _)
    refine hd x hx ?_
    have x2 := (hl.1 x hx).1
    rw [show d * (x * t) = x * (d * t) by rw [Nat.mul_left_comm], Nat.mul_div_cancel_left _ (by omega)]
    rw [pw_one_mul (h.trans h1.symm), h1]

end Go.Proofs.YtgdgimknnjbieaaGreatDoor.M

namespace Go.Proofs.YtgdgimknnjbieaaGreatDoor.M

/-- where trial division of n0 stands: n is left, q is next, l was found -/
structure PrimInv (n0 n q : Nat) (l : List Nat) : Prop where
  pos : 1 ≤ n
  dvd : n ∣ n0
  two : 2 ≤ q
  least : ∀ m, 1 < m → m ∣ n → q ≤ m
  mem : ∀ x, x ∈ l → 2 ≤ x ∧ x ∣ n0
  all : ∀ m, 1 < m → m ∣ n0 → (∃ x, x ∈ l ∧ x ∣ m) ∨ m ∣ n
  len : l.length + 2 ≤ q

/-- the same while q is divided away -/
structure InnerInv (n0 n q : Nat) (l : List Nat) : Prop where
  pos : 1 ≤ n
  dvd : n ∣ n0
  two : 2 ≤ q
  least : ∀ m, 1 < m → m ∣ n → q ≤ m
  mem : ∀ x, x ∈ l → 2 ≤ x ∧ x ∣ n0
  has : q ∈ l
  least' : ∀ m, 1 < m → m ∣ q → q ≤ m
  all : ∀ m, 1 < m → m ∣ n0 → (∃ x, x ∈ l ∧ x ∣ m) ∨ m ∣ n
  len : l.length + 1 ≤ q

theorem PrimInv.start {n0 : Nat} (h : 1 ≤ n0) : PrimInv n0 n0 2 [] where
  pos := h
  dvd := Nat.dvd_refl _
  two := Nat.le_refl _
  least := fun m hm _ => hm
  mem := by simp
  all := fun m _ h => .inr h
  len := by simp

theorem PrimInv.skip {n0 n q : Nat} {l : List Nat} (h : PrimInv n0 n q l) (hq : n % q ≠ 0) : PrimInv n0 n (q + 1) l where
  pos := h.pos
  dvd := h.dvd
  two := by have := h.two; omega
  least := fun m hm hd => by
    have h1 := h.least m hm hd
    rcases Nat.lt_or_ge q m with h2 | h2
    · exact h2
    · obtain rfl : m = q := by omega
      exact absurd (Nat.mod_eq_zero_of_dvd hd) hq
  mem := h.mem
  all := h.all
  len := by have := h.len; omega

theorem PrimInv.inner {n0 n q : Nat} {l : List Nat} (h : PrimInv n0 n q l) (hq : n % q = 0) : InnerInv n0 n q (l ++ [q]) where
  pos := h.pos
  dvd := h.dvd
  two := h.two
  least := h.least
  mem := fun x hx => by
    rcases List.mem_append.1 hx with h1 | h1
    · exact h.mem x h1
    · obtain rfl : x = q := by simpa using h1
      exact ⟨h.two, Nat.dvd_trans (Nat.dvd_of_mod_eq_zero hq) h.dvd⟩
  has := by simp
  least' := fun m hm hd => h.least m hm (Nat.dvd_trans hd (Nat.dvd_of_mod_eq_zero hq))
  all := fun m hm hd => by
    rcases h.all m hm hd with ⟨x, h1, h2⟩ | h1
    · exact .inl ⟨x, by simp [h1], h2⟩
    · exact .inr h1
  len := by have := h.len; simp; omega

theorem InnerInv.step {n0 n q : Nat} {l : List Nat} (h : InnerInv n0 n q l) (hq : n % q = 0) : InnerInv n0 (n / q) q l := by
  have qn := Nat.dvd_of_mod_eq_zero hq
  have q2 := h.two
  have hd : n / q ∣ n := Nat.div_dvd_of_dvd qn
  exact {
    pos := Nat.div_pos (Nat.le_of_dvd h.pos qn) (by omega)
    dvd := Nat.dvd_trans hd h.dvd
    two := h.two
    least := fun m hm hx => h.least m hm (Nat.dvd_trans hx hd)
    mem := h.mem
    has := h.has
    least' := h.least'
    all := fun m hm hx => by
      rcases h.all m hm hx with h1 | h1
      · exact .inl h1
      · by_cases hg : Nat.gcd m q = 1
        · refine .inr (Nat.Coprime.dvd_of_dvd_mul_left (k := m) (m := q) hg ?_)
          rwa [Nat.mul_div_cancel' qn]
        · refine .inl ⟨q, h.has, ?_⟩
          have gq := Nat.gcd_dvd_right m q
          have gm := Nat.gcd_dvd_left m q
          have g0 : 0 < Nat.gcd m q := Nat.gcd_pos_of_pos_left _ (by omega)
          have := h.least' _ (by omega) gq
          have := Nat.le_of_dvd (by omega) gq
          rwa [show Nat.gcd m q = q by omega] at gm
    len := h.len }

theorem InnerInv.done {n0 n q : Nat} {l : List Nat} (h : InnerInv n0 n q l) (hq : n % q ≠ 0) : PrimInv n0 n (q + 1) l where
  pos := h.pos
  dvd := h.dvd
  two := by have := h.two; omega
  least := fun m hm hd => by
    have h1 := h.least m hm hd
    rcases Nat.lt_or_ge q m with h2 | h2
    · exact h2
    · obtain rfl : m = q := by omega
      exact absurd (Nat.mod_eq_zero_of_dvd hd) hq
  mem := h.mem
  all := h.all
  len := by have := h.len; omega

theorem PrimInv.primes {n0 n q : Nat} {l : List Nat} (h : PrimInv n0 n q l) (hq : n < q) : Primes n0 l := by
  refine ⟨h.mem, fun m hm hd => ?_⟩
  rcases h.all m hm hd with h1 | h1
  · exact h1
  · have := h.least m hm h1
    have := Nat.le_of_dvd h.pos h1
    omega

end Go.Proofs.YtgdgimknnjbieaaGreatDoor.M

namespace Go.Proofs.YtgdgimknnjbieaaGreatDoor.M

theorem blen_half {x : Nat} (h : x ≠ 0) : blen x = blen (x / 2) + 1 := by
  by_cases h1 : x / 2 = 0
  · rw [h1]
    have : x = 1 := by omega
    subst this; rfl
  · have a := low_of h1
    have hp := blen_pos h1
    have := blen_eq (n := x) (k := blen (x / 2)) (by rw [show blen (x / 2) = blen (x / 2) - 1 + 1 by omega, Nat.pow_succ]; omega) (by rw [show blen (x / 2) + 1 = (blen (x / 2) - 1 + 1) + 1 by omega, Nat.pow_succ]; omega)
    omega

theorem irr_ne {p : Nat} (h : irr p = true) : p ≠ 0 := by
  rintro rfl
  have := irr_blen h
  rw [blen_zero] at this
  omega

theorem irr_noDiv {p : Nat} (h : irr p = true) : noDiv p (2 ^ ((blen p - 1) / 2 + 1)) = true := by
  unfold irr at h
  rw [Bool.and_eq_true] at h
  exact h.2

theorem two_le {q : Nat} (h : 2 ≤ blen q) : 2 ≤ q := by
  have := (lt_blen q 1).1 (by omega)
  omega

/-- nothing of a lower degree, but numbers, divides what is irreducible -/
theorem irr_div {p a : Nat} (h : irr p = true) (h2 : 2 ≤ a) (hl : blen a < blen p) : md p a ≠ 0 := by
  intro hz
  have hd := (noDiv_iff p _).1 (irr_noDiv h)
  have ha : a ≠ 0 := by omega
  obtain ⟨q, hq⟩ := md_quo ha p
  rw [hz, Nat.xor_zero] at hq
  have hp := irr_ne h
  have hq0 : q ≠ 0 := by
    rintro rfl
    rw [mul_zero] at hq
    exact hp hq
  have hb := blen_mul ha hq0
  rw [← hq] at hb
  have a2 : 2 ≤ blen a := (lt_blen a 1).2 (by omega)
  rcases Nat.lt_or_ge ((blen p - 1) / 2 + 1) (blen a) with h1 | h1
  · refine hd q (two_le (by omega)) ((blen_le _ _).1 (by omega)) ?_
    rw [hq, mul_comm, md_mul_self]
  · exact hd a h2 ((blen_le _ _).1 h1) hz

theorem md_blen {p : Nat} (hp : p ≠ 0) (a : Nat) : blen (md a p) < blen p := by
  have := (blen_le _ _).2 (md_lt hp a)
  have := blen_pos hp
  omega

theorem field_low {p b : Nat} (h : irr p = true) (hb : md b p ≠ 0) : ∀ (n a : Nat), a ≤ n → a ≠ 0 → blen a < blen p → md (mul a b) p ≠ 0
  | 0, a, hn, h0, _ => absurd (by omega) h0
  | n + 1, a, hn, h0, hl => by
    by_cases h1 : a = 1
    · subst h1; rwa [one_mul]
    · intro hz
      have hr := irr_div h (show 2 ≤ a by omega) hl
      have hlt := md_lt h0 p
      have hle := pow_blen_le h0
      refine field_low h hb n (md p a) (by omega) hr (Nat.lt_trans (md_blen h0 p) hl) ?_
      obtain ⟨q, hq⟩ := md_quo h0 p
      have e : md p a = p ^^^ mul a q := by rw [← hq, ← Nat.xor_assoc, Nat.xor_self, Nat.zero_xor]
      have e1 : mul (p ^^^ mul a q) b = mul p b ^^^ mul (mul a q) b := mul_linL b p (mul a q)
      have e2 : md (mul p b ^^^ mul (mul a q) b) p = md (mul p b) p ^^^ md (mul (mul a q) b) p := md_lin p _ _
      rw [e, e1, e2, md_mul_self, Nat.zero_xor, mul_comm a q, mul_assoc, ← md_mulR, hz, mul_zero, md_zero]

/-- modulo what is irreducible a product is 0 just if one of both is -/
theorem field {p a b : Nat} (h : irr p = true) (ha : md a p ≠ 0) (hb : md b p ≠ 0) : md (mul a b) p ≠ 0 := by
  rw [← md_mulL]
  exact field_low h hb _ _ (Nat.le_refl _) ha (md_blen (irr_ne h) a)

/-- what is multiplied by one number that is not 0 is told by its product -/
theorem cancel {p a b c : Nat} (h : irr p = true) (hc : md c p ≠ 0) (he : md (mul a c) p = md (mul b c) p) : md a p = md b p := by
  apply xor_eq_zero
  have e1 : md (a ^^^ b) p = md a p ^^^ md b p := md_lin p a b
  rw [← e1]
  apply Classical.byContradiction
  intro hn
  refine field h hn hc ?_
  have e2 : mul (a ^^^ b) c = mul a c ^^^ mul b c := mul_linL c a b
  have e3 : md (mul a c ^^^ mul b c) p = md (mul a c) p ^^^ md (mul b c) p := md_lin p _ _
  rw [e2, e3, he, Nat.xor_self]

theorem md_one_ne {p : Nat} (h : irr p = true) : md 1 p ≠ 0 := by rw [md_one (irr_blen h).1]; decide

theorem pw_ne {p a : Nat} (h : irr p = true) (ha : md a p ≠ 0) : ∀ n, pw a p n ≠ 0
  | 0 => md_one_ne h
  | n + 1 => field h (by rw [pw_md]; exact pw_ne h ha n) ha

theorem pw_cancel {p a : Nat} (h : irr p = true) (ha : md a p ≠ 0) (i d : Nat) (he : pw a p (i + d) = pw a p i) : pw a p d = 1 := by
  rw [Nat.add_comm, pw_add] at he
  have h1 : md (mul (pw a p d) (pw a p i)) p = md (mul 1 (pw a p i)) p := by rw [he, one_mul, pw_md]
  have := cancel h (by rw [pw_md]; exact pw_ne h ha i) h1
  rwa [pw_md, md_one (irr_blen h).1] at this

/-- no more numbers than places -/
theorem pigeon : ∀ (c n : Nat) (f : Nat → Nat), (∀ i, i < n → 1 ≤ f i ∧ f i ≤ c) → (∀ i j, i < j → j < n → f i ≠ f j) → n ≤ c
  | 0, n, f, h, _ => by
    rcases Nat.eq_zero_or_pos n with h0 | h0
    · omega
    · have := h 0 h0
      omega
  | c + 1, n, f, h, hi => by
    by_cases hx : ∃ i, i < n ∧ f i = c + 1
    · obtain ⟨i0, hi0, he⟩ := hx
      have := pigeon c (n - 1) (fun i => if i < i0 then f i else f (i + 1)) (fun i hin => by
        show 1 ≤ (if i < i0 then f i else f (i + 1)) ∧ (if i < i0 then f i else f (i + 1)) ≤ c
        by_cases h1 : i < i0
        · rw [if_pos h1]
          have a := h i (by omega)
          have b := hi i i0 h1 hi0
          omega
        · rw [if_neg h1]
          have a := h (i + 1) (by omega)
          have b := hi i0 (i + 1) (by omega) (by omega)
          omega) (fun i j hij hjn => by
        show (if i < i0 then f i else f (i + 1)) ≠ (if j < i0 then f j else f (j + 1))
        by_cases h1 : i < i0
        · rw [if_pos h1]
          by_cases h2 : j < i0
          · rw [if_pos h2]; exact hi i j hij (by omega)
          · rw [if_neg h2]; exact hi i (j + 1) (by omega) (by omega)
        · rw [if_neg h1, if_neg (by omega)]; exact hi (i + 1) (j + 1) (by omega) (by omega))
      omega
    · have := pigeon c n f (fun i hin => by
        have a := h i hin
        have b : f i ≠ c + 1 := fun e => hx ⟨i, hin, e⟩
        omega) hi
      omega

theorem pw_mod {p a n : Nat} (h2 : 2 ≤ blen p) (hn : pw a p n = 1) (m : Nat) : pw a p (m % n) = pw a p m := by
  have e : m = n * (m / n) + m % n := (Nat.div_add_mod m n).symm
  have h1 := md_one h2
  have : pw a p m = md (mul (pw a p (n * (m / n))) (pw a p (m % n))) p := by
    rw [← pw_add, ← e]
  rw [this, pw_one_mul (hn.trans h1.symm), md_mulL, one_mul, pw_md]

/-- the first power that is 1 tells whether p is primitive -/
theorem prim_first {p n : Nat} (h : irr p = true) (h1 : 1 ≤ n) (hn : pw 2 p n = 1) (hmin : ∀ m, 1 ≤ m → m < n → pw 2 p m ≠ 1) : n = 2 ^ (blen p - 1) - 1 ↔ Prim p := by
  have hb := irr_blen h
  have hc := count_pos hb.1
  unfold Prim
  generalize 2 ^ (blen p - 1) - 1 = c at *
  constructor
  · rintro rfl
    refine ⟨h, hn, fun d hd hl => hmin d ?_ hl⟩
    rcases Nat.eq_zero_or_pos d with rfl | h0
    · have := Nat.eq_zero_of_zero_dvd hd
      omega
    · exact h0
  · rintro ⟨_, hcnt, hd⟩
    have hm := pw_mod hb.1 hn c
    rw [hcnt] at hm
    have hz : c % n = 0 := by
      rcases Nat.eq_zero_or_pos (c % n) with h0 | h0
      · exact h0
      · exact absurd hm (hmin _ h0 (Nat.mod_lt _ h1))
    have hdv := Nat.dvd_of_mod_eq_zero hz
    have hle := Nat.le_of_dvd hc hdv
    rcases Nat.lt_or_ge n c with h3 | h3
    · exact absurd hn (hd n hdv h3)
    · omega

theorem prim_two_ne {p : Nat} (h : Prim p) : md 2 p ≠ 0 := by
  intro hz
  have h1 := h.2.1
  have hc := count_pos (irr_blen h.1).1
  obtain ⟨c, hc⟩ : ∃ c, 2 ^ (blen p - 1) - 1 = c + 1 := ⟨2 ^ (blen p - 1) - 1 - 1, by omega⟩
  rw [hc, pw, ← md_mulR, hz, mul_zero, md_zero] at h1
  cases h1

/-! ### the map that takes a number to its square -/

def sq (p a : Nat) : Nat := md (mul a a) p

theorem pw_sq (a p : Nat) : ∀ m, pw (sq p a) p m = pw a p (2 * m)
  | 0 => rfl
  | m + 1 => by
    rw [pw, pw_sq a p m, show 2 * (m + 1) = 2 * m + 1 + 1 by omega, pw, pw, md_mulL, mul_assoc, sq, md_mulR]

end Go.Proofs.YtgdgimknnjbieaaGreatDoor.M

namespace Go.Proofs.YtgdgimknnjbieaaGreatDoor.M

theorem primes_of : ∀ (l : List Nat), (∀ x, x ∈ l → 2 ≤ x ∧ ∀ m, m < x → 1 < m → ¬ m ∣ x) → Primes (l.foldr (· * ·) 1) l
  | [], _ => ⟨by simp, fun m hm hd => by have := Nat.le_of_dvd (by decide) hd; simp at this; omega⟩
  | x :: r, h => by
    have ih := primes_of r (fun y hy => h y (by simp [hy]))
    obtain ⟨x2, hx⟩ := h x (by simp)
    rw [List.foldr_cons]
    refine ⟨fun y hy => ?_, fun m hm hd => ?_⟩
    · rcases List.mem_cons.1 hy with rfl | hy
      · exact ⟨x2, Nat.dvd_mul_right _ _⟩
      · exact ⟨(ih.1 y hy).1, Nat.dvd_trans (ih.1 y hy).2 (Nat.dvd_mul_left _ _)⟩
    · by_cases hg : Nat.gcd m x = 1
      · obtain ⟨y, hy, hym⟩ := ih.2 m hm (Nat.Coprime.dvd_of_dvd_mul_left hg hd)
        exact ⟨y, by simp [hy], hym⟩
      · have gq := Nat.gcd_dvd_right m x
        have gm := Nat.gcd_dvd_left m x
        have g0 : 0 < Nat.gcd m x := Nat.gcd_pos_of_pos_left _ (by omega)
        have gl := Nat.le_of_dvd (by omega) gq
        refine ⟨x, by simp, ?_⟩
        rcases Nat.lt_or_ge (Nat.gcd m x) x with h1 | h1
        · exact absurd gq (hx _ h1 (by omega))
        · rwa [show Nat.gcd m x = x by omega] at gm

theorem primes255 : Primes 255 [3, 5, 17] := primes_of [3, 5, 17] (by decide +kernel)
theorem primes65535 : Primes 65535 [3, 5, 17, 257] := primes_of [3, 5, 17, 257] (by decide +kernel)

theorem irr285 : irr 285 = true := by decide +kernel
theorem irr69643 : irr 69643 = true := by decide +kernel

theorem prim285 : Prim 285 := by
  refine (prim_iff (l := [3, 5, 17]) irr285 primes255).2 ⟨?_, ?_⟩
  · rw [pw_fast 2 285 _ 8 (by decide +kernel)]; decide +kernel
  · intro x hx
    rw [pw_fast 2 285 _ 8 (Nat.lt_of_le_of_lt (Nat.div_le_self _ _) (by decide +kernel))]
    revert x
    decide +kernel

theorem prim69643 : Prim 69643 := by
  refine (prim_iff (l := [3, 5, 17, 257]) irr69643 primes65535).2 ⟨?_, ?_⟩
  · rw [pw_fast 2 69643 _ 16 (by decide +kernel)]; decide +kernel
  · intro x hx
    rw [pw_fast 2 69643 _ 16 (Nat.lt_of_le_of_lt (Nat.div_le_self _ _) (by decide +kernel))]
    revert x
    decide +kernel

end Go.Proofs.YtgdgimknnjbieaaGreatDoor.M

namespace Go.Proofs.YtgdgimknnjbieaaGreatDoor.M

/-- how many numbers but 0 there are -/
def ord (p : Nat) : Nat := 2 ^ (blen p - 1) - 1

theorem prim_pow {p : Nat} (h : Prim p) : pw 2 p (ord p) = 1 := h.2.1
theorem ord_pos {p : Nat} (h : irr p = true) : 0 < ord p := count_pos (irr_blen h).1
theorem ord_succ {p : Nat} (h : irr p = true) : ord p + 1 = 2 ^ (blen p - 1) := by
  have := ord_pos h
  unfold ord at *
  omega

/-- the least number from 1 to n for which Q holds -/
theorem least (Q : Nat → Prop) : ∀ n, 1 ≤ n → Q n → ∃ m, 1 ≤ m ∧ m ≤ n ∧ Q m ∧ ∀ k, 1 ≤ k → k < m → ¬ Q k := by
  intro n
  induction n using Nat.strongRecOn with
  | _ n ih =>
    intro h1 hq
    by_cases h : ∃ k, 1 ≤ k ∧ k < n ∧ Q k
    · obtain ⟨k, k1, k2, k3⟩ := h
      obtain ⟨m, m1, m2, m3, m4⟩ := ih k k2 k1 k3
      exact ⟨m, m1, by omega, m3, m4⟩
    · exact ⟨n, h1, Nat.le_refl _, hq, fun k k1 k2 hk => h ⟨k, k1, k2, hk⟩⟩

theorem prim_ne {p : Nat} (h : Prim p) {m : Nat} (m1 : 1 ≤ m) (m2 : m < ord p) : pw 2 p m ≠ 1 := by
  obtain ⟨n, n1, n2, n3, n4⟩ := least (fun k => pw 2 p k = 1) (ord p) (ord_pos h.1) (prim_pow h)
  have := (prim_first h.1 n1 n3 (fun k k1 k2 => n4 k k1 k2)).2 h
  exact n4 m m1 (by unfold ord at m2; omega)

theorem pw_range {p : Nat} (h : Prim p) (n : Nat) : 1 ≤ pw 2 p n ∧ pw 2 p n ≤ ord p := by
  have h1 := pw_ne h.1 (prim_two_ne h) n
  have h2 := md_lt (irr_ne h.1) (pw 2 p n)
  rw [pw_md] at h2
  unfold ord
  omega

theorem pw_inj {p : Nat} (h : Prim p) {i j : Nat} (hij : i < j) (hj : j < ord p) : pw 2 p i ≠ pw 2 p j := by
  intro he
  refine prim_ne h (m := j - i) (by omega) (by omega) (pw_cancel h.1 (prim_two_ne h) i (j - i) ?_)
  rw [show i + (j - i) = j by omega, he]

theorem pw_onto {p : Nat} (h : Prim p) {a : Nat} (a1 : 1 ≤ a) (a2 : a ≤ ord p) : ∃ n, n < ord p ∧ pw 2 p n = a := by
  by_cases he : ∃ n, n < ord p ∧ pw 2 p n = a
  · exact he
  · exfalso
    have hp := pigeon (ord p) (ord p + 1) (fun i => if i < ord p then pw 2 p i else a) (fun i hi => by
        split
        · exact pw_range h i
        · exact ⟨a1, a2⟩) (fun i j hij hj => by
        rw [if_pos (show i < ord p by omega)]
        split
        · exact pw_inj h hij ‹_›
        · exact fun e => he ⟨i, by omega, e⟩)
    omega

/-- which of the first k powers a is -/
def lgTo (p a : Nat) : Nat → Nat
  | 0 => 0
  | k + 1 => if pw 2 p k = a then k else lgTo p a k
def lg (p a : Nat) : Nat := lgTo p a (ord p)

theorem lgTo_le (p a : Nat) : ∀ k, lgTo p a k ≤ k
  | 0 => Nat.le_refl _
  | k + 1 => by
    have := lgTo_le p a k
    unfold lgTo
    split <;> omega

theorem lgTo_spec (p a : Nat) : ∀ k, (∃ n, n < k ∧ pw 2 p n = a) → lgTo p a k < k ∧ pw 2 p (lgTo p a k) = a
  | 0, ⟨n, hn, _⟩ => absurd hn (by omega)
  | k + 1, ⟨n, hn, he⟩ => by
    unfold lgTo
    split
    · exact ⟨by omega, ‹_›⟩
    · have : n ≠ k := fun e => by subst e; exact absurd he ‹_›
      have := lgTo_spec p a k ⟨n, by omega, he⟩
      exact ⟨by omega, this.2⟩

theorem lg_spec {p : Nat} (h : Prim p) {a : Nat} (a1 : 1 ≤ a) (a2 : a ≤ ord p) : lg p a < ord p ∧ pw 2 p (lg p a) = a := lgTo_spec p a _ (pw_onto h a1 a2)

theorem pw_modord {p : Nat} (h : Prim p) (m : Nat) : pw 2 p (m % ord p) = pw 2 p m := pw_mod (irr_blen h.1).1 (prim_pow h) m

/-- a power of a power -/
theorem pw_pw (a p m : Nat) : ∀ n, pw (pw a p m) p n = pw a p (m * n)
  | 0 => by simp [pw]
  | n + 1 => by rw [pw, pw_pw a p m n, Nat.mul_succ, pw_add]

theorem pw_succ_zero (p n : Nat) : pw 0 p (n + 1) = 0 := by rw [pw, mul_zero, md_zero]

/-- a product is the power of both together -/
theorem mul_lg {p : Nat} (h : Prim p) {a b : Nat} (a1 : 1 ≤ a) (a2 : a ≤ ord p) (b1 : 1 ≤ b) (b2 : b ≤ ord p) : md (mul a b) p = pw 2 p (lg p a + lg p b) := by
  rw [pw_add, (lg_spec h a1 a2).2, (lg_spec h b1 b2).2]

theorem pw_lg {p : Nat} (h : Prim p) {a : Nat} (a1 : 1 ≤ a) (a2 : a ≤ ord p) (n : Nat) : pw a p n = pw 2 p (lg p a * n) := by
  have := pw_pw 2 p (lg p a) n
  rw [(lg_spec h a1 a2).2] at this
  exact this

theorem fermat2 {p : Nat} (h : Prim p) {a : Nat} (a1 : 1 ≤ a) (a2 : a ≤ ord p) : pw a p (ord p) = 1 := by
  rw [pw_lg h a1 a2, ← pw_modord h, Nat.mul_mod_left]
  exact md_one (irr_blen h.1).1

/-- the inverse -/
def inv (p a : Nat) : Nat := pw a p (ord p - 1)

theorem mul_inv {p : Nat} (h : Prim p) {a : Nat} (a1 : 1 ≤ a) (a2 : a ≤ ord p) : md (mul a (inv p a)) p = 1 := by
  have := fermat2 h a1 a2
  rw [show ord p = (ord p - 1) + 1 by have := ord_pos h.1; omega, pw, mul_comm] at this
  exact this

theorem pw_le {p : Nat} (h : irr p = true) (a n : Nat) : pw a p n ≤ ord p := by
  have h2 := md_lt (irr_ne h) (pw a p n)
  rw [pw_md] at h2
  unfold ord
  omega

theorem inv_range {p : Nat} (h : Prim p) {a : Nat} (a1 : 1 ≤ a) (a2 : a ≤ ord p) : 1 ≤ inv p a ∧ inv p a ≤ ord p := by
  unfold inv
  rw [pw_lg h a1 a2]
  exact pw_range h _

/-- 2 to any power, also one below 0 -/
def ex (p : Nat) (n : Int) : Nat := pw 2 p (n % (ord p : Int)).toNat

theorem ex_nat {p : Nat} (h : Prim p) (n : Nat) : ex p (n : Int) = pw 2 p n := by
  unfold ex
  rw [show (((n : Int) % (ord p : Int)).toNat) = n % ord p by rw [← Int.natCast_emod]; rfl, pw_modord h]

theorem ex_range {p : Nat} (h : Prim p) (n : Int) : 1 ≤ ex p n ∧ ex p n ≤ ord p := pw_range h _

theorem ex_neg {p : Nat} (h : Prim p) {a : Nat} (a1 : 1 ≤ a) (a2 : a ≤ ord p) : ex p (-(lg p a : Int)) = inv p a := by
  obtain ⟨hl, _⟩ := lg_spec h a1 a2
  unfold inv
  rw [pw_lg h a1 a2, ← ex_nat h]
  unfold ex
  congr 2
  have h0 := ord_pos h.1
  obtain ⟨c, hc⟩ : ∃ c, ord p = c + 1 := ⟨ord p - 1, by omega⟩
  rw [hc]
  rw [show c + 1 - 1 = c by omega]
  rw [show ((lg p a * c : Nat) : Int) = -(lg p a : Int) + ((c + 1 : Nat) : Int) * (lg p a : Int) by
    rw [Int.natCast_mul, Int.natCast_add, Int.add_mul, Int.mul_comm]; simp; omega]
  rw [Int.add_mul_emod_self_left]

theorem ex_mod {p : Nat} (n : Int) : pw 2 p (n % (ord p : Int)).toNat = ex p n := rfl

theorem lg_lt (p a : Nat) : lg p a ≤ ord p := lgTo_le p a _

/-- the table of logarithms, one step further -/
theorem lgTo_succ (p a k : Nat) : lgTo p a (k + 1) = if pw 2 p k = a then k else lgTo p a k := rfl

theorem md_in {p : Nat} (h : irr p = true) (a : Nat) : md a p ≤ ord p := by
  have := md_lt (irr_ne h) a
  unfold ord
  omega

theorem md_self {p : Nat} (h : irr p = true) {a : Nat} (ha : a ≤ ord p) : md a p = a := md_small (irr_ne h) (by have := ord_succ h; omega)

theorem mul_assoc_md (a b c p : Nat) : md (mul (md (mul a b) p) c) p = md (mul a (md (mul b c) p)) p := by
  rw [md_mulL, mul_assoc, md_mulR]

theorem xor_le {p a b : Nat} (h : irr p = true) (ha : a ≤ ord p) (hb : b ≤ ord p) : a ^^^ b ≤ ord p := by
  have h1 := ord_succ h
  have := Nat.xor_lt_two_pow (x := a) (y := b) (n := blen p - 1) (by omega) (by omega)
  omega

/-- the step of the table of powers -/
theorem pw_step {p k : Nat} (h : irr p = true) : pw 2 p (k + 1) = if 2 ^ (blen p - 1) ≤ 2 * pw 2 p k then 2 * pw 2 p k ^^^ p else 2 * pw 2 p k := by
  have hp := irr_ne h
  have h0 := ord_succ h
  have hle := pw_le h 2 k
  have hl := low_of hp
  have hb := (irr_blen h).1
  rw [pw, mul_two]
  generalize pw 2 p k = x at *
  have hx : 2 * x < 2 ^ (blen p - 1 + 1) := by rw [Nat.pow_succ]; omega
  split
  · rename_i hge
    have hlt : 2 * x ^^^ p < 2 ^ (blen p - 1) := by
      refine Nat.lt_pow_two_of_testBit _ (fun i hi => ?_)
      rw [Nat.testBit_xor]
      rcases Nat.lt_or_ge i (blen p) with h1 | h1
      · obtain rfl : i = blen p - 1 := by omega
        rw [tb_top hge hx, tb_top hl.1 hl.2]; rfl
      · rw [Nat.testBit_lt_two_pow (Nat.lt_of_lt_of_le hx (Nat.pow_le_pow_right (by decide) (by omega))), Nat.testBit_lt_two_pow (Nat.lt_of_lt_of_le hl.2 (Nat.pow_le_pow_right (by decide) (by omega)))]; rfl
    rw [← md_small hp hlt]
    have := md_xor_shl (2 * x) p 0
    rw [Nat.shiftLeft_zero] at this
    rw [this]
  · exact md_small hp (by omega)

end Go.Proofs.YtgdgimknnjbieaaGreatDoor.M
