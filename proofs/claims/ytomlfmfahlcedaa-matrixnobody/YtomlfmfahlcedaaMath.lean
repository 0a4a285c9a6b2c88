/- Plain mathematics, of no program: polynomials over GF(2) as natural numbers: products without carries, remainders, and their laws. -/
namespace Go.Proofs.Ytomlfmfahlcedaa.M

/-- how many bits a number has -/
def blen (n : Nat) : Nat := if n = 0 then 0 else Nat.log2 n + 1

theorem lt_blen (n k : Nat) : k < blen n ↔ 2 ^ k ≤ n := by
  unfold blen
  by_cases h : n = 0
  · subst h
    have := Nat.two_pow_pos k
    simp
  · rw [if_neg h, Nat.lt_succ_iff, Nat.le_log2 h]

theorem blen_le (n k : Nat) : blen n ≤ k ↔ n < 2 ^ k := by
  have := lt_blen n k
  omega

theorem lt_pow_blen (n : Nat) : n < 2 ^ blen n := (blen_le n _).1 (Nat.le_refl _)

theorem blen_pos {n : Nat} (h : n ≠ 0) : 0 < blen n := by
  rw [lt_blen]; simp; omega

theorem blen_zero : blen 0 = 0 := rfl

theorem pow_blen_le {n : Nat} (h : n ≠ 0) : 2 ^ (blen n - 1) ≤ n := by
  have := blen_pos h
  rw [← lt_blen]; omega

theorem blen_eq {n k : Nat} (h1 : 2 ^ k ≤ n) (h2 : n < 2 ^ (k + 1)) : blen n = k + 1 := by
  have a := (lt_blen n k).2 h1
  have b := (blen_le n (k + 1)).2 h2
  omega

theorem tb_top {n k : Nat} (h1 : 2 ^ k ≤ n) (h2 : n < 2 ^ (k + 1)) : n.testBit k = true := by
  rw [Nat.testBit_eq_decide_div_mod_eq]
  have : n / 2 ^ k = 1 := by
    apply Nat.div_eq_of_lt_le <;> rw [Nat.pow_succ] at * <;> omega
  rw [this]; rfl

theorem xor_top_lt {n k : Nat} (h : n < 2 ^ (k + 1)) (hb : n.testBit k = true) : n ^^^ 2 ^ k < 2 ^ k := by
  apply Nat.lt_pow_two_of_testBit
  intro i hi
  rw [Nat.testBit_xor, Nat.testBit_two_pow]
  by_cases e : k = i
  · subst e; simp [hb]
  · have : n.testBit i = false := Nat.testBit_lt_two_pow (Nat.lt_of_lt_of_le h (Nat.pow_le_pow_right (by decide) (by omega)))
    simp [this, e]

theorem lt_of_tb_false {n k : Nat} (h : n < 2 ^ (k + 1)) (hb : n.testBit k = false) : n < 2 ^ k := by
  apply Nat.lt_pow_two_of_testBit
  intro i hi
  by_cases e : k = i
  · subst e; exact hb
  · exact Nat.testBit_lt_two_pow (Nat.lt_of_lt_of_le h (Nat.pow_le_pow_right (by decide) (by omega)))

def Lin (f : Nat → Nat) : Prop := ∀ a b, f (a ^^^ b) = f a ^^^ f b

theorem Lin.zero {f : Nat → Nat} (h : Lin f) : f 0 = 0 := by
  have := h 0 0
  simpa using this

/-- two linear maps that agree on the powers of 2 agree -/
theorem lin_ext {f g : Nat → Nat} (hf : Lin f) (hg : Lin g) : ∀ (k : Nat), (∀ j, j < k → f (2 ^ j) = g (2 ^ j)) → ∀ a, a < 2 ^ k → f a = g a
  | 0, _, a, ha => by
    obtain rfl : a = 0 := by simpa using ha
    rw [hf.zero, hg.zero]
  | k + 1, h, a, ha => by
    have ih := lin_ext hf hg k (fun j hj => h j (by omega))
    cases hb : a.testBit k with
    | false => exact ih a (lt_of_tb_false ha hb)
    | true =>
      have e : a = (a ^^^ 2 ^ k) ^^^ 2 ^ k := by rw [Nat.xor_assoc, Nat.xor_self, Nat.xor_zero]
      rw [e, hf, hg, ih _ (xor_top_lt ha hb), h k (by omega)]

theorem lin_ext' {f g : Nat → Nat} (hf : Lin f) (hg : Lin g) (h : ∀ j, f (2 ^ j) = g (2 ^ j)) (a : Nat) : f a = g a :=
  lin_ext hf hg a (fun j _ => h j) a Nat.lt_two_pow_self

/-! ### products -/

def mulTo (a b : Nat) : Nat → Nat
  | 0 => 0
  | k + 1 => mulTo a b k ^^^ (if b.testBit k then a <<< k else 0)

def mul (a b : Nat) : Nat := mulTo a b (blen b)

theorem mulTo_more (a b k : Nat) (hb : b < 2 ^ k) : ∀ d, mulTo a b (k + d) = mulTo a b k
  | 0 => rfl
  | d + 1 => by
    have : b.testBit (k + d) = false := Nat.testBit_lt_two_pow (Nat.lt_of_lt_of_le hb (Nat.pow_le_pow_right (by decide) (by omega)))
    rw [← Nat.add_assoc, mulTo, this, mulTo_more a b k hb d]; simp

theorem mul_eq {a b k : Nat} (hb : b < 2 ^ k) : mul a b = mulTo a b k := by
  have h := (blen_le b k).2 hb
  have := mulTo_more a b (blen b) (lt_pow_blen b) (k - blen b)
  rw [Nat.add_sub_of_le h] at this
  exact this.symm

theorem ite_xor (p q : Bool) (x : Nat) : (if (p ^^ q) then x else 0) = (if p then x else 0) ^^^ (if q then x else 0) := by
  cases p <;> cases q <;> simp

theorem xor4 (a b c d : Nat) : (a ^^^ b) ^^^ (c ^^^ d) = (a ^^^ c) ^^^ (b ^^^ d) := by
  rw [Nat.xor_assoc, Nat.xor_assoc, ← Nat.xor_assoc b, Nat.xor_comm b c, Nat.xor_assoc c]

theorem mulTo_lin (a k : Nat) : Lin fun b => mulTo a b k := by
  intro b c
  show mulTo a (b ^^^ c) k = mulTo a b k ^^^ mulTo a c k
  induction k with
  | zero => simp [mulTo]
  | succ k ih => rw [mulTo, mulTo, mulTo, ih, Nat.testBit_xor, ite_xor, xor4]

theorem mulTo_linL (b k : Nat) : Lin fun a => mulTo a b k := by
  intro a c
  show mulTo (a ^^^ c) b k = mulTo a b k ^^^ mulTo c b k
  induction k with
  | zero => simp [mulTo]
  | succ k ih =>
    rw [mulTo, mulTo, mulTo, ih, xor4]
    cases b.testBit k
    · simp
    · simp [Nat.shiftLeft_xor_distrib]

theorem mul_lin (a : Nat) : Lin (mul a) := by
  intro b c
  have hb : b < 2 ^ (b + c) := Nat.lt_of_lt_of_le Nat.lt_two_pow_self (Nat.pow_le_pow_right (by decide) (by omega))
  have hc : c < 2 ^ (b + c) := Nat.lt_of_lt_of_le Nat.lt_two_pow_self (Nat.pow_le_pow_right (by decide) (by omega))
  rw [mul_eq hb, mul_eq hc, mul_eq (Nat.xor_lt_two_pow hb hc)]
  exact mulTo_lin a _ b c

theorem mul_linL (b : Nat) : Lin fun a => mul a b := mulTo_linL b _

theorem mulTo_two_pow (a j : Nat) : ∀ k, mulTo a (2 ^ j) k = if j < k then a <<< j else 0
  | 0 => by simp [mulTo]
  | k + 1 => by
    rw [mulTo, mulTo_two_pow a j k, Nat.testBit_two_pow]
    by_cases h : j = k
    · subst h; simp
    · have : (j < k + 1) ↔ (j < k) := by omega
      simp [h, this]

theorem mul_two_pow (a j : Nat) : mul a (2 ^ j) = a <<< j := by
  rw [mul_eq (k := j + 1) (Nat.pow_lt_pow_right (by decide) (by omega)), mulTo_two_pow, if_pos (by omega)]

theorem shl_lin (j : Nat) : Lin fun a => a <<< j := fun _ _ => Nat.shiftLeft_xor_distrib

theorem two_pow_shl (i j : Nat) : 2 ^ i <<< j = 2 ^ (i + j) := by rw [Nat.shiftLeft_eq, Nat.pow_add]

theorem two_pow_mul (a j : Nat) : mul (2 ^ j) a = a <<< j :=
  lin_ext' (mul_lin (2 ^ j)) (shl_lin j) (fun i => by rw [mul_two_pow, two_pow_shl]; show _ = 2 ^ i <<< j; rw [two_pow_shl, Nat.add_comm]) a

theorem mul_comm (a b : Nat) : mul a b = mul b a :=
  lin_ext' (mul_lin a) (mul_linL a) (fun j => by rw [mul_two_pow]; exact (two_pow_mul a j).symm) b

theorem Lin.comp {f g : Nat → Nat} (hf : Lin f) (hg : Lin g) : Lin fun a => f (g a) := fun a b => by
  show f (g (a ^^^ b)) = _
  rw [hg, hf]

theorem mul_shl (a b j : Nat) : mul a (b <<< j) = mul a b <<< j :=
  lin_ext' (f := fun b => mul a (b <<< j)) (g := fun b => mul a b <<< j) ((mul_lin a).comp (shl_lin j)) ((shl_lin j).comp (mul_lin a))
    (fun i => by show mul a (2 ^ i <<< j) = mul a (2 ^ i) <<< j; rw [two_pow_shl, mul_two_pow, mul_two_pow, Nat.shiftLeft_add]) b

theorem mul_assoc (a b c : Nat) : mul (mul a b) c = mul a (mul b c) :=
  lin_ext' (mul_lin (mul a b)) ((mul_lin a).comp (mul_lin b)) (fun j => by rw [mul_two_pow, mul_two_pow, mul_shl]) c

theorem mul_one (a : Nat) : mul a 1 = a := by have := mul_two_pow a 0; simpa using this
theorem one_mul (a : Nat) : mul 1 a = a := by rw [mul_comm, mul_one]
theorem mul_zero (a : Nat) : mul a 0 = 0 := rfl
theorem zero_mul (a : Nat) : mul 0 a = 0 := by rw [mul_comm, mul_zero]
theorem mul_two (a : Nat) : mul a 2 = 2 * a := by have := mul_two_pow a 1; rw [Nat.shiftLeft_eq] at this; simp at this; omega

theorem shl_lt {a l k : Nat} (h : a < 2 ^ l) : a <<< k < 2 ^ (l + k) := by
  rw [Nat.shiftLeft_eq, Nat.pow_add]
  exact Nat.mul_lt_mul_of_pos_right h (Nat.two_pow_pos k)

theorem mulTo_lt {a b l : Nat} (ha : a < 2 ^ l) : ∀ k, mulTo a b k < 2 ^ (l + k - 1)
  | 0 => Nat.two_pow_pos _
  | k + 1 => by
    rw [mulTo]
    have ih := mulTo_lt (b := b) ha k
    apply Nat.xor_lt_two_pow
    · exact Nat.lt_of_lt_of_le ih (Nat.pow_le_pow_right (by decide) (by omega))
    · split
      · exact shl_lt ha
      · exact Nat.two_pow_pos _

theorem mul_lt {a b l k : Nat} (ha : a < 2 ^ l) (hb : b < 2 ^ k) : mul a b < 2 ^ (l + k - 1) := by
  rw [mul_eq hb]; exact mulTo_lt ha k

theorem mul_top {a b l m : Nat} (ha1 : 2 ^ l ≤ a) (ha2 : a < 2 ^ (l + 1)) (hb1 : 2 ^ m ≤ b) (hb2 : b < 2 ^ (m + 1)) :
    2 ^ (l + m) ≤ mul a b ∧ mul a b < 2 ^ (l + m + 1) := by
  refine ⟨?_, by have := mul_lt ha2 hb2; rw [show l + 1 + (m + 1) - 1 = l + m + 1 by omega] at this; exact this⟩
  have e : b = (b ^^^ 2 ^ m) ^^^ 2 ^ m := by rw [Nat.xor_assoc, Nat.xor_self, Nat.xor_zero]
  have hs := xor_top_lt hb2 (tb_top hb1 hb2)
  have h1 := mul_lt ha2 hs
  rw [e, mul_lin a, mul_two_pow]
  apply Nat.ge_two_pow_of_testBit
  rw [Nat.testBit_xor, Nat.testBit_shiftLeft, Nat.testBit_lt_two_pow (by rw [show l + 1 + m - 1 = l + m by omega] at h1; exact h1)]
  simp [tb_top ha1 ha2]

theorem blen_mul {a b : Nat} (ha : a ≠ 0) (hb : b ≠ 0) : blen (mul a b) + 1 = blen a + blen b := by
  have pa := blen_pos ha
  have pb := blen_pos hb
  have h := mul_top (l := blen a - 1) (m := blen b - 1) (pow_blen_le ha) (by rw [Nat.sub_add_cancel pa]; exact lt_pow_blen a) (pow_blen_le hb) (by rw [Nat.sub_add_cancel pb]; exact lt_pow_blen b)
  have := blen_eq h.1 h.2
  omega

theorem mul_ne_zero {a b : Nat} (ha : a ≠ 0) (hb : b ≠ 0) : mul a b ≠ 0 := by
  intro h
  have := blen_mul ha hb
  have pa := blen_pos ha
  have pb := blen_pos hb
  rw [h, blen_zero] at this
  omega

/-! ### remainders -/

def red (p low : Nat) : Nat → Nat → Nat
  | 0, a => a
  | k + 1, a => red p low k (a ^^^ (if a.testBit (k + low) then p <<< k else 0))

def md (a p : Nat) : Nat := if p = 0 then 0 else red p (blen p - 1) (blen a + 1 - blen p) a

theorem red_lin (p low k : Nat) : Lin (red p low k) := by
  intro a b
  induction k generalizing a b with
  | zero => rfl
  | succ k ih => rw [red, red, red, ← ih, Nat.testBit_xor, ite_xor, xor4]

theorem red_small {p low : Nat} : ∀ (k : Nat) {a : Nat}, a < 2 ^ low → red p low k a = a
  | 0, _, _ => rfl
  | k + 1, a, h => by
    have : a.testBit (k + low) = false := Nat.testBit_lt_two_pow (Nat.lt_of_lt_of_le h (Nat.pow_le_pow_right (by decide) (by omega)))
    rw [red, this]
    simp [red_small k h]

theorem red_more {p low k a : Nat} (h : a < 2 ^ (k + low)) : ∀ d, red p low (k + d) a = red p low k a
  | 0 => rfl
  | d + 1 => by
    have : a.testBit (k + d + low) = false := Nat.testBit_lt_two_pow (Nat.lt_of_lt_of_le h (Nat.pow_le_pow_right (by decide) (by omega)))
    rw [← Nat.add_assoc, red, this]
    simp [red_more h d]

theorem red_lt {p low : Nat} (h1 : 2 ^ low ≤ p) (h2 : p < 2 ^ (low + 1)) : ∀ (k : Nat) {a : Nat}, a < 2 ^ (k + low) → red p low k a < 2 ^ low
  | 0, a, h => by simpa [red] using h
  | k + 1, a, h => by
    rw [red]
    apply red_lt h1 h2 k
    rw [show k + 1 + low = (k + low) + 1 by omega] at h
    cases hb : a.testBit (k + low) with
    | false => simpa using lt_of_tb_false h hb
    | true =>
      have hs : p <<< k < 2 ^ ((k + low) + 1) := by have := shl_lt (k := k) h2; rwa [show low + 1 + k = (k + low) + 1 by omega] at this
      have ht : (p <<< k).testBit (k + low) = true := by
        rw [Nat.testBit_shiftLeft]; simp [tb_top h1 h2]
      apply lt_of_tb_false
      · simp only [if_true]; exact Nat.xor_lt_two_pow h hs
      · simp [Nat.testBit_xor, hb, ht]

theorem step_lt {p low k a : Nat} (h1 : 2 ^ low ≤ p) (h2 : p < 2 ^ (low + 1)) (h : a < 2 ^ (k + 1 + low)) :
    a ^^^ (if a.testBit (k + low) then p <<< k else 0) < 2 ^ (k + low) := by
  rw [show k + 1 + low = (k + low) + 1 by omega] at h
  cases hb : a.testBit (k + low) with
  | false => simpa using lt_of_tb_false h hb
  | true =>
    have hs : p <<< k < 2 ^ ((k + low) + 1) := by have := shl_lt (k := k) h2; rwa [show low + 1 + k = (k + low) + 1 by omega] at this
    have ht : (p <<< k).testBit (k + low) = true := by
      rw [Nat.testBit_shiftLeft]; simp [tb_top h1 h2]
    apply lt_of_tb_false
    · simp only [if_true]; exact Nat.xor_lt_two_pow h hs
    · simp [Nat.testBit_xor, hb, ht]

theorem low_of {p : Nat} (hp : p ≠ 0) : 2 ^ (blen p - 1) ≤ p ∧ p < 2 ^ (blen p - 1 + 1) := by
  refine ⟨pow_blen_le hp, ?_⟩
  rw [Nat.sub_add_cancel (blen_pos hp)]
  exact lt_pow_blen p

theorem md_eq {a p k : Nat} (hp : p ≠ 0) (h : a < 2 ^ (k + (blen p - 1))) : md a p = red p (blen p - 1) k a := by
  rw [md, if_neg hp]
  have pp := blen_pos hp
  have ha : a < 2 ^ (blen a + 1 - blen p + (blen p - 1)) := Nat.lt_of_lt_of_le (lt_pow_blen a) (Nat.pow_le_pow_right (by decide) (by omega))
  rcases Nat.le_total k (blen a + 1 - blen p) with hk | hk
  · have := red_more (p := p) h (blen a + 1 - blen p - k)
    rw [Nat.add_sub_of_le hk] at this
    exact this
  · have := red_more (p := p) ha (k - (blen a + 1 - blen p))
    rw [Nat.add_sub_of_le hk] at this
    exact this.symm

theorem md_zero_right (a : Nat) : md a 0 = 0 := by simp [md]

theorem md_lin (p : Nat) : Lin fun a => md a p := by
  intro a b
  show md (a ^^^ b) p = md a p ^^^ md b p
  by_cases hp : p = 0
  · subst hp; simp [md_zero_right]
  · have ha : a < 2 ^ (a + b + (blen p - 1)) := Nat.lt_of_lt_of_le Nat.lt_two_pow_self (Nat.pow_le_pow_right (by decide) (by omega))
    have hb : b < 2 ^ (a + b + (blen p - 1)) := Nat.lt_of_lt_of_le Nat.lt_two_pow_self (Nat.pow_le_pow_right (by decide) (by omega))
    rw [md_eq hp ha, md_eq hp hb, md_eq hp (Nat.xor_lt_two_pow ha hb), red_lin]

theorem md_lt {p : Nat} (hp : p ≠ 0) (a : Nat) : md a p < 2 ^ (blen p - 1) := by
  have ha : a < 2 ^ (a + (blen p - 1)) := Nat.lt_of_lt_of_le Nat.lt_two_pow_self (Nat.pow_le_pow_right (by decide) (by omega))
  rw [md_eq hp ha]
  exact red_lt (low_of hp).1 (low_of hp).2 _ ha

theorem md_small {p a : Nat} (hp : p ≠ 0) (h : a < 2 ^ (blen p - 1)) : md a p = a := by
  rw [md_eq (k := 0) hp (by simpa using h)]; rfl

theorem md_md (a p : Nat) : md (md a p) p = md a p := by
  by_cases hp : p = 0
  · subst hp; simp [md_zero_right]
  · exact md_small hp (md_lt hp a)

theorem md_zero (p : Nat) : md 0 p = 0 := (md_lin p).zero

theorem md_shl (p j : Nat) : md (p <<< j) p = 0 := by
  by_cases hp : p = 0
  · subst hp; simp [md_zero_right]
  · have h := low_of hp
    have hs : p <<< j < 2 ^ (j + 1 + (blen p - 1)) := by have := shl_lt (k := j) h.2; rwa [show blen p - 1 + 1 + j = j + 1 + (blen p - 1) by omega] at this
    have ht : (p <<< j).testBit (j + (blen p - 1)) = true := by
      rw [Nat.testBit_shiftLeft]; simp [tb_top h.1 h.2]
    rw [md_eq hp hs, red, ht]
    simp [(red_lin p _ _).zero]

theorem md_mul_self (p q : Nat) : md (mul p q) p = 0 :=
  lin_ext' (f := fun q => md (mul p q) p) (g := fun _ => 0) ((md_lin p).comp (mul_lin p)) (fun _ _ => by simp) (fun j => by show md (mul p (2 ^ j)) p = 0; rw [mul_two_pow, md_shl]) q

theorem red_quo (p low : Nat) : ∀ (k a : Nat), ∃ q, q < 2 ^ k ∧ a ^^^ red p low k a = mul p q
  | 0, a => ⟨0, by simp, by simp [red, mul_zero]⟩
  | k + 1, a => by
    rw [red]
    cases hb : a.testBit (k + low) with
    | false =>
      obtain ⟨q, h1, h2⟩ := red_quo p low k a
      exact ⟨q, by rw [Nat.pow_succ]; omega, by simpa using h2⟩
    | true =>
      obtain ⟨q, h1, h2⟩ := red_quo p low k (a ^^^ p <<< k)
      refine ⟨q ^^^ 2 ^ k, Nat.xor_lt_two_pow (by rw [Nat.pow_succ]; omega) (by rw [Nat.pow_succ]; have := Nat.two_pow_pos k; omega), ?_⟩
      rw [mul_lin p, mul_two_pow, ← h2]
      simp only [if_true]
      generalize red p low k (a ^^^ p <<< k) = r
      generalize p <<< k = s
      rw [Nat.xor_assoc a s, Nat.xor_comm s r, Nat.xor_assoc a, Nat.xor_assoc r, Nat.xor_self, Nat.xor_zero]

theorem md_quo {p : Nat} (hp : p ≠ 0) (a : Nat) : ∃ q, a ^^^ md a p = mul p q := by
  rw [md, if_neg hp]
  obtain ⟨q, _, h⟩ := red_quo p (blen p - 1) (blen a + 1 - blen p) a
  exact ⟨q, h⟩

theorem xor_eq_zero {a b : Nat} (h : a ^^^ b = 0) : a = b := by
  have : a ^^^ b ^^^ b = b := by rw [h, Nat.zero_xor]
  rwa [Nat.xor_assoc, Nat.xor_self, Nat.xor_zero] at this

theorem md_mulL (a b p : Nat) : md (mul (md a p) b) p = md (mul a b) p := by
  by_cases hp : p = 0
  · subst hp; simp [md_zero_right]
  · obtain ⟨q, hq⟩ := md_quo hp a
    apply Eq.symm
    apply xor_eq_zero
    rw [← md_lin p]
    show md (mul a b ^^^ mul (md a p) b) p = 0
    rw [← mul_linL b]
    show md (mul (a ^^^ md a p) b) p = 0
    rw [hq, mul_assoc, md_mul_self]

theorem md_mulR (a b p : Nat) : md (mul a (md b p)) p = md (mul a b) p := by
  rw [mul_comm, md_mulL, mul_comm]

/-- taking a multiple away changes no remainder -/
theorem md_xor_shl (a p j : Nat) : md (a ^^^ p <<< j) p = md a p := by
  have h : md (a ^^^ p <<< j) p = md a p ^^^ md (p <<< j) p := md_lin p a (p <<< j)
  rw [h, md_shl, Nat.xor_zero]

/-! ### what is irreducible -/

/-- no number below n, from 2 on, divides p -/
def noDiv (p : Nat) : Nat → Bool
  | 0 => true
  | n + 1 => noDiv p n && (decide (n < 2) || md p n != 0)

def irr (p : Nat) : Bool := decide (2 ≤ blen p) && decide (blen p ≤ 17) && noDiv p (2 ^ ((blen p - 1) / 2 + 1))

theorem noDiv_iff (p : Nat) : ∀ n, noDiv p n = true ↔ ∀ q, 2 ≤ q → q < n → md p q ≠ 0
  | 0 => by simp [noDiv]
  | n + 1 => by
    rw [noDiv, Bool.and_eq_true, noDiv_iff p n]
    constructor
    · rintro ⟨h1, h2⟩ q hq hqn
      by_cases e : q = n
      · subst e
        simpa [show ¬ q < 2 by omega] using h2
      · exact h1 q hq (by omega)
    · intro h
      refine ⟨fun q hq hqn => h q hq (by omega), ?_⟩
      by_cases h2 : n < 2
      · simp [h2]
      · simpa [h2] using h n (by omega) (by omega)

theorem noDiv_false {p n m : Nat} (h2 : 2 ≤ n) (hm : n < m) (h : md p n = 0) : noDiv p m = false := by
  rw [Bool.eq_false_iff]
  intro hn
  exact (noDiv_iff p m).1 hn n h2 hm h

theorem noDiv_succ {p n : Nat} (h : noDiv p n = true) (h2 : n < 2 ∨ md p n ≠ 0) : noDiv p (n + 1) = true := by
  rw [noDiv, h]
  rcases h2 with h2 | h2 <;> simp [h2]

end Go.Proofs.Ytomlfmfahlcedaa.M
