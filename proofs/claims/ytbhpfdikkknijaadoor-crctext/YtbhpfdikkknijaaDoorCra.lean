/- Layer 13: steps of a checksum, as numbers: plain mathematics. -/
namespace Go.Proofs.YtbhpfdikkknijaaDoor

/-- a step -/
def cstp (n : Nat) : Nat := if n % 2 = 1 then n / 2 ^^^ 3988292384 else n / 2
theorem div2_xor (a b : Nat) : (a ^^^ b) / 2 = a / 2 ^^^ b / 2 := by
  have := Nat.shiftRight_xor_distrib (a := a) (b := b) (i := 1)
  simpa [Nat.shiftRight_eq_div_pow] using this
theorem mod2_xor (a b : Nat) : (a ^^^ b) % 2 = (a % 2 + b % 2) % 2 := by
  have h := Nat.testBit_xor a b 0
  simp only [Nat.testBit_zero] at h
  rcases Nat.mod_two_eq_zero_or_one a with ha | ha <;> rcases Nat.mod_two_eq_zero_or_one b with hb | hb <;> rcases Nat.mod_two_eq_zero_or_one (a ^^^ b) with hc | hc <;> simp_all
theorem cstp_xor (a b : Nat) : cstp (a ^^^ b) = cstp a ^^^ cstp b := by
  have h1 := mod2_xor a b
  have h2 := div2_xor a b
  have hx : ∀ x y : Nat, x ^^^ (y ^^^ 3988292384) = x ^^^ y ^^^ 3988292384 := fun x y => (Nat.xor_assoc _ _ _).symm
  have hy : ∀ x y : Nat, x ^^^ 3988292384 ^^^ y = x ^^^ y ^^^ 3988292384 := fun x y => by rw [Nat.xor_assoc, Nat.xor_comm 3988292384 y, ← Nat.xor_assoc]
  have hz : ∀ x : Nat, x ^^^ 3988292384 ^^^ 3988292384 = x := fun x => by rw [Nat.xor_assoc, Nat.xor_self, Nat.xor_zero]
  unfold cstp
  rw [h2]
  rcases Nat.mod_two_eq_zero_or_one a with ha | ha <;> rcases Nat.mod_two_eq_zero_or_one b with hb | hb <;> rw [ha, hb] at h1 <;> simp only [ha, hb, h1] <;> simp [hx, hy, hz]
theorem cstp_zero : cstp 0 = 0 := rfl
theorem cstp_lt {n : Nat} (h : n < 4294967296) : cstp n < 4294967296 := by
  unfold cstp
  split
  · exact Nat.xor_lt_two_pow (n := 32) (by omega) (by omega)
  · omega
theorem cstp_ne {n : Nat} (h : n < 4294967296) (h0 : n ≠ 0) : cstp n ≠ 0 := by
  unfold cstp
  split
  · intro e
    have e2 : n / 2 = 3988292384 := by
      have h5 := congrArg (· ^^^ 3988292384) e
      simp only [Nat.xor_assoc, Nat.xor_self, Nat.xor_zero, Nat.zero_xor] at h5
      exact h5
    omega
  · omega
/-- eight steps -/
def cst8 (n : Nat) : Nat := cstp (cstp (cstp (cstp (cstp (cstp (cstp (cstp n)))))))
theorem cst8_xor (a b : Nat) : cst8 (a ^^^ b) = cst8 a ^^^ cst8 b := by unfold cst8; simp only [cstp_xor]
theorem cst8_lt {n : Nat} (h : n < 4294967296) : cst8 n < 4294967296 := cstp_lt (cstp_lt (cstp_lt (cstp_lt (cstp_lt (cstp_lt (cstp_lt (cstp_lt h)))))))
theorem cst8_ne {n : Nat} (h : n < 4294967296) (h0 : n ≠ 0) : cst8 n ≠ 0 :=
  cstp_ne (cstp_lt (cstp_lt (cstp_lt (cstp_lt (cstp_lt (cstp_lt (cstp_lt h))))))) (cstp_ne (cstp_lt (cstp_lt (cstp_lt (cstp_lt (cstp_lt (cstp_lt h)))))) (cstp_ne (cstp_lt (cstp_lt (cstp_lt (cstp_lt (cstp_lt h))))) (cstp_ne (cstp_lt (cstp_lt (cstp_lt (cstp_lt h)))) (cstp_ne (cstp_lt (cstp_lt (cstp_lt h))) (cstp_ne (cstp_lt (cstp_lt h)) (cstp_ne (cstp_lt h) (cstp_ne h h0)))))))
theorem cstp_even (m : Nat) : cstp (2 * m) = m := by unfold cstp; rw [if_neg (by omega)]; omega
theorem cst8_high (m : Nat) : cst8 (256 * m) = m := by
  unfold cst8
  rw [show 256 * m = 2 * (2 * (2 * (2 * (2 * (2 * (2 * (2 * m))))))) by omega]
  simp only [cstp_even]
/-- a byte is taken -/
def ctk (n b : Nat) : Nat := cst8 (n ^^^ b)
/-- .. by the table -/
theorem ctk_table (n b : Nat) : ctk n b = n / 256 ^^^ cst8 (n % 256 ^^^ b) := by
  have e : n = 256 * (n / 256) ^^^ n % 256 := by
    have h := Nat.two_pow_add_eq_or_of_lt (i := 8) (b := n % 256) (Nat.mod_lt _ (by omega)) (n / 256)
    have h2 : 256 * (n / 256) ^^^ n % 256 = 256 * (n / 256) ||| n % 256 := by
      apply Nat.eq_of_testBit_eq
      intro i
      rw [Nat.testBit_xor, Nat.testBit_or]
      by_cases hi : i < 8
      · have : Nat.testBit (256 * (n / 256)) i = false := by
          rw [show 256 * (n / 256) = 2 ^ 8 * (n / 256) from rfl, Nat.testBit_two_pow_mul]
          simp; omega
        rw [this]; simp
      · have : Nat.testBit (n % 256) i = false := Nat.testBit_lt_two_pow (Nat.lt_of_lt_of_le (Nat.mod_lt _ (by omega)) (show 256 ≤ 2 ^ i from Nat.pow_le_pow_right (show 0 < 2 by omega) (show 8 ≤ i by omega)))
        rw [this]; simp
    rw [h2]
    have h3 : 2 ^ 8 * (n / 256) + n % 256 = n := by omega
    rw [← h] 
    omega
  unfold ctk
  conv => lhs; rw [e]
  rw [Nat.xor_assoc, cst8_xor, cst8_high]
/-- all are taken, in turn -/
def crun (f : Nat → Nat) : Nat → Nat → Nat
  | 0, n => n
  | k + 1, n => ctk (crun f k n) (f k)
theorem crun_lt {f : Nat → Nat} (hf : ∀ j, f j < 256) {n : Nat} (h : n < 4294967296) : ∀ k, crun f k n < 4294967296
  | 0 => h
  | k + 1 => cst8_lt (Nat.xor_lt_two_pow (n := 32) (crun_lt hf h k) (Nat.lt_of_lt_of_le (hf k) (by omega)))
theorem crun_congr {f g : Nat → Nat} (n : Nat) : ∀ k, (∀ j, j < k → f j = g j) → crun f k n = crun g k n
  | 0, _ => rfl
  | k + 1, h => by rw [crun, crun, crun_congr n k (fun j hj => h j (by omega)), h k (by omega)]
theorem crun_cat (f : Nat → Nat) (n a : Nat) : ∀ b, crun f (a + b) n = crun (fun j => f (a + j)) b (crun f a n)
  | 0 => rfl
  | b + 1 => by rw [← Nat.add_assoc, crun, crun_cat f n a b, crun]
theorem crun_xor3 (f g h : Nat → Nat) (n : Nat) : ∀ k, crun (fun j => f j ^^^ g j ^^^ h j) k n = crun f k n ^^^ crun g k n ^^^ crun h k n
  | 0 => by simp [crun]
  | k + 1 => by
    rw [crun, crun, crun, crun, crun_xor3 f g h n k]
    unfold ctk
    rw [← cst8_xor, ← cst8_xor]
    congr 1
    simp only [Nat.xor_assoc]
    congr 1
    simp only [← Nat.xor_assoc]
    generalize crun g k n = G
    generalize crun h k n = H
    generalize f k = a
    generalize g k = b
    rw [Nat.xor_comm (G ^^^ H) a, ← Nat.xor_assoc, Nat.xor_assoc (a ^^^ G) H b, Nat.xor_comm H b, ← Nat.xor_assoc]
/-- two bytes otherwise, beside each other -/
theorem crc_small : ∀ x, x < 256 → x ≠ 0 → 256 ≤ cst8 x := by decide +kernel
theorem crun_diff {f g : Nat → Nat} (n k : Nat) : crun f (k + 1) n ^^^ crun g (k + 1) n = cst8 ((crun f k n ^^^ crun g k n) ^^^ (f k ^^^ g k)) := by
  rw [crun, crun]
  unfold ctk
  rw [← cst8_xor]
  congr 1
  generalize crun f k n = A
  generalize crun g k n = B
  rw [Nat.xor_assoc, Nat.xor_assoc, ← Nat.xor_assoc (f k), Nat.xor_comm (f k) B, Nat.xor_assoc]
theorem crun_other {f g : Nat → Nat} (hf : ∀ j, f j < 256) (hg : ∀ j, g j < 256) {n i L : Nat} (hn : n < 4294967296) (hi : i < L) (h1 : f i ≠ g i) (h2 : ∀ j, j < L → j ≠ i → j ≠ i + 1 → f j = g j) : crun f L n ≠ crun g L n := by
  have hlt : ∀ k, crun f k n ^^^ crun g k n < 4294967296 := fun k => Nat.xor_lt_two_pow (n := 32) (crun_lt hf hn k) (crun_lt hg hn k)
  have h0 : ∀ k, k ≤ i → crun f k n ^^^ crun g k n = 0 := fun k hk => by rw [crun_congr n k (fun j hj => h2 j (by omega) (by omega) (by omega)), Nat.xor_self]
  have hb : f i ^^^ g i ≠ 0 := fun e => h1 (by
    have h5 := congrArg (· ^^^ g i) e
    simp only [Nat.xor_assoc, Nat.xor_self, Nat.xor_zero, Nat.zero_xor] at h5
    exact h5)
  have hb2 : f i ^^^ g i < 256 := Nat.xor_lt_two_pow (n := 8) (hf i) (hg i)
  have e1 : crun f (i + 1) n ^^^ crun g (i + 1) n = cst8 (f i ^^^ g i) := by rw [crun_diff, h0 i (Nat.le_refl _), Nat.zero_xor]
  have h3 : ∀ k, i + 1 + k ≤ L → crun f (i + 1 + k) n ^^^ crun g (i + 1 + k) n ≠ 0 := by
    intro k
    induction k with
    | zero => intro _; rw [Nat.add_zero, e1]; exact cst8_ne (by omega) hb
    | succ k ih =>
      intro hk
      rw [← Nat.add_assoc, crun_diff]
      refine cst8_ne (Nat.xor_lt_two_pow (n := 32) (hlt _) (Nat.lt_of_lt_of_le (Nat.xor_lt_two_pow (n := 8) (hf _) (hg _)) (by omega))) ?_
      by_cases hk0 : k = 0
      · subst hk0
        intro e
        have h6 := crc_small _ hb2 hb
        have h7 : f (i + 1) ^^^ g (i + 1) < 256 := Nat.xor_lt_two_pow (n := 8) (hf _) (hg _)
        rw [Nat.add_zero, e1] at e
        have h5 := congrArg (· ^^^ (f (i + 1) ^^^ g (i + 1))) e
        simp only [Nat.xor_assoc, Nat.xor_self, Nat.xor_zero, Nat.zero_xor] at h5
        omega
      · rw [h2 (i + 1 + k) (by omega) (by omega) (by omega), Nat.xor_self, Nat.xor_zero]
        exact ih (by omega)
  intro e
  obtain ⟨k, rfl⟩ : ∃ k, L = i + 1 + k := ⟨L - (i + 1), by omega⟩
  exact h3 k (Nat.le_refl _) (by rw [e, Nat.xor_self])
theorem crc_comp {n : Nat} (h : n < 4294967296) : 4294967295 - n = 4294967295 ^^^ n := by
  apply Nat.eq_of_testBit_eq
  intro i
  rw [Nat.testBit_xor]
  have h1 := Nat.testBit_two_pow_sub_succ (x := n) (n := 32) h i
  rw [show 2 ^ 32 - (n + 1) = 4294967295 - n by omega] at h1
  rw [h1, show (4294967295 : Nat) = 2 ^ 32 - 1 from rfl, Nat.testBit_two_pow_sub_one]
  by_cases hi : i < 32
  · simp [hi]
  · have : n.testBit i = false := Nat.testBit_lt_two_pow (Nat.lt_of_lt_of_le h (show 2 ^ 32 ≤ 2 ^ i from Nat.pow_le_pow_right (by omega) (by omega)))
    simp [hi, this]
end Go.Proofs.YtbhpfdikkknijaaDoor
