/- Plain mathematics, of no program: modulo what is irreducible there is a field; powers come back to 1. -/
import Derived.Test.YtomlfmfahlcedaaPow
namespace Go.Proofs.Ytomlfmfahlcedaa.M

theorem blen_half {x : Nat} (h : x ≠ 0) : blen x = blen (x / 2) + 1 := by
  by_cases h1 : x / 2 = 0
  · rw [h1]
    have : x = 1 := by omega
    subst this; rfl
  · have a := low_of h1
    have hp := blen_pos h1
    have := blen_eq (n := x) (k := blen (x / 2)) (by rw [show blen (x / 2) = blen (x / 2) - 1 + 1 by omega, Nat.pow_succ]; omega) (by rw [show blen (x / 2) + 1 = (blen (x / 2) - 1 + 1) + 1 by omega, Nat.pow_succ]; omega)
    omega

theorem irr_ne {p : Nat} (h : irr p = true) : p ≠ 0 := by
  rintro rfl
  have := irr_blen h
  rw [blen_zero] at this
  omega

theorem irr_noDiv {p : Nat} (h : irr p = true) : noDiv p (2 ^ ((blen p - 1) / 2 + 1)) = true := by
  unfold irr at h
  rw [Bool.and_eq_true] at h
  exact h.2

theorem two_le {q : Nat} (h : 2 ≤ blen q) : 2 ≤ q := by
  have := (lt_blen q 1).1 (by omega)
  omega

/-- nothing of a lower degree, but numbers, divides what is irreducible -/
theorem irr_div {p a : Nat} (h : irr p = true) (h2 : 2 ≤ a) (hl : blen a < blen p) : md p a ≠ 0 := by
  intro hz
  have hd := (noDiv_iff p _).1 (irr_noDiv h)
  have ha : a ≠ 0 := by omega
  obtain ⟨q, hq⟩ := md_quo ha p
  rw [hz, Nat.xor_zero] at hq
  have hp := irr_ne h
  have hq0 : q ≠ 0 := by
    rintro rfl
    rw [mul_zero] at hq
    exact hp hq
  have hb := blen_mul ha hq0
  rw [← hq] at hb
  have a2 : 2 ≤ blen a := (lt_blen a 1).2 (by omega)
  rcases Nat.lt_or_ge ((blen p - 1) / 2 + 1) (blen a) with h1 | h1
  · refine hd q (two_le (by omega)) ((blen_le _ _).1 (by omega)) ?_
    rw [hq, mul_comm, md_mul_self]
  · exact hd a h2 ((blen_le _ _).1 h1) hz

theorem md_blen {p : Nat} (hp : p ≠ 0) (a : Nat) : blen (md a p) < blen p := by
  have := (blen_le _ _).2 (md_lt hp a)
  have := blen_pos hp
  omega

theorem field_low {p b : Nat} (h : irr p = true) (hb : md b p ≠ 0) : ∀ (n a : Nat), a ≤ n → a ≠ 0 → blen a < blen p → md (mul a b) p ≠ 0
  | 0, a, hn, h0, _ => absurd (by omega) h0
  | n + 1, a, hn, h0, hl => by
    by_cases h1 : a = 1
    · subst h1; rwa [one_mul]
    · intro hz
      have hr := irr_div h (show 2 ≤ a by omega) hl
      have hlt := md_lt h0 p
      have hle := pow_blen_le h0
      refine field_low h hb n (md p a) (by omega) hr (Nat.lt_trans (md_blen h0 p) hl) ?_
      obtain ⟨q, hq⟩ := md_quo h0 p
      have e : md p a = p ^^^ mul a q := by rw [← hq, ← Nat.xor_assoc, Nat.xor_self, Nat.zero_xor]
      have e1 : mul (p ^^^ mul a q) b = mul p b ^^^ mul (mul a q) b := mul_linL b p (mul a q)
      have e2 : md (mul p b ^^^ mul (mul a q) b) p = md (mul p b) p ^^^ md (mul (mul a q) b) p := md_lin p _ _
      rw [e, e1, e2, md_mul_self, Nat.zero_xor, mul_comm a q, mul_assoc, ← md_mulR, hz, mul_zero, md_zero]

/-- modulo what is irreducible a product is 0 just if one of both is -/
theorem field {p a b : Nat} (h : irr p = true) (ha : md a p ≠ 0) (hb : md b p ≠ 0) : md (mul a b) p ≠ 0 := by
  rw [← md_mulL]
  exact field_low h hb _ _ (Nat.le_refl _) ha (md_blen (irr_ne h) a)

/-- what is multiplied by one number that is not 0 is told by its product -/
theorem cancel {p a b c : Nat} (h : irr p = true) (hc : md c p ≠ 0) (he : md (mul a c) p = md (mul b c) p) : md a p = md b p := by
  apply xor_eq_zero
  have e1 : md (a ^^^ b) p = md a p ^^^ md b p := md_lin p a b
  rw [← e1]
  apply Classical.byContradiction
  intro hn
  refine field h hn hc ?_
  have e2 : mul (a ^^^ b) c = mul a c ^^^ mul b c := mul_linL c a b
  have e3 : md (mul a c ^^^ mul b c) p = md (mul a c) p ^^^ md (mul b c) p := md_lin p _ _
  rw [e2, e3, he, Nat.xor_self]

theorem md_one_ne {p : Nat} (h : irr p = true) : md 1 p ≠ 0 := by rw [md_one (irr_blen h).1]; decide

theorem pw_ne {p a : Nat} (h : irr p = true) (ha : md a p ≠ 0) : ∀ n, pw a p n ≠ 0
  | 0 => md_one_ne h
  | n + 1 => field h (by rw [pw_md]; exact pw_ne h ha n) ha

theorem pw_cancel {p a : Nat} (h : irr p = true) (ha : md a p ≠ 0) (i d : Nat) (he : pw a p (i + d) = pw a p i) : pw a p d = 1 := by
  rw [Nat.add_comm, pw_add] at he
  have h1 : md (mul (pw a p d) (pw a p i)) p = md (mul 1 (pw a p i)) p := by rw [he, one_mul, pw_md]
  have := cancel h (by rw [pw_md]; exact pw_ne h ha i) h1
  rwa [pw_md, md_one (irr_blen h).1] at this

/-- no more numbers than places -/
theorem pigeon : ∀ (c n : Nat) (f : Nat → Nat), (∀ i, i < n → 1 ≤ f i ∧ f i ≤ c) → (∀ i j, i < j → j < n → f i ≠ f j) → n ≤ c
  | 0, n, f, h, _ => by
    rcases Nat.eq_zero_or_pos n with h0 | h0
    · omega
    · have := h 0 h0
      omega
  | c + 1, n, f, h, hi => by
    by_cases hx : ∃ i, i < n ∧ f i = c + 1
    · obtain ⟨i0, hi0, he⟩ := hx
      have := pigeon c (n - 1) (fun i => if i < i0 then f i else f (i + 1)) (fun i hin => by
        show 1 ≤ (if i < i0 then f i else f (i + 1)) ∧ (if i < i0 then f i else f (i + 1)) ≤ c
        by_cases h1 : i < i0
        · rw [if_pos h1]
          have a := h i (by omega)
          have b := hi i i0 h1 hi0
          omega
        · rw [if_neg h1]
          have a := h (i + 1) (by omega)
          have b := hi i0 (i + 1) (by omega) (by omega)
          omega) (fun i j hij hjn => by
        show (if i < i0 then f i else f (i + 1)) ≠ (if j < i0 then f j else f (j + 1))
        by_cases h1 : i < i0
        · rw [if_pos h1]
          by_cases h2 : j < i0
          · rw [if_pos h2]; exact hi i j hij (by omega)
          · rw [if_neg h2]; exact hi i (j + 1) (by omega) (by omega)
        · rw [if_neg h1, if_neg (by omega)]; exact hi (i + 1) (j + 1) (by omega) (by omega))
      omega
    · have := pigeon c n f (fun i hin => by
        have a := h i hin
        have b : f i ≠ c + 1 := fun e => hx ⟨i, hin, e⟩
        omega) hi
      omega

/-- while no power has come back to 1, there were no more of them than numbers -/
theorem pw_few {p a n : Nat} (h : irr p = true) (ha : md a p ≠ 0) (hn : ∀ m, 1 ≤ m → m < n → pw a p m ≠ 1) : n ≤ 2 ^ (blen p - 1) - 1 := by
  have hp := irr_ne h
  apply pigeon _ n (pw a p)
  · intro i _
    have h1 := pw_ne h ha i
    have h2 := md_lt hp (pw a p i)
    rw [pw_md] at h2
    omega
  · intro i j hij hjn he
    refine hn (j - i) (by omega) (by omega) (pw_cancel h ha i (j - i) ?_)
    rw [show i + (j - i) = j by omega, he]

theorem pw_mod {p a n : Nat} (h2 : 2 ≤ blen p) (hn : pw a p n = 1) (m : Nat) : pw a p (m % n) = pw a p m := by
  have e : m = n * (m / n) + m % n := (Nat.div_add_mod m n).symm
  have h1 := md_one h2
  have : pw a p m = md (mul (pw a p (n * (m / n))) (pw a p (m % n))) p := by
    rw [← pw_add, ← e]
  rw [this, pw_one_mul (hn.trans h1.symm), md_mulL, one_mul, pw_md]

/-- the first power that is 1 tells whether p is primitive -/
theorem prim_first {p n : Nat} (h : irr p = true) (h1 : 1 ≤ n) (hn : pw 2 p n = 1) (hmin : ∀ m, 1 ≤ m → m < n → pw 2 p m ≠ 1) : n = 2 ^ (blen p - 1) - 1 ↔ Prim p := by
  have hb := irr_blen h
  have hc := count_pos hb.1
  unfold Prim
  generalize 2 ^ (blen p - 1) - 1 = c at *
  constructor
  · rintro rfl
    refine ⟨h, hn, fun d hd hl => hmin d ?_ hl⟩
    rcases Nat.eq_zero_or_pos d with rfl | h0
    · have := Nat.eq_zero_of_zero_dvd hd
      omega
    · exact h0
  · rintro ⟨_, hcnt, hd⟩
    have hm := pw_mod hb.1 hn c
    rw [hcnt] at hm
    have hz : c % n = 0 := by
      rcases Nat.eq_zero_or_pos (c % n) with h0 | h0
      · exact h0
      · exact absurd hm (hmin _ h0 (Nat.mod_lt _ h1))
    have hdv := Nat.dvd_of_mod_eq_zero hz
    have hle := Nat.le_of_dvd hc hdv
    rcases Nat.lt_or_ge n c with h3 | h3
    · exact absurd hn (hd n hdv h3)
    · omega

theorem prim_two_ne {p : Nat} (h : Prim p) : md 2 p ≠ 0 := by
  intro hz
  have h1 := h.2.1
  have hc := count_pos (irr_blen h.1).1
  obtain ⟨c, hc⟩ : ∃ c, 2 ^ (blen p - 1) - 1 = c + 1 := ⟨2 ^ (blen p - 1) - 1 - 1, by omega⟩
  rw [hc, pw, ← md_mulR, hz, mul_zero, md_zero] at h1
  cases h1

/-! ### the map that takes a number to its square -/

def sq (p a : Nat) : Nat := md (mul a a) p

theorem sq_lin (p : Nat) : Lin (sq p) := by
  intro a b
  have e1 : mul (a ^^^ b) (a ^^^ b) = mul a (a ^^^ b) ^^^ mul b (a ^^^ b) := mul_linL _ a b
  have e2 : ∀ x y, md (x ^^^ y) p = md x p ^^^ md y p := md_lin p
  unfold sq
  rw [e1, mul_lin a, mul_lin b, mul_comm b a, e2, e2, e2]
  generalize md (mul a b) p = t
  generalize md (mul a a) p = u
  generalize md (mul b b) p = v
  rw [Nat.xor_assoc, ← Nat.xor_assoc t, Nat.xor_self, Nat.zero_xor]

def sqs (p : Nat) : Nat → Nat → Nat
  | 0, a => a
  | k + 1, a => sqs p k (sq p a)

theorem sqs_lin (p : Nat) : ∀ k, Lin (sqs p k)
  | 0 => fun _ _ => rfl
  | k + 1 => fun a b => by rw [sqs, sq_lin p, sqs_lin p k]; rfl

theorem pw_sq (a p : Nat) : ∀ m, pw (sq p a) p m = pw a p (2 * m)
  | 0 => rfl
  | m + 1 => by
    rw [pw, pw_sq a p m, show 2 * (m + 1) = 2 * m + 1 + 1 by omega, pw, pw, md_mulL, mul_assoc, sq, md_mulR]

theorem pw_sqs (p : Nat) : ∀ (k a : Nat), md (sqs p k a) p = pw a p (2 ^ k)
  | 0, a => by rw [sqs, Nat.pow_zero, pw, pw, md_mulL, one_mul]
  | k + 1, a => by rw [sqs, pw_sqs p k, pw_sq, Nat.pow_succ, Nat.mul_comm]

/-- if squares, taken as often as the degree says, come back on the powers of 2, each number but 0 to the power of how many there are is 1 -/
theorem fermat {p : Nat} (h : irr p = true) (hb : ∀ j, j < blen p - 1 → sqs p (blen p - 1) (2 ^ j) = 2 ^ j) {x : Nat} (hx : x < 2 ^ (blen p - 1)) (h0 : x ≠ 0) :
    pw x p (2 ^ (blen p - 1) - 1) = 1 := by
  have hp := irr_ne h
  have hl := irr_blen h
  have e : sqs p (blen p - 1) x = x := lin_ext (g := fun a => a) (sqs_lin p _) (fun _ _ => rfl) (blen p - 1) hb x hx
  have hmx := md_small hp hx
  have h2 := pw_sqs p (blen p - 1) x
  rw [e, hmx] at h2
  have hc := count_pos hl.1
  have h3 : pw x p (2 ^ (blen p - 1)) = md (mul (pw x p (2 ^ (blen p - 1) - 1)) x) p := by
    have : 2 ^ (blen p - 1) = (2 ^ (blen p - 1) - 1) + 1 := by omega
    rw [this, pw, Nat.add_sub_cancel]
  have h4 : md (mul (pw x p (2 ^ (blen p - 1) - 1)) x) p = md (mul 1 x) p := by rw [← h3, ← h2, one_mul, hmx]
  have := cancel h (by rw [hmx]; exact h0) h4
  rwa [pw_md, md_one hl.1] at this

end Go.Proofs.Ytomlfmfahlcedaa.M
