/- Plain mathematics: how many of some numbers are so; choices of rows by steps; rows of a matrix of which any so many have an inverse; ISA-L's rows of powers behind the identity. -/
import Derived.Test.YtmpamgnbbomoaaaGreatIvl
namespace Go.Proofs.YtmpamgnbbomoaaaGreat

/-- how many numbers below n are so -/
def cnt (P : Nat → Bool) : Nat → Nat
  | 0 => 0
  | n + 1 => cnt P n + (if P n then 1 else 0)
theorem cnt_le (P : Nat → Bool) (n : Nat) : cnt P n ≤ n := by
  induction n with
  | zero => exact Nat.le_refl _
  | succ n ih => rw [cnt]; split <;> omega
theorem cnt_congr {P Q : Nat → Bool} {n : Nat} (h : ∀ i, i < n → P i = Q i) : cnt P n = cnt Q n := by
  induction n with
  | zero => rfl
  | succ n ih => rw [cnt, cnt, ih (fun i hi => h i (by omega)), h n (by omega)]
theorem cnt_not (P : Nat → Bool) (n : Nat) : cnt P n + cnt (fun i => !P i) n = n := by
  induction n with
  | zero => rfl
  | succ n ih =>
    rw [cnt, cnt]
    cases h : P n <;> simp <;> omega
theorem cnt_add (P : Nat → Bool) (k m : Nat) : cnt P (k + m) = cnt P k + cnt (fun t => P (k + t)) m := by
  induction m with
  | zero => rfl
  | succ m ih => rw [← Nat.add_assoc, cnt, cnt, ih]; omega
theorem cnt_pos {P : Nat → Bool} {n : Nat} (h : 0 < cnt P n) : ∃ i, i < n ∧ P i = true := by
  induction n with
  | zero => exact absurd h (by rw [cnt]; omega)
  | succ n ih =>
    by_cases e : P n = true
    · exact ⟨n, by omega, e⟩
    · rw [cnt, if_neg e] at h
      obtain ⟨i, hi, hp⟩ := ih h
      exact ⟨i, by omega, hp⟩
theorem cnt_del {P : Nat → Bool} {n a : Nat} (ha : a < n) (hp : P a = true) : cnt (fun i => P i && decide (i ≠ a)) n + 1 = cnt P n := by
  induction n with
  | zero => omega
  | succ n ih =>
    rw [cnt, cnt]
    by_cases e : a = n
    · subst e
      rw [cnt_congr (Q := P) (fun i hi => by simp; intro _; omega), hp]
      simp
    · have := ih (by omega)
      have h1 : (decide (n ≠ a)) = true := by simp; omega
      rw [h1, Bool.and_true]
      omega
theorem cnt_none {P : Nat → Bool} {n : Nat} (h : cnt P n = 0) (i : Nat) (hi : i < n) : P i = false := by
  cases e : P i
  · rfl
  · have := cnt_del hi e
    omega
/-- as many numbers below n, each once, as are chosen -/
theorem cnt_inj {P : Nat → Bool} : ∀ (n k : Nat) (f : Nat → Nat), (∀ i, i < k → f i < n ∧ P (f i) = true) → (∀ i j, i < k → j < k → f i = f j → i = j) → k ≤ cnt P n
  | 0, k, f, h, _ => by
    rcases Nat.eq_zero_or_pos k with e | e
    · omega
    · have := (h 0 e).1
      omega
  | n + 1, k, f, h, hu => by
    by_cases hx : ∃ i, i < k ∧ f i = n
    · obtain ⟨i0, hi0, e⟩ := hx
      have hp : P n = true := by rw [← e]; exact (h i0 hi0).2
      have := cnt_inj n (k - 1) (fun i => if i = i0 then f (k - 1) else f i) (fun i hi => by
        by_cases ei : i = i0
        · simp only [if_pos ei]
          have h1 := h (k - 1) (by omega)
          refine ⟨?_, h1.2⟩
          have : f (k - 1) ≠ n := fun e2 => by
            have := hu (k - 1) i0 (by omega) hi0 (e2.trans e.symm)
            omega
          omega
        · simp only [if_neg ei]
          have h1 := h i (by omega)
          refine ⟨?_, h1.2⟩
          have : f i ≠ n := fun e2 => ei (hu i i0 (by omega) hi0 (e2.trans e.symm))
          omega) (fun i j hi hj he => by
        by_cases ei : i = i0 <;> by_cases ej : j = i0
        · omega
        · simp only [if_pos ei, if_neg ej] at he
          have := hu (k - 1) j (by omega) (by omega) he
          omega
        · simp only [if_neg ei, if_pos ej] at he
          have := hu i (k - 1) (by omega) (by omega) he
          omega
        · simp only [if_neg ei, if_neg ej] at he
          exact hu i j (by omega) (by omega) he)
      rw [cnt, hp]
      simp
      omega
    · have := cnt_inj n k f (fun i hi => by
        have h1 := h i hi
        have : f i ≠ n := fun e => hx ⟨i, hi, e⟩
        exact ⟨by omega, h1.2⟩) hu
      rw [cnt]
      omega

/-- a step of a choice: where it is, and what was chosen, as bits -/
def chSt (n s : Nat) (st : Nat × Nat) : Nat × Nat :=
  (if (st.2 ||| 1 <<< st.1).testBit ((st.1 + s) % n) then ((st.1 + s) % n + 1) % n else (st.1 + s) % n, st.2 ||| 1 <<< st.1)
def chS (n s f : Nat) : Nat → Nat × Nat
  | 0 => (f % n, 0)
  | i + 1 => chSt n s (chS n s f i)
/-- the number that is chosen in step i -/
def chAt (n s f i : Nat) : Nat := (chS n s f i).1
/-- what was chosen ahead of step i -/
def chM (n s f i : Nat) : Nat := (chS n s f i).2
def chOk (n s : Nat) : Nat → Nat × Nat → Bool
  | 0, _ => true
  | k + 1, st => !(st.2.testBit st.1) && chOk n s k (chSt n s st)
theorem ch_all : ((List.range 21).all fun n => (List.range n).all fun s => (List.range n).all fun f => chOk n s n (f, 0)) = true := by decide +kernel
theorem chSt_mod (n s : Nat) (st : Nat × Nat) : chSt n s st = chSt n (s % n) st := by
  unfold chSt
  rw [Nat.add_mod_mod]
theorem chS_mod (n s f i : Nat) : chS n s f i = chS n (s % n) f i := by
  induction i with
  | zero => rfl
  | succ i ih => rw [chS, chS, ih, chSt_mod]
theorem ch_ok {n : Nat} (hn : 1 ≤ n) (hn2 : n ≤ 20) (s f : Nat) : chOk n (s % n) n (f % n, 0) = true := by
  have h := ch_all
  rw [List.all_eq_true] at h
  have h1 := h n (List.mem_range.2 (by omega))
  rw [List.all_eq_true] at h1
  have h2 := h1 (s % n) (List.mem_range.2 (Nat.mod_lt _ (by omega)))
  rw [List.all_eq_true] at h2
  exact h2 (f % n) (List.mem_range.2 (Nat.mod_lt _ (by omega)))
theorem ch_rest {n : Nat} (hn : 1 ≤ n) (hn2 : n ≤ 20) (s f : Nat) : ∀ i, i ≤ n → chOk n (s % n) (n - i) (chS n s f i) = true
  | 0, _ => ch_ok hn hn2 s f
  | i + 1, hi => by
    have h := ch_rest hn hn2 s f i (by omega)
    rw [show n - i = (n - (i + 1)) + 1 by omega, chOk, Bool.and_eq_true] at h
    rw [chS, chSt_mod]
    exact h.2
theorem ch_new {n : Nat} (hn : 1 ≤ n) (hn2 : n ≤ 20) (s f : Nat) {i : Nat} (hi : i < n) : (chM n s f i).testBit (chAt n s f i) = false := by
  have h := ch_rest hn hn2 s f i (by omega)
  rw [show n - i = (n - (i + 1)) + 1 by omega, chOk, Bool.and_eq_true] at h
  simpa [chM, chAt] using h.1
theorem chM_succ (n s f i : Nat) : chM n s f (i + 1) = chM n s f i ||| 1 <<< chAt n s f i := rfl
theorem chAt_succ (n s f i : Nat) : chAt n s f (i + 1) = if (chM n s f (i + 1)).testBit ((chAt n s f i + s) % n) then ((chAt n s f i + s) % n + 1) % n else (chAt n s f i + s) % n := rfl
theorem chM_bit (n s f i x : Nat) : (chM n s f (i + 1)).testBit x = ((chM n s f i).testBit x || decide (x = chAt n s f i)) := by
  rw [chM_succ, Nat.testBit_or, Nat.one_shiftLeft, Nat.testBit_two_pow]
  congr 1
  exact decide_eq_decide.2 ⟨fun h => h.symm, fun h => h.symm⟩
theorem chM_has (n s f : Nat) {i j : Nat} (h : j < i) : (chM n s f i).testBit (chAt n s f j) = true := by
  induction i with
  | zero => omega
  | succ i ih =>
    rw [chM_bit]
    by_cases e : j = i
    · subst e; simp
    · rw [ih (by omega)]; rfl
theorem chAt_lt {n : Nat} (hn : 1 ≤ n) (s f i : Nat) : chAt n s f i < n := by
  cases i with
  | zero => exact Nat.mod_lt _ (by omega)
  | succ i =>
    rw [chAt_succ]
    split <;> exact Nat.mod_lt _ (by omega)
theorem chAt_inj {n : Nat} (hn : 1 ≤ n) (hn2 : n ≤ 20) (s f : Nat) : ∀ i j, i < n → j < n → chAt n s f i = chAt n s f j → i = j := by
  intro i j hi hj h
  rcases Nat.lt_trichotomy i j with h1 | h1 | h1
  · have h2 := chM_has n s f h1
    rw [h, ch_new hn hn2 s f hj] at h2
    cases h2
  · exact h1
  · have h2 := chM_has n s f h1
    rw [← h, ch_new hn hn2 s f hi] at h2
    cases h2

section
variable {q : FP}
/-- any k rows have an inverse, if each column but 0 gives fewer than k rows 0 -/
theorem mds_of {k N : Nat} {E : Nat → Nat → El q} (h : ∀ c : Nat → El q, k ≤ cnt (fun r => decide (su k (fun j => c j * E r j) = 0)) N → ∀ j, j < k → c j = 0)
    (f : Nat → Nat) (hf : ∀ i, i < k → f i < N) (hu : ∀ i j, i < k → j < k → f i = f j → i = j) : rk k (fun i j => E (f i) j) k = k := by
  refine full_tr (full_of_free (fun c hc => h c ?_))
  refine cnt_inj N k f (fun i hi => ⟨hf i hi, ?_⟩) hu
  rw [decide_eq_true_eq]
  exact hc i hi
theorem su_del {n : Nat} (f : Nat → El q) {a : Nat} (ha : a < n) : su n f = f a + su n (fun j => if j = a then 0 else f j) := by
  have h1 : su n f = su n (fun j => (if j = a then f a else 0) + (if j = a then 0 else f j)) := su_congr (fun j _ => by
    by_cases e : j = a
    · rw [if_pos e, if_pos e, El.add_zero, e]
    · rw [if_neg e, if_neg e, El.zero_add])
  rw [h1, su_add, su_one (fun j => if j = a then f a else 0) ha (fun i _ hne => if_neg hne), if_pos rfl]
theorem ep_add (x : El q) (i j : Nat) : ep x (i + j) = ep x i * ep x j := by
  induction j with
  | zero => rw [ep, El.mul_one]; rfl
  | succ j ih => rw [← Nat.add_assoc, ep, ep, ih]; ac_rfl
theorem ep_mul (x : El q) (i j : Nat) : ep x (i * j) = ep (ep x i) j := by
  induction j with
  | zero => rfl
  | succ j ih => rw [Nat.mul_succ, ep_add, ih, ep]
theorem ep_turn (x : El q) (i j : Nat) : ep (ep x i) j = ep (ep x j) i := by rw [← ep_mul, ← ep_mul, Nat.mul_comm]
theorem El.mul_ne {a c : El q} (ha : a ≠ 0) (hc : c ≠ 0) : a * c ≠ 0 := fun h => hc (El.cancel ha h)
theorem ep_ne {x : El q} (h : x ≠ 0) (k : Nat) : ep x k ≠ 0 := by
  induction k with
  | zero => exact El.one_ne
  | succ k ih => rw [ep]; exact El.mul_ne ih h
theorem El.mul_left_inj {a x y : El q} (ha : a ≠ 0) (h : a * x = a * y) : x = y := El.add_eq_zero.1 (El.cancel ha (by rw [El.mul_add, h, El.add_self]))
/-- squares of unlike numbers are unlike -/
theorem sq_inj {x y : El q} (h : ep x 2 = ep y 2) : x = y := by
  have h1 : (x + y) * (x + y) = 0 := by
    have e1 : ep x 2 = x * x := by rw [ep, ep, ep, El.one_mul]
    have e2 : ep y 2 = y * y := by rw [ep, ep, ep, El.one_mul]
    rw [e1, e2] at h
    rw [El.add_mul, El.mul_add, El.mul_add, h, El.mul_comm y x, El.add_assoc, ← El.add_assoc (x * y), El.add_self, El.zero_add, El.add_self]
  by_cases e : x + y = 0
  · exact El.add_eq_zero.1 e
  · exact El.add_eq_zero.1 (El.cancel e h1)

/-- two powers, one after the other or two apart, of two numbers -/
theorem two_pts {x y c d : El q} {t u : Nat} (hd : u = 1 ∨ u = 2) (hx : x ≠ 0) (hc : c ≠ 0) (h1 : c * ep x t + d * ep y t = 0) (h2 : c * ep x (t + u) + d * ep y (t + u) = 0) : x = y := by
  have e1 := El.add_eq_zero.1 h1
  have e2 := El.add_eq_zero.1 h2
  rw [ep_add, ep_add, ← El.mul_assoc, ← El.mul_assoc, ← e1] at e2
  have e3 := El.mul_left_inj (El.mul_ne hc (ep_ne hx t)) e2
  rcases hd with rfl | rfl
  · rw [ep, ep, El.one_mul, ep, ep, El.one_mul] at e3
    exact e3
  · exact sq_inj e3

theorem no_one {k : Nat} {x c : Nat → El q} {a t : Nat} (ha : a < k) (hx : x a ≠ 0) (hc : c a ≠ 0) (h1 : ∀ j, j < k → j ≠ a → c j = 0) (h : su k (fun j => c j * ep (x j) t) = 0) : False := by
  rw [su_one (fun j => c j * ep (x j) t) ha (fun i hi hne => by rw [h1 i hi hne, El.zero_mul])] at h
  exact El.mul_ne hc (ep_ne hx t) h
theorem sum_two {k : Nat} {x c : Nat → El q} {a b : Nat} (ha : a < k) (hb : b < k) (hab : a ≠ b) (h1 : ∀ j, j < k → j ≠ a → j ≠ b → c j = 0) (t : Nat) : su k (fun j => c j * ep (x j) t) = c a * ep (x a) t + c b * ep (x b) t := by
  rw [su_del _ ha, su_one (fun j => if j = a then 0 else c j * ep (x j) t) hb (fun i hi hne => by
    by_cases e : i = a
    · rw [if_pos e]
    · rw [if_neg e, h1 i hi e hne, El.zero_mul]), if_neg (fun e => hab e.symm)]
theorem sum_three {k : Nat} {x c : Nat → El q} {a b d : Nat} (ha : a < k) (hb : b < k) (hd : d < k) (hab : a ≠ b) (had : a ≠ d) (hbd : b ≠ d) (h1 : ∀ j, j < k → j ≠ a → j ≠ b → j ≠ d → c j = 0) (t : Nat) : su k (fun j => c j * ep (x j) t) = c a * ep (x a) t + (c b * ep (x b) t + c d * ep (x d) t) := by
  rw [su_del _ ha]
  congr 1
  have e := sum_two (x := x) (c := fun j => if j = a then 0 else c j) hb hd hbd (fun j hj h2 h3 => by
    by_cases e : j = a
    · rw [if_pos e]
    · rw [if_neg e]; exact h1 j hj e h2 h3) t
  rw [if_neg (fun e => hab e.symm), if_neg (fun e => had e.symm)] at e
  rw [← e]
  exact su_congr (fun j _ => by
    by_cases e : j = a
    · rw [if_pos e, if_pos e, El.zero_mul]
    · rw [if_neg e, if_neg e])

/-- sums of c times the powers 0, 1, 2 of unlike numbers: at least as many are not 0 as c has numbers that are not, less .. -/
theorem powers_few {k m : Nat} {x c : Nat → El q} (hm : m ≤ 3) (hx0 : ∀ j, j < k → x j ≠ 0) (hx : ∀ i j, i < k → j < k → x i = x j → i = j) (h : cnt (fun j => !decide (c j = 0)) k ≤ cnt (fun t => decide (su k (fun j => c j * ep (x j) t) = 0)) m) : ∀ j, j < k → c j = 0 := by
  rcases Nat.eq_zero_or_pos (cnt (fun j => !decide (c j = 0)) k) with h0 | h0
  · intro j hj
    have := cnt_none h0 j hj
    simpa using this
  exfalso
  obtain ⟨a, ha, hca⟩ := cnt_pos h0
  have ca : c a ≠ 0 := by simpa using hca
  have d1 := cnt_del (P := fun j => !decide (c j = 0)) ha hca
  rcases Nat.eq_zero_or_pos (cnt (fun j => !decide (c j = 0) && decide (j ≠ a)) k) with g0 | g0
  · -- one
    have hone : ∀ j, j < k → j ≠ a → c j = 0 := fun j hj hne => by
      have := cnt_none g0 j hj
      simpa [hne] using this
    obtain ⟨t, _, hz⟩ := cnt_pos (P := fun t => decide (su k (fun j => c j * ep (x j) t) = 0)) (n := m) (by omega)
    exact no_one ha (hx0 a ha) ca hone (by simpa using hz)
  obtain ⟨b, hb, hcb⟩ := cnt_pos g0
  obtain ⟨cb, hba⟩ : c b ≠ 0 ∧ b ≠ a := by simpa using hcb
  have d2 := cnt_del (P := fun j => !decide (c j = 0) && decide (j ≠ a)) hb hcb
  rcases Nat.eq_zero_or_pos (cnt (fun j => (!decide (c j = 0) && decide (j ≠ a)) && decide (j ≠ b)) k) with g1 | g1
  · -- two
    have htwo : ∀ j, j < k → j ≠ a → j ≠ b → c j = 0 := fun j hj h1 h2 => by
      have := cnt_none g1 j hj
      simpa [h1, h2] using this
    have hs := fun t => sum_two (x := x) ha hb (fun e => hba e.symm) htwo t
    have key : ∀ t u, (u = 1 ∨ u = 2) → su k (fun j => c j * ep (x j) t) = 0 → su k (fun j => c j * ep (x j) (t + u)) = 0 → False := fun t u hu h1 h2 => by
      rw [hs] at h1 h2
      exact hba (hx b a hb ha (two_pts hu (hx0 a ha) ca h1 h2).symm)
    have h2 : 2 ≤ cnt (fun t => decide (su k (fun j => c j * ep (x j) t) = 0)) m := by omega
    have h3 : cnt (fun t => decide (su k (fun j => c j * ep (x j) t) = 0)) m ≤ cnt (fun t => decide (su k (fun j => c j * ep (x j) t) = 0)) 3 := by
      obtain ⟨d, hd3⟩ : ∃ d, 3 = m + d := ⟨3 - m, by omega⟩
      rw [hd3, cnt_add]
      omega
    have h4 : 2 ≤ cnt (fun t => decide (su k (fun j => c j * ep (x j) t) = 0)) 3 := by omega
    simp only [cnt, decide_eq_true_eq] at h4
    by_cases z0 : su k (fun j => c j * ep (x j) 0) = 0
    · by_cases z1 : su k (fun j => c j * ep (x j) 1) = 0
      · exact key 0 1 (Or.inl rfl) z0 z1
      · by_cases z2 : su k (fun j => c j * ep (x j) 2) = 0
        · exact key 0 2 (Or.inr rfl) z0 z2
        · rw [if_neg z1, if_neg z2] at h4
          split at h4 <;> omega
    · by_cases z1 : su k (fun j => c j * ep (x j) 1) = 0
      · by_cases z2 : su k (fun j => c j * ep (x j) 2) = 0
        · exact key 1 1 (Or.inl rfl) z1 z2
        · rw [if_neg z0, if_neg z2] at h4
          split at h4 <;> omega
      · rw [if_neg z0, if_neg z1] at h4
        split at h4 <;> omega
  obtain ⟨d, hd, hcd⟩ := cnt_pos g1
  obtain ⟨⟨cd, hda⟩, hdb⟩ : (c d ≠ 0 ∧ d ≠ a) ∧ d ≠ b := by simpa using hcd
  have d3 := cnt_del (P := fun j => (!decide (c j = 0) && decide (j ≠ a)) && decide (j ≠ b)) hd hcd
  have hm3 := cnt_le (fun t => decide (su k (fun j => c j * ep (x j) t) = 0)) m
  obtain rfl : m = 3 := by omega
  have g2 : cnt (fun j => ((!decide (c j = 0) && decide (j ≠ a)) && decide (j ≠ b)) && decide (j ≠ d)) k = 0 := by omega
  have hthree : ∀ j, j < k → j ≠ a → j ≠ b → j ≠ d → c j = 0 := fun j hj h1 h2 h3 => by
    have := cnt_none g2 j hj
    simpa [h1, h2, h3] using this
  have h4 : 3 ≤ cnt (fun t => decide (su k (fun j => c j * ep (x j) t) = 0)) 3 := by omega
  have hz : ∀ t, t < 3 → su k (fun j => c j * ep (x j) t) = 0 := by
    intro t ht
    have h5 := cnt_not (fun t => decide (su k (fun j => c j * ep (x j) t) = 0)) 3
    have := cnt_none (P := fun t => !decide (su k (fun j => c j * ep (x j) t) = 0)) (n := 3) (by omega) t ht
    simpa using this
  let l : Nat → Nat := fun i => if i = 0 then a else if i = 1 then b else d
  have hl : ∀ i, i < 3 → l i < k := fun i _ => by
    simp only [l]
    split
    · exact ha
    · split <;> assumption
  have hfull : rk 3 (fun i j => ep (x (l i)) j) 3 = 3 := vander_full (x := fun i => x (l i)) (fun i j hi hj he => by
    have := hx _ _ (hl i hi) (hl j hj) he
    simp only [l] at this
    split at this <;> split at this <;> (try split at this) <;> (try split at this) <;> omega)
  have := free_of_full hfull (fun i => c (l i)) (fun t ht => by
    have e := hz t ht
    rw [sum_three ha hb hd (fun e => hba e.symm) (fun e => hda e.symm) (fun e => hdb e.symm) hthree] at e
    rw [← e]
    show 0 + c a * ep (x a) t + c b * ep (x b) t + c d * ep (x d) t = _
    rw [El.zero_add, El.add_assoc]) 0 (by omega)
  exact ca this
end
end Go.Proofs.YtmpamgnbbomoaaaGreat
