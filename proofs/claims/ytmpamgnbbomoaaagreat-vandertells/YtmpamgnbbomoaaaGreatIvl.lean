/- Ranks of rows joined and left out, rows of powers, columns: plain mathematics. -/
import Derived.Test.YtmpamgnbbomoaaaGreatLin
namespace Go.Proofs.YtmpamgnbbomoaaaGreat

section
variable {q : FP}
theorem Fac.sub {n n' m k : Nat} {F : Nat → Nat → El q} (h : Fac n m F k) (hn : n' ≤ n) : Fac n' m F k := by
  obtain ⟨X, Y, hF⟩ := h
  exact ⟨X, Y, fun r hr c hc => hF r (by omega) c hc⟩
/-- fewer rows have no greater rank -/
theorem rk_sub {n' n : Nat} (F : Nat → Nat → El q) (m : Nat) (hn : n' ≤ n) : rk n' F m ≤ rk n F m := fac_rk ((rk_fac n m F).sub hn)
theorem Fac.more {n m k : Nat} {F : Nat → Nat → El q} (h : Fac n m F k) : Fac (n + 1) m F (k + 1) := by
  obtain ⟨X, Y, hF⟩ := h
  refine ⟨fun r i => if r < n then (if i < k then X r i else 0) else (if i = k then 1 else 0), fun i c => if i < k then Y i c else F n c, fun r hr c hc => ?_⟩
  unfold mm
  rw [su]
  by_cases e : r < n
  · simp only [if_pos e, if_neg (Nat.lt_irrefl k), El.zero_mul, El.add_zero]
    rw [hF r e c hc]
    exact su_congr (fun i hi => by rw [if_pos hi, if_pos hi])
  · obtain rfl : r = n := by omega
    simp only [if_neg e, if_neg (Nat.lt_irrefl k), if_true, El.one_mul]
    rw [su_none (fun i hi => by rw [if_neg (show ¬ i = k by omega), El.zero_mul]), El.zero_add]
/-- one row more: a rank grows by one at most -/
theorem rk_more (n : Nat) (F : Nat → Nat → El q) (m : Nat) : rk (n + 1) F m ≤ rk n F m + 1 := fac_rk (rk_fac n m F).more
/-- twice the rows have the same rank -/
theorem rk_twice {n m : Nat} {F G : Nat → Nat → El q} (h : ∀ r, r < n + n → ∀ j, j < m → G r j = F (if r < n then r else r - n) j) : rk (n + n) G m = rk n F m := by
  apply Nat.le_antisymm
  · obtain ⟨X, Y, hF⟩ := rk_fac n m F
    exact fac_rk ⟨fun r i => X (if r < n then r else r - n) i, Y, fun r hr c hc => by
      rw [h r hr c hc, hF _ (by split <;> omega) c hc]
      rfl⟩
  · refine Nat.le_trans (Nat.le_of_eq ?_) (rk_sub G m (show n ≤ n + n by omega))
    exact rk_congr (fun r hr k hk => by rw [h r (by omega) k hk, if_pos hr])

/-- a product of columns and rows changed for each other -/
theorem mm_tr (n : Nat) (A B : Nat → Nat → El q) (r c : Nat) : mm n (fun i j => B j i) (fun i j => A j i) c r = mm n A B r c := su_congr (fun _ _ => El.mul_comm _ _)
/-- what has an inverse, has one with rows and columns changed for each other -/
theorem full_tr {n : Nat} {F : Nat → Nat → El q} (h : rk n (fun r c => F c r) n = n) : rk n F n = n := by
  have h1 := (ivm_inv h).1
  refine full_of_right (X := fun i j => ivm n (fun r c => F c r) j i) (fun r hr c hc => ?_)
  rw [← mm_tr]
  refine (h1 c hc r hr).trans ?_
  unfold dl
  by_cases e : c = r
  · rw [if_pos e, if_pos e.symm]
  · rw [if_neg e, if_neg (fun h => e h.symm)]

/-- powers -/
def ep (x : El q) : Nat → El q
  | 0 => 1
  | k + 1 => ep x k * x
/-- a polynomial's value -/
def ev (n : Nat) (c : Nat → El q) (x : El q) : El q := su n (fun j => c j * ep x j)
theorem su_shift (n : Nat) (f : Nat → El q) : su (n + 1) f = f 0 + su n (fun j => f (j + 1)) := by
  induction n with
  | zero => rw [su, su, su, El.zero_add, El.add_zero]
  | succ n ih => rw [su, ih, su, El.add_assoc]
theorem ev_shift (n : Nat) (c : Nat → El q) (x : El q) : ev (n + 1) c x = c 0 + x * ev n (fun j => c (j + 1)) x := by
  unfold ev
  rw [su_shift, mul_su, ep, El.mul_one]
  congr 1
  exact su_congr (fun j _ => by dsimp only; rw [ep]; ac_rfl)
theorem ev_none {n : Nat} {c : Nat → El q} (h : ∀ j, j < n → c j = 0) (x : El q) : ev n c x = 0 := su_none (fun j hj => by rw [h j hj, El.zero_mul])
theorem ev_div : ∀ (n : Nat) (c : Nat → El q) (a : El q), ∃ d : Nat → El q, (∀ x, ev (n + 1) c x = (x + a) * ev n d x + ev (n + 1) c a) ∧ ((∀ j, j < n → d j = 0) → ∀ j, j < n → c (j + 1) = 0)
  | 0, c, a => ⟨c, fun x => by rw [ev_shift, ev_shift]; simp only [ev, su, El.mul_zero, El.zero_add, El.add_zero], fun _ j hj => absurd hj (Nat.not_lt_zero j)⟩
  | n + 1, c, a => by
    obtain ⟨d, h1, h2⟩ := ev_div n (fun j => c (j + 1)) a
    refine ⟨fun j => if j = 0 then ev (n + 1) (fun j => c (j + 1)) a else d (j - 1), fun x => ?_, fun h j hj => ?_⟩
    · rw [ev_shift (n + 1) c x, ev_shift (n + 1) c a, ev_shift n (fun j => if j = 0 then ev (n + 1) (fun j => c (j + 1)) a else d (j - 1)) x]
      have e : ev n (fun j => if j + 1 = 0 then ev (n + 1) (fun j => c (j + 1)) a else d (j + 1 - 1)) x = ev n d x := su_congr (fun j _ => by dsimp only; rw [if_neg (by omega), Nat.add_sub_cancel])
      rw [e, if_pos rfl, h1 x]
      obtain ⟨u, hu⟩ : ∃ u, ev (n + 1) (fun j => c (j + 1)) a = u := ⟨_, rfl⟩
      obtain ⟨y, hy⟩ : ∃ y, ev n d x = y := ⟨_, rfl⟩
      rw [hu, hy]
      simp only [El.mul_add, El.add_mul]
      have e2 : x * u + a * u + (x * (x * y) + a * (x * y)) + (c 0 + a * u) = c 0 + (x * (x * y) + x * (a * y) + x * u) + (a * u + a * u) := by ac_rfl
      rw [e2, El.add_self, El.add_zero]
    · have hd : ∀ j, j < n → d j = 0 := fun j hj => by
        have := h (j + 1) (by omega)
        dsimp only at this
        rwa [if_neg (by omega), Nat.add_sub_cancel] at this
      have h3 := h2 hd
      rcases j with _ | j
      · have h0 := h 0 (by omega)
        dsimp only at h0
        rw [if_pos rfl, ev_shift, ev_none (fun j hj => h3 j hj), El.mul_zero, El.add_zero] at h0
        exact h0
      · exact h3 j (by omega)
/-- a polynomial with more roots than its degree is nought -/
theorem ev_roots : ∀ (n : Nat) (x : Nat → El q), (∀ i k, i < n → k < n → x i = x k → i = k) → ∀ c : Nat → El q, (∀ i, i < n → ev n c (x i) = 0) → ∀ j, j < n → c j = 0
  | 0, _, _, _, _, j, hj => absurd hj (Nat.not_lt_zero j)
  | n + 1, x, hx, c, h, j, hj => by
    obtain ⟨d, h1, h2⟩ := ev_div n c (x n)
    have h3 := h2 (ev_roots n x (fun i k hi hk => hx i k (by omega) (by omega)) d (fun i hi => by
      have e := h1 (x i)
      rw [h i (by omega), h n (by omega), El.add_zero] at e
      exact El.cancel (fun e' => absurd (hx i n (by omega) (by omega) (El.add_eq_zero.1 e')) (by omega)) e.symm))
    rcases j with _ | j
    · have h0 := h n (by omega)
      rwa [ev_shift, ev_none (fun j hj => h3 j hj), El.mul_zero, El.add_zero] at h0
    · exact h3 j (by omega)
/-- rows of powers of unlike numbers have an inverse -/
theorem vander_full {n : Nat} {x : Nat → El q} (hx : ∀ i k, i < n → k < n → x i = x k → i = k) : rk n (fun i j => ep (x i) j) n = n :=
  full_tr (full_of_free (fun c hc => ev_roots n x hx c (fun i hi => hc i hi)))
end
end Go.Proofs.YtmpamgnbbomoaaaGreat
