/- Cauchy's rows of inverses behind the identity: any k rows have an inverse; choices of rows that rise, one behind the other; rows that are safe: plain mathematics. -/
import Derived.Test.YtgcochamjicjiaaGreatJva
namespace Go.Proofs.YtgcochamjicjiaaGreat
open Go.RowKit

/-- as many numbers as are so, each once -/
theorem cnt_enum {P : Nat → Bool} : ∀ (n k : Nat), k ≤ cnt P n → ∃ f : Nat → Nat, (∀ i, i < k → f i < n ∧ P (f i) = true) ∧ ∀ i j, i < k → j < k → f i = f j → i = j
  | 0, k, h => ⟨fun i => i, fun i hi => absurd h (by rw [cnt]; omega), fun _ _ _ _ e => e⟩
  | n + 1, k, h => by
    rw [cnt] at h
    by_cases e : P n = true
    · rw [if_pos e] at h
      obtain ⟨f, h1, h2⟩ := cnt_enum (P := P) n (k - 1) (by omega)
      refine ⟨fun i => if i = k - 1 then n else f i, fun i hi => ?_, fun i j hi hj he => ?_⟩
      · by_cases ei : i = k - 1
        · simp only [if_pos ei]
          exact ⟨by omega, e⟩
        · simp only [if_neg ei]
          have := h1 i (by omega)
          exact ⟨by omega, this.2⟩
      · by_cases ei : i = k - 1 <;> by_cases ej : j = k - 1
        · omega
        · simp only [if_pos ei, if_neg ej] at he
          have := (h1 j (by omega)).1
          omega
        · simp only [if_neg ei, if_pos ej] at he
          have := (h1 i (by omega)).1
          omega
        · simp only [if_neg ei, if_neg ej] at he
          exact h2 i j (by omega) (by omega) he
    · rw [if_neg e] at h
      obtain ⟨f, h1, h2⟩ := cnt_enum (P := P) n k (by omega)
      exact ⟨f, fun i hi => ⟨by have := (h1 i hi).1; omega, (h1 i hi).2⟩, h2⟩

section
variable {q : FP}
/-- a function that is a polynomial of n numbers -/
def PolyN (n : Nat) (g : El q → El q) : Prop := ∃ c : Nat → El q, ∀ x, g x = ev n c x
theorem PolyN.add {n : Nat} {g h : El q → El q} (h1 : PolyN n g) (h2 : PolyN n h) : PolyN n (fun x => g x + h x) := by
  obtain ⟨c, hc⟩ := h1
  obtain ⟨d, hd⟩ := h2
  refine ⟨fun j => c j + d j, fun x => ?_⟩
  dsimp only
  rw [hc, hd]
  unfold ev
  rw [← su_add]
  exact su_congr (fun j _ => (El.add_mul _ _ _).symm)
theorem PolyN.scale {n : Nat} {g : El q → El q} (a : El q) (h1 : PolyN n g) : PolyN n (fun x => a * g x) := by
  obtain ⟨c, hc⟩ := h1
  refine ⟨fun j => a * c j, fun x => ?_⟩
  dsimp only
  rw [hc]
  unfold ev
  rw [mul_su]
  exact su_congr (fun j _ => (El.mul_assoc _ _ _).symm)
theorem PolyN.more {n : Nat} {g : El q → El q} (h1 : PolyN n g) : PolyN (n + 1) g := by
  obtain ⟨c, hc⟩ := h1
  refine ⟨fun j => if j < n then c j else 0, fun x => ?_⟩
  rw [hc]
  unfold ev
  rw [su]
  dsimp only
  rw [if_neg (Nat.lt_irrefl n), El.zero_mul, El.add_zero]
  exact su_congr (fun j hj => by rw [if_pos hj])
theorem PolyN.times {n : Nat} {g : El q → El q} (a : El q) (h1 : PolyN n g) : PolyN (n + 1) (fun x => (x + a) * g x) := by
  have h2 : PolyN (n + 1) (fun x => x * g x) := by
    obtain ⟨c, hc⟩ := h1
    refine ⟨fun j => if j = 0 then 0 else c (j - 1), fun x => ?_⟩
    dsimp only
    rw [ev_shift, if_pos rfl, El.zero_add, hc]
    rfl
  have h3 := h2.add (h1.scale a).more
  obtain ⟨c, hc⟩ := h3
  exact ⟨c, fun x => by dsimp only; rw [El.add_mul]; exact hc x⟩
theorem PolyN.roots {n : Nat} {g : El q → El q} (h : PolyN n g) (x : Nat → El q) (hx : ∀ i k, i < n → k < n → x i = x k → i = k) (hz : ∀ i, i < n → g (x i) = 0) (z : El q) : g z = 0 := by
  obtain ⟨c, hc⟩ := h
  rw [hc]
  exact ev_none (ev_roots n x hx c (fun i hi => by rw [← hc]; exact hz i hi)) z

/-- the product of x + y j, of those of the first n whose c is not 0 -/
def cyF (c y : Nat → El q) (x : El q) : Nat → El q
  | 0 => 1
  | n + 1 => if c n = 0 then cyF c y x n else (x + y n) * cyF c y x n
/-- the sum of c j times the product of all others -/
def cyP (c y : Nat → El q) (x : El q) : Nat → El q
  | 0 => 0
  | n + 1 => if c n = 0 then cyP c y x n else (x + y n) * cyP c y x n + c n * cyF c y x n
/-- how many are not 0 -/
def cyN (c : Nat → El q) (n : Nat) : Nat := cnt (fun j => !decide (c j = 0)) n
theorem cyN_zero {c : Nat → El q} {n : Nat} (h : c n = 0) : cyN c (n + 1) = cyN c n := by
  unfold cyN
  rw [cnt, decide_eq_true h]
  rfl
theorem cyN_succ {c : Nat → El q} {n : Nat} (h : c n ≠ 0) : cyN c (n + 1) = cyN c n + 1 := by
  unfold cyN
  rw [cnt, decide_eq_false h]
  rfl
theorem cyF_poly (c y : Nat → El q) : ∀ n, PolyN (cyN c n + 1) (fun x => cyF c y x n)
  | 0 => ⟨fun _ => 1, fun x => by simp only [cyF, cyN, cnt, ev, su, ep, El.zero_add, El.mul_one]⟩
  | n + 1 => by
    by_cases e : c n = 0
    · rw [cyN_zero e]
      simp only [cyF, if_pos e]
      exact cyF_poly c y n
    · rw [cyN_succ e]
      simp only [cyF, if_neg e]
      exact (cyF_poly c y n).times (y n)
theorem cyP_poly (c y : Nat → El q) : ∀ n, PolyN (cyN c n) (fun x => cyP c y x n)
  | 0 => ⟨fun _ => 0, fun x => by simp only [cyP, cyN, cnt, ev, su]⟩
  | n + 1 => by
    by_cases e : c n = 0
    · rw [cyN_zero e]
      simp only [cyP, if_pos e]
      exact cyP_poly c y n
    · rw [cyN_succ e]
      simp only [cyP, if_neg e]
      exact ((cyP_poly c y n).times (y n)).add ((cyF_poly c y n).scale (c n))
theorem cyP_val (c y : Nat → El q) (x : El q) : ∀ n, (∀ j, j < n → x + y j ≠ 0) → cyP c y x n = cyF c y x n * su n (fun j => c j * (x + y j).inv)
  | 0, _ => by rw [cyP, su, El.mul_zero]
  | n + 1, h => by
    have ih := cyP_val c y x n (fun j hj => h j (by omega))
    rw [cyP, cyF, su]
    by_cases e : c n = 0
    · rw [if_pos e, if_pos e, e, El.zero_mul, El.add_zero, ih]
    · rw [if_neg e, if_neg e, ih, El.mul_add]
      congr 1
      · ac_rfl
      · have e2 : (x + y n) * cyF c y x n * (c n * (x + y n).inv) = c n * cyF c y x n * ((x + y n) * (x + y n).inv) := by ac_rfl
        rw [e2, El.mul_inv (h n (by omega)), El.mul_one]
theorem cyF_root (c y : Nat → El q) {a : Nat} (ha : c a ≠ 0) : ∀ n, a < n → cyF c y (y a) n = 0
  | 0, h => absurd h (by omega)
  | n + 1, h => by
    rw [cyF]
    by_cases e : a = n
    · subst e
      rw [if_neg ha, El.add_self, El.zero_mul]
    · rw [cyF_root c y ha n (by omega), El.mul_zero]
      split <;> rfl
theorem cyF_ne (c y : Nat → El q) {a : Nat} : ∀ n, (∀ j, j < n → y a + y j ≠ 0) → cyF c y (y a) n ≠ 0
  | 0, _ => El.one_ne
  | n + 1, h => by
    have ih := cyF_ne c y n (fun j hj => h j (by omega))
    rw [cyF]
    split
    · exact ih
    · exact El.mul_ne (h n (by omega)) ih
theorem cyP_ne (c y : Nat → El q) {a : Nat} (ha : c a ≠ 0) : ∀ n, a < n → (∀ j, j < n → j ≠ a → y a + y j ≠ 0) → cyP c y (y a) n ≠ 0
  | 0, h, _ => absurd h (by omega)
  | n + 1, h, hy => by
    rw [cyP]
    by_cases e : a = n
    · subst e
      rw [if_neg ha, El.add_self, El.zero_mul, El.zero_add]
      exact El.mul_ne ha (cyF_ne c y a (fun j hj => hy j (by omega) (by omega)))
    · have ih := cyP_ne c y ha n (by omega) (fun j hj => hy j (by omega))
      split
      · exact ih
      · rw [cyF_root c y ha n (by omega), El.mul_zero, El.add_zero]
        exact El.mul_ne (hy n (by omega) (fun e2 => e e2.symm)) ih

/-- rows of inverses -/
def cauE (x y : Nat → El q) (i j : Nat) : El q := (x i + y j).inv
/-- any k rows of the identity and rows of inverses behind it -/
theorem cau_any {k m : Nat} {x y : Nat → El q} (hx : ∀ i j, i < m → j < m → x i = x j → i = j) (hy : ∀ i j, i < k → j < k → y i = y j → i = j) (hxy : ∀ i j, i < m → j < k → x i ≠ y j)
    (f : Nat → Nat) (hf : ∀ i, i < k → f i < k + m) (hu : ∀ i j, i < k → j < k → f i = f j → i = j) : rk k (fun i j => joinE k dl (cauE x y) (f i) j) k = k := by
  refine mds_of (N := k + m) (fun c h => ?_) f hf hu
  rw [cnt_add] at h
  have e1 : cnt (fun r => decide (su k (fun j => c j * joinE k dl (cauE x y) r j) = 0)) k = cnt (fun r => decide (c r = 0)) k := cnt_congr (fun r hr => by
    rw [su_one (fun j => c j * joinE k dl (cauE x y) r j) hr (fun j _ hne => by unfold joinE; rw [if_pos hr, dl_ne (fun e => hne e.symm), El.mul_zero])]
    unfold joinE
    rw [if_pos hr, dl_self, El.mul_one])
  have e2 := cnt_not (fun r => decide (c r = 0)) k
  have e3 : cnt (fun t => decide (su k (fun j => c j * joinE k dl (cauE x y) (k + t) j) = 0)) m = cnt (fun t => decide (su k (fun j => c j * cauE x y t j) = 0)) m := cnt_congr (fun t _ => by
    unfold joinE
    simp only [if_neg (show ¬ k + t < k by omega), Nat.add_sub_cancel_left])
  have h4 : cyN c k ≤ cnt (fun t => decide (su k (fun j => c j * cauE x y t j) = 0)) m := by
    unfold cyN
    omega
  obtain ⟨g, hg1, hg2⟩ := cnt_enum m (cyN c k) h4
  have hz := (cyP_poly c y k).roots (fun i => x (g i)) (fun i j hi hj he => hg2 i j hi hj (hx _ _ (hg1 i hi).1 (hg1 j hj).1 he)) (fun i hi => by
    have h5 := (hg1 i hi).2
    rw [decide_eq_true_eq] at h5
    rw [cyP_val c y _ k (fun j hj h0 => hxy _ j (hg1 i hi).1 hj (El.add_eq_zero.1 h0))]
    unfold cauE at h5
    rw [h5, El.mul_zero])
  intro a ha
  by_cases e : c a = 0
  · exact e
  · exact absurd (hz (y a)) (cyP_ne c y e k ha (fun j hj hne h0 => hne (hy j a hj ha (El.add_eq_zero.1 h0).symm)))
end

/-- a choice: k numbers below n that rise -/
def Rise (k n : Nat) (f : Nat → Nat) : Prop := (∀ i, i < k → f i < n) ∧ ∀ i, i + 1 < k → f i < f (i + 1)
theorem Rise.ge {k n : Nat} {f : Nat → Nat} (h : Rise k n f) (i : Nat) : ∀ d, i + d < k → f i + d ≤ f (i + d)
  | 0, _ => Nat.le_refl _
  | d + 1, hd => by
    have h1 := h.ge i d (by omega)
    have h2 := h.2 (i + d) (by omega)
    show f i + (d + 1) ≤ f (i + d + 1)
    omega
theorem Rise.le {k n : Nat} {f : Nat → Nat} (h : Rise k n f) {i : Nat} (hi : i < k) : f i + k ≤ n + i := by
  have h1 := h.ge i (k - 1 - i) (by omega)
  have h2 := h.1 (i + (k - 1 - i)) (by omega)
  omega
theorem Rise.inj {k n : Nat} {f : Nat → Nat} (h : Rise k n f) : ∀ i j, i < k → j < k → f i = f j → i = j := fun i j hi hj e => by
  rcases Nat.lt_trichotomy i j with h1 | h1 | h1
  · have := h.ge i (j - i) (by omega)
    rw [show i + (j - i) = j by omega] at this
    omega
  · exact h1
  · have := h.ge j (i - j) (by omega)
    rw [show j + (i - j) = i by omega] at this
    omega
/-- f is ahead of l -/
def Lx (k : Nat) (f l : Nat → Nat) : Prop := ∃ d, d < k ∧ (∀ i, i < d → f i = l i) ∧ f d < l d
/-- l can move at i, and at none behind it -/
def MovesAt (k n : Nat) (l : Nat → Nat) (i : Nat) : Prop := i < k ∧ l i + k < n + i ∧ ∀ r, i < r → r < k → n + r ≤ l r + k
/-- the choice behind l -/
def nxt (l : Nat → Nat) (i r : Nat) : Nat := if r < i then l r else l i + 1 + (r - i)
theorem nxt_rise {k n : Nat} {l : Nat → Nat} {i : Nat} (h : Rise k n l) (hm : MovesAt k n l i) : Rise k n (nxt l i) := by
  obtain ⟨h1, h2, _⟩ := hm
  refine ⟨fun r hr => ?_, fun r hr => ?_⟩
  · unfold nxt
    split
    · exact h.1 r hr
    · omega
  · unfold nxt
    by_cases e : r + 1 < i
    · rw [if_pos (by omega), if_pos e]
      exact h.2 r hr
    · rw [if_neg e]
      by_cases e2 : r < i
      · rw [if_pos e2]
        obtain rfl : i = r + 1 := by omega
        have := h.2 r hr
        omega
      · rw [if_neg e2]
        omega
theorem same_or_first (f l : Nat → Nat) : ∀ k, (∀ r, r < k → f r = l r) ∨ ∃ d, d < k ∧ (∀ i, i < d → f i = l i) ∧ f d ≠ l d
  | 0 => Or.inl (fun r hr => absurd hr (by omega))
  | k + 1 => by
    rcases same_or_first f l k with h | ⟨d, h1, h2, h3⟩
    · by_cases e : f k = l k
      · exact Or.inl (fun r hr => by
          by_cases er : r = k
          · rw [er]; exact e
          · exact h r (by omega))
      · exact Or.inr ⟨k, by omega, h, e⟩
    · exact Or.inr ⟨d, by omega, h2, h3⟩
theorem same_or_lx {k : Nat} {f l : Nat → Nat} {d : Nat} (h1 : ∀ i, i < d → f i = l i) (h2 : ∀ i, d ≤ i → i < k → f i ≤ l i) : Lx k f l ∨ ∀ r, r < k → f r = l r := by
  rcases same_or_first f l k with h | ⟨e, he, h3, h4⟩
  · exact Or.inr h
  · refine Or.inl ⟨e, he, h3, ?_⟩
    by_cases hd : e < d
    · exact absurd (h1 e hd) h4
    · have := h2 e (by omega) he
      omega
/-- no choice lies between -/
theorem nxt_lx {k n : Nat} {f l : Nat → Nat} {i : Nat} (hm : MovesAt k n l i) (hf : Rise k n f) (h : Lx k f (nxt l i)) : Lx k f l ∨ ∀ r, r < k → f r = l r := by
  obtain ⟨h1, h2, h3⟩ := hm
  obtain ⟨d, hd, e1, e2⟩ := h
  unfold nxt at e1 e2
  by_cases c1 : d < i
  · rw [if_pos c1] at e2
    exact Or.inl ⟨d, hd, fun r hr => by rw [e1 r hr, if_pos (by omega)], e2⟩
  · rw [if_neg c1] at e2
    have e3 : ∀ r, r < i → f r = l r := fun r hr => by rw [e1 r (by omega), if_pos hr]
    by_cases c2 : d = i
    · subst c2
      refine same_or_lx e3 (fun r hr hk => ?_)
      by_cases e4 : r = d
      · subst e4; omega
      · have := h3 r (by omega) hk
        have := hf.le hk
        omega
    · have e4 := e1 i (by omega)
      rw [if_neg (by omega)] at e4
      have e5 := hf.ge i (d - i) (by omega)
      rw [show i + (d - i) = d by omega] at e5
      omega
/-- none is behind the last one -/
theorem last_lx {k n : Nat} {f l : Nat → Nat} (h : ∀ r, r < k → n + r ≤ l r + k) (hf : Rise k n f) : Lx k f l ∨ ∀ r, r < k → f r = l r :=
  same_or_lx (d := 0) (fun i hi => absurd hi (by omega)) (fun i _ hi => by
    have := h i hi
    have := hf.le hi
    omega)
/-- none is ahead of the first one -/
theorem first_lx {k n : Nat} {f : Nat → Nat} (hf : Rise k n f) (h : Lx k f (fun i => i)) : False := by
  obtain ⟨d, hd, _, e⟩ := h
  dsimp only at e
  have := hf.ge 0 d (by omega)
  rw [Nat.zero_add] at this
  omega
theorem first_rise {k n : Nat} (h : k ≤ n) : Rise k n (fun i => i) := ⟨fun i hi => by dsimp only; omega, fun i _ => by dsimp only; omega⟩
/-- a choice as one number: how far the choices have come -/
def chV (B : Nat) (l : Nat → Nat) : Nat → Nat
  | 0 => 0
  | k + 1 => chV B l k * B + l k
theorem chV_lt {B : Nat} {l : Nat → Nat} : ∀ k, (∀ i, i < k → l i < B) → chV B l k < B ^ k
  | 0, _ => by rw [chV, Nat.pow_zero]; omega
  | k + 1, h => by
    have h1 := chV_lt k (fun i hi => h i (by omega))
    have h2 := h k (by omega)
    have h3 : (chV B l k + 1) * B ≤ B ^ k * B := Nat.mul_le_mul_right B h1
    rw [chV, Nat.pow_succ]
    rw [Nat.add_mul, Nat.one_mul] at h3
    omega
theorem chV_same {B : Nat} {l l' : Nat → Nat} : ∀ k, (∀ i, i < k → l i = l' i) → chV B l k = chV B l' k
  | 0, _ => rfl
  | k + 1, h => by rw [chV, chV, chV_same k (fun i hi => h i (by omega)), h k (by omega)]
theorem chV_step {k n : Nat} {l : Nat → Nat} {i : Nat} (h : Rise k n l) (hm : MovesAt k n l i) : chV n l k < chV n (nxt l i) k := by
  have h0 : chV n l i = chV n (nxt l i) i := chV_same i (fun r hr => by unfold nxt; rw [if_pos hr])
  have key : ∀ d, i + d < k → chV n l (i + d + 1) < chV n (nxt l i) (i + d + 1) := by
    intro d
    induction d with
    | zero =>
      intro _
      rw [Nat.add_zero, chV, chV, h0]
      unfold nxt
      rw [if_neg (Nat.lt_irrefl i)]
      omega
    | succ d ih =>
      intro hd
      have h1 := ih (by omega)
      have h2 := h.1 (i + d + 1) (by omega)
      have h3 : (chV n l (i + d + 1) + 1) * n ≤ chV n (nxt l i) (i + d + 1) * n := Nat.mul_le_mul_right n h1
      rw [Nat.add_mul, Nat.one_mul] at h3
      show chV n l (i + d + 1) * n + l (i + d + 1) < chV n (nxt l i) (i + d + 1) * n + nxt l i (i + d + 1)
      omega
  have hi := hm.1
  have := key (k - 1 - i) (by omega)
  rwa [show i + (k - 1 - i) + 1 = k by omega] at this

section
variable {q : FP}
/-- these rows of the identity and E behind it have an inverse -/
def GoodCh (q : FP) (k : Nat) (E : Nat → Nat → El q) (f : Nat → Nat) : Prop := rk k (fun i j => joinE k dl E (f i) j) k = k
theorem GoodCh.congr {k : Nat} {E : Nat → Nat → El q} {f g : Nat → Nat} (h : GoodCh q k E f) (e : ∀ r, r < k → g r = f r) : GoodCh q k E g := by
  unfold GoodCh at *
  exact (rk_congr (fun r hr j _ => by rw [e r hr])).trans h
/-- all choices ahead of l have an inverse -/
def SafeTo (q : FP) (k m : Nat) (E : Nat → Nat → El q) (l : Nat → Nat) : Prop := ∀ f, Rise k (k + m) f → Lx k f l → GoodCh q k E f
/-- rows that are safe -/
def SafeP (q : FP) (k m : Nat) (E : Nat → Nat → El q) : Prop := ∀ f, Rise k (k + m) f → GoodCh q k E f
theorem safeTo_first (k m : Nat) (E : Nat → Nat → El q) : SafeTo q k m E (fun i => i) := fun _ hf h => (first_lx hf h).elim
theorem safeTo_next {k m : Nat} {E : Nat → Nat → El q} {l : Nat → Nat} {i : Nat} (h : SafeTo q k m E l) (hg : GoodCh q k E l) (hm : MovesAt k (k + m) l i) : SafeTo q k m E (nxt l i) := fun f hf hl => by
  rcases nxt_lx hm hf hl with h1 | h1
  · exact h f hf h1
  · exact hg.congr h1
theorem safeTo_last {k m : Nat} {E : Nat → Nat → El q} {l : Nat → Nat} (h : SafeTo q k m E l) (hg : GoodCh q k E l) (hm : ∀ r, r < k → k + m + r ≤ l r + k) : SafeP q k m E := fun f hf => by
  rcases last_lx hm hf with h1 | h1
  · exact h f hf h1
  · exact hg.congr h1
theorem safe_of_any {k m : Nat} {E : Nat → Nat → El q} (h : ∀ f : Nat → Nat, (∀ i, i < k → f i < k + m) → (∀ i j, i < k → j < k → f i = f j → i = j) → rk k (fun i j => joinE k dl E (f i) j) k = k) : SafeP q k m E :=
  fun f hf => h f hf.1 hf.inj
theorem SafeP.congr {k m : Nat} {E E' : Nat → Nat → El q} (h : SafeP q k m E) (e : ∀ i, i < m → ∀ j, j < k → E' i j = E i j) : SafeP q k m E' := fun f hf => by
  have h1 := h f hf
  unfold GoodCh at *
  refine Eq.trans (rk_congr (fun r hr j hj => ?_)) h1
  unfold joinE
  have := hf.1 r hr
  split
  · rfl
  · exact e _ (by omega) j hj
theorem SafeP.iff {k m : Nat} {E E' : Nat → Nat → El q} (e : ∀ i, i < m → ∀ j, j < k → E' i j = E i j) : SafeP q k m E ↔ SafeP q k m E' := ⟨fun h => h.congr e, fun h => h.congr (fun i hi j hj => (e i hi j hj).symm)⟩
/-- rows that are safe have no 0 -/
theorem safe_ne {k m : Nat} {E : Nat → Nat → El q} (h : SafeP q k m E) {i j : Nat} (hi : i < m) (hj : j < k) : E i j ≠ 0 := fun h0 => by
  have hf := h (fun r => if r < j then r else if r + 1 < k then r + 1 else k + i) ⟨fun r hr => by
    dsimp only
    split
    · omega
    · split <;> omega, fun r hr => by
    dsimp only
    by_cases c1 : r < j
    · rw [if_pos c1]
      by_cases c2 : r + 1 < j
      · rw [if_pos c2]; omega
      · rw [if_neg c2]
        split <;> omega
    · rw [if_neg c1, if_pos hr, if_neg (show ¬ r + 1 < j by omega)]
      split <;> omega⟩
  have h1 := (ivm_inv hf).1 j hj j hj
  rw [dl_self] at h1
  refine El.one_ne (h1.symm.trans (su_none (fun r hr => ?_)))
  dsimp only
  unfold joinE
  by_cases c1 : r < j
  · rw [if_pos c1, if_pos (by omega), dl_ne (by omega), El.mul_zero]
  · rw [if_neg c1]
    by_cases c2 : r + 1 < k
    · rw [if_pos c2, if_pos c2, dl_ne (by omega), El.mul_zero]
    · rw [if_neg c2, if_neg (by omega), Nat.add_sub_cancel_left, h0, El.mul_zero]
/-- of as many rows as columns they have an inverse -/
theorem safe_square {k : Nat} {E : Nat → Nat → El q} (h : SafeP q k k E) : rk k E k = k := by
  have h1 := h (fun r => k + r) ⟨fun r hr => by dsimp only; omega, fun r _ => by dsimp only; omega⟩
  refine Eq.trans (rk_congr (fun r _ j _ => ?_)) h1
  unfold joinE
  dsimp only
  rw [if_neg (by omega), Nat.add_sub_cancel_left]
theorem cau_safe {k m : Nat} {x y : Nat → El q} (hx : ∀ i j, i < m → j < m → x i = x j → i = j) (hy : ∀ i j, i < k → j < k → y i = y j → i = j) (hxy : ∀ i j, i < m → j < k → x i ≠ y j) : SafeP q k m (cauE x y) :=
  safe_of_any (cau_any hx hy hxy)
theorem par_safe {k m : Nat} (hm : 1 ≤ m) (hN : ((k + m : Nat) : Int) ≤ M.ord q.p) : SafeP q k m (parE q k (k + m)) := safe_of_any (par_any hm hN)
theorem sys_safe {k m : Nat} (hN : ((k + m : Nat) : Int) ≤ M.ord q.p) : SafeP q k m (fun i j => sysE q k (k + i) j) := safe_of_any (fun f hf hu => by
  refine Eq.trans (rk_congr (fun i hi j hj => ?_)) (sys_any (l := f) (by omega) (fun i hi => by have := hf i hi; omega) hu)
  unfold joinE
  by_cases e : f i < k
  · rw [if_pos e]
    exact (sys_id (by omega) e hj).symm
  · rw [if_neg e]
    dsimp only
    rw [show k + (f i - k) = f i by omega])
end
end Go.Proofs.YtgcochamjicjiaaGreat
