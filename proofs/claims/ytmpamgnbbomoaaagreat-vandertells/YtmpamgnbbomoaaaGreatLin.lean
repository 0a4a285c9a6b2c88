/- Matrices over a field of the program's: rows reduced, inverses, ranks: plain mathematics. -/
import Derived.Test.YtmpamgnbbomoaaaGreatAlg
namespace Go.Proofs.YtmpamgnbbomoaaaGreat

/-- a field of the program's -/
structure FP where
  p : Nat
  prim : M.Prim p
/-- its numbers -/
structure El (q : FP) where
  val : Nat
  le : val ≤ M.ord q.p

section
variable {q : FP}
theorem El.ext {a b : El q} (h : a.val = b.val) : a = b := by
  cases a; cases b
  simp only at h
  subst h
  rfl
instance : Add (El q) := ⟨fun a b => ⟨a.val ^^^ b.val, M.xor_le q.prim.1 a.le b.le⟩⟩
instance : Mul (El q) := ⟨fun a b => ⟨gm q.p a.val b.val, gm_le q.prim.1 _ _⟩⟩
instance : Zero (El q) := ⟨⟨0, Nat.zero_le _⟩⟩
instance : One (El q) := ⟨⟨1, M.ord_pos q.prim.1⟩⟩
instance : DecidableEq (El q) := fun a b => if h : a.val = b.val then isTrue (El.ext h) else isFalse (fun e => h (by rw [e]))
/-- the number's inverse -/
def El.inv (a : El q) : El q := ⟨M.inv q.p a.val, M.pw_le q.prim.1 _ _⟩

theorem El.add_val (a b : El q) : (a + b).val = a.val ^^^ b.val := rfl
theorem El.mul_val (a b : El q) : (a * b).val = gm q.p a.val b.val := rfl
theorem El.zero_val : (0 : El q).val = 0 := rfl
theorem El.one_val : (1 : El q).val = 1 := rfl
theorem El.eq_zero {a : El q} : a = 0 ↔ a.val = 0 := ⟨fun h => by rw [h]; rfl, fun h => El.ext h⟩
theorem El.add_comm (a b : El q) : a + b = b + a := El.ext (Nat.xor_comm _ _)
theorem El.add_assoc (a b c : El q) : a + b + c = a + (b + c) := El.ext (Nat.xor_assoc _ _ _)
theorem El.add_zero (a : El q) : a + 0 = a := El.ext (Nat.xor_zero _)
theorem El.zero_add (a : El q) : 0 + a = a := El.ext (Nat.zero_xor _)
theorem El.add_self (a : El q) : a + a = 0 := El.ext (Nat.xor_self _)
theorem El.mul_comm (a b : El q) : a * b = b * a := El.ext (gm_comm _ _ _)
theorem El.mul_assoc (a b c : El q) : a * b * c = a * (b * c) := El.ext (gm_assoc _ _ _ _)
theorem El.mul_zero (a : El q) : a * 0 = 0 := El.ext (gm_zero _ _)
theorem El.zero_mul (a : El q) : 0 * a = 0 := El.ext (zero_gm _ _)
theorem El.mul_one (a : El q) : a * 1 = a := El.ext (gm_one q.prim.1 a.le)
theorem El.one_mul (a : El q) : 1 * a = a := El.ext (one_gm q.prim.1 a.le)
theorem El.mul_add (a b c : El q) : a * (b + c) = a * b + a * c := El.ext (gm_lin _ _ _ _)
theorem El.add_mul (a b c : El q) : (a + b) * c = a * c + b * c := El.ext (gm_lin' _ _ _ _)
theorem El.one_ne : (1 : El q) ≠ 0 := fun h => by
  have := congrArg El.val h
  rw [El.one_val, El.zero_val] at this
  omega
theorem El.mul_inv {a : El q} (h : a ≠ 0) : a * a.inv = 1 := El.ext (by
  have h0 : a.val ≠ 0 := fun e => h (El.eq_zero.2 e)
  exact M.mul_inv q.prim (by omega) a.le)
theorem El.inv_mul {a : El q} (h : a ≠ 0) : a.inv * a = 1 := by rw [El.mul_comm, El.mul_inv h]
theorem El.cancel {a b : El q} (h : a ≠ 0) (hab : a * b = 0) : b = 0 := by
  rw [← El.one_mul b, ← El.inv_mul h, El.mul_assoc, hab, El.mul_zero]
theorem El.add_eq_zero {a b : El q} : a + b = 0 ↔ a = b :=
  ⟨fun h => by rw [← El.add_zero a, ← El.add_self b, ← El.add_assoc, h, El.zero_add], fun h => by rw [h, El.add_self]⟩
instance : Std.Associative (α := El q) (· + ·) := ⟨El.add_assoc⟩
instance : Std.Commutative (α := El q) (· + ·) := ⟨El.add_comm⟩
instance : Std.Associative (α := El q) (· * ·) := ⟨El.mul_assoc⟩
instance : Std.Commutative (α := El q) (· * ·) := ⟨El.mul_comm⟩

/-- a sum -/
def su : Nat → (Nat → El q) → El q
  | 0, _ => 0
  | n + 1, f => su n f + f n
theorem su_congr {n : Nat} {f g : Nat → El q} (h : ∀ i, i < n → f i = g i) : su n f = su n g := by
  induction n with
  | zero => rfl
  | succ n ih => rw [su, su, ih (fun i hi => h i (by omega)), h n (by omega)]
theorem su_none {n : Nat} {f : Nat → El q} (h : ∀ i, i < n → f i = 0) : su n f = 0 := by
  induction n with
  | zero => rfl
  | succ n ih => rw [su, ih (fun i hi => h i (by omega)), h n (by omega), El.add_zero]
theorem su_add (n : Nat) (f g : Nat → El q) : su n (fun i => f i + g i) = su n f + su n g := by
  induction n with
  | zero => exact (El.add_zero _).symm
  | succ n ih => rw [su, su, su, ih]; ac_rfl
theorem su_swap (n m : Nat) (f : Nat → Nat → El q) : su n (fun i => su m (fun j => f i j)) = su m (fun j => su n (fun i => f i j)) := by
  induction n with
  | zero => exact (su_none (fun _ _ => rfl)).symm
  | succ n ih =>
    rw [su, ih]
    exact (su_add m _ _).symm
theorem mul_su (a : El q) (n : Nat) (f : Nat → El q) : a * su n f = su n (fun i => a * f i) := by
  induction n with
  | zero => exact El.mul_zero a
  | succ n ih => rw [su, su, El.mul_add, ih]
theorem su_mul (a : El q) (n : Nat) (f : Nat → El q) : su n f * a = su n (fun i => f i * a) := by
  rw [El.mul_comm, mul_su]
  exact su_congr (fun i _ => El.mul_comm a (f i))
theorem su_one {n : Nat} (f : Nat → El q) {k : Nat} (hk : k < n) (h : ∀ i, i < n → i ≠ k → f i = 0) : su n f = f k := by
  induction n with
  | zero => omega
  | succ n ih =>
    rw [su]
    by_cases e : k = n
    · subst e
      rw [su_none (fun i hi => h i (by omega) (by omega)), El.zero_add]
    · rw [ih (by omega) (fun i hi hne => h i (by omega) hne), h n (by omega) (fun e' => e e'.symm), El.add_zero]
theorem su_le {n m : Nat} (f : Nat → El q) (hnm : n ≤ m) (h : ∀ i, n ≤ i → i < m → f i = 0) : su m f = su n f := by
  induction m with
  | zero =>
    obtain rfl : n = 0 := by omega
    rfl
  | succ m ih =>
    by_cases e : n = m + 1
    · rw [e]
    · rw [su, ih (by omega) (fun i h1 h2 => h i h1 (by omega)), h m (by omega) (by omega), El.add_zero]

/-- a product of matrices, k numbers in each row of the first -/
def mm (k : Nat) (A B : Nat → Nat → El q) (r c : Nat) : El q := su k (fun i => A r i * B i c)
/-- the identity -/
def dl (r c : Nat) : El q := if r = c then 1 else 0
theorem dl_self (r : Nat) : dl (q := q) r r = 1 := if_pos rfl
theorem dl_ne {r c : Nat} (h : r ≠ c) : dl (q := q) r c = 0 := if_neg h
theorem mm_congr {k : Nat} {A A' B B' : Nat → Nat → El q} {r c : Nat} (h1 : ∀ i, i < k → A r i = A' r i) (h2 : ∀ i, i < k → B i c = B' i c) : mm k A B r c = mm k A' B' r c :=
  su_congr (fun i hi => by rw [h1 i hi, h2 i hi])
theorem mm_congr2 {k : Nat} {A A' B B' : Nat → Nat → El q} {r c r' c' : Nat} (h1 : ∀ i, i < k → A r i = A' r' i) (h2 : ∀ i, i < k → B i c = B' i c') : mm k A B r c = mm k A' B' r' c' :=
  su_congr (fun i hi => by rw [h1 i hi, h2 i hi])
theorem mm_assoc (n m : Nat) (A B C : Nat → Nat → El q) (r c : Nat) : mm m (mm n A B) C r c = mm n A (mm m B C) r c := by
  unfold mm
  have e1 : ∀ j, su n (fun i => A r i * B i j) * C j c = su n (fun i => A r i * (B i j * C j c)) := fun j => by
    rw [su_mul]
    exact su_congr (fun i _ => El.mul_assoc _ _ _)
  have e2 : ∀ i, A r i * su m (fun j => B i j * C j c) = su m (fun j => A r i * (B i j * C j c)) := fun i => mul_su _ _ _
  simp only [e1, e2]
  exact su_swap m n _
theorem dl_mm {n : Nat} (A : Nat → Nat → El q) {r : Nat} (hr : r < n) (c : Nat) : mm n dl A r c = A r c := by
  unfold mm
  rw [su_one _ hr (fun i _ hne => by rw [dl_ne (fun e => hne e.symm), El.zero_mul]), dl_self, El.one_mul]
theorem mm_dl {n : Nat} (A : Nat → Nat → El q) (r : Nat) {c : Nat} (hc : c < n) : mm n A dl r c = A r c := by
  unfold mm
  rw [su_one _ hc (fun i _ hne => by rw [dl_ne hne, El.mul_zero]), dl_self, El.mul_one]

/-- two matrices whose product is the identity -/
def IsI (n : Nat) (A B : Nat → Nat → El q) : Prop := ∀ r, r < n → ∀ c, c < n → mm n A B r c = dl r c
/-- from both sides -/
def Inv2 (n : Nat) (A B : Nat → Nat → El q) : Prop := IsI n A B ∧ IsI n B A
theorem isI_comp {n : Nat} {E E' A B : Nat → Nat → El q} (h1 : IsI n E E') (h2 : IsI n A B) : IsI n (mm n E A) (mm n B E') := fun r hr c hc => by
  rw [mm_assoc]
  refine (mm_congr (fun _ _ => rfl) (fun i hi => ?_)).trans (h1 r hr c hc)
  rw [← mm_assoc]
  exact (mm_congr (fun k hk => h2 i hi k hk) (fun _ _ => rfl)).trans (dl_mm E' hi c)
theorem Inv2.comp {n : Nat} {E E' A B : Nat → Nat → El q} (h1 : Inv2 n E E') (h2 : Inv2 n A B) : Inv2 n (mm n E A) (mm n B E') := ⟨isI_comp h1.1 h2.1, isI_comp h2.2 h1.2⟩
theorem Inv2.dl (n : Nat) : Inv2 (q := q) n dl dl := ⟨fun _ hr c _ => dl_mm _ hr c, fun _ hr c _ => dl_mm _ hr c⟩
/-- the inverse is one alone -/
theorem isI_uniq {n : Nat} {L A R : Nat → Nat → El q} (h1 : IsI n L A) (h2 : IsI n A R) : ∀ r, r < n → ∀ c, c < n → L r c = R r c := fun r hr c hc => by
  rw [← mm_dl L r hc, ← dl_mm R hr c]
  refine (mm_congr (fun _ _ => rfl) (fun i hi => (h2 i hi c hc).symm)).trans ?_
  rw [← mm_assoc]
  exact mm_congr (fun i hi => h1 r hr i hi) (fun _ _ => rfl)

/-- the first row from t on, of d, that has something in column j; t + d, if there is none -/
def fnd (F : Nat → Nat → El q) (j : Nat) : Nat → Nat → Nat
  | 0, t => t
  | d + 1, t => if F t j = 0 then fnd F j d (t + 1) else t
theorem fnd_is {F : Nat → Nat → El q} {j : Nat} : ∀ (d t P : Nat), t ≤ P → P ≤ t + d → (∀ i, t ≤ i → i < P → F i j = 0) → (P = t + d ∨ F P j ≠ 0) → fnd F j d t = P
  | 0, t, P, h1, h2, _, _ => by rw [fnd]; omega
  | d + 1, t, P, h1, h2, h3, h4 => by
    rw [fnd]
    by_cases e : F t j = 0
    · rw [if_pos e]
      have hne : P ≠ t := fun e' => by
        rcases h4 with h4 | h4
        · omega
        · rw [e'] at h4; exact h4 e
      exact fnd_is d (t + 1) P (by omega) (by omega) (fun i hi1 hi2 => h3 i (by omega) hi2) (h4.imp (fun h => by omega) id)
    · rw [if_neg e]
      rcases Nat.lt_or_ge t P with h | h
      · exact absurd (h3 t (Nat.le_refl _) h) e
      · omega
theorem fnd_spec (F : Nat → Nat → El q) (j : Nat) : ∀ (d t : Nat), t ≤ fnd F j d t ∧ fnd F j d t ≤ t + d ∧ (∀ i, t ≤ i → i < fnd F j d t → F i j = 0) ∧ (fnd F j d t < t + d → F (fnd F j d t) j ≠ 0)
  | 0, t => ⟨Nat.le_refl _, Nat.le_refl _, fun i h1 h2 => absurd h2 (by rw [fnd]; omega), fun h => absurd h (by rw [fnd]; omega)⟩
  | d + 1, t => by
    rw [fnd]
    by_cases e : F t j = 0
    · rw [if_pos e]
      obtain ⟨h1, h2, h3, h4⟩ := fnd_spec F j d (t + 1)
      refine ⟨by omega, by omega, fun i hi1 hi2 => ?_, fun h => h4 (by omega)⟩
      by_cases ei : i = t
      · rw [ei]; exact e
      · exact h3 i (by omega) hi2
    · rw [if_neg e]
      exact ⟨Nat.le_refl _, by omega, fun i h1 h2 => absurd h2 (by omega), fun _ => e⟩

/-- two rows change places -/
def sw (a b r : Nat) : Nat := if r = a then b else if r = b then a else r
theorem sw_lt {a b r n : Nat} (ha : a < n) (hb : b < n) (hr : r < n) : sw a b r < n := by unfold sw; split <;> (try split) <;> omega
theorem sw_sw (a b r : Nat) : sw a b (sw a b r) = r := by unfold sw; split <;> (try split) <;> (try split) <;> (try split) <;> omega
theorem sw_eq {a b r s : Nat} : sw a b r = sw a b s ↔ r = s := ⟨fun h => by rw [← sw_sw a b r, h, sw_sw], fun h => by rw [h]⟩
/-- a column is cleared, but for row t -/
def clr (F : Nat → Nat → El q) (t j r k : Nat) : El q := if r = t then (F t j).inv * F t k else F r k + F r j * ((F t j).inv * F t k)
/-- a step of the reduction: rows, and how many pivots there are -/
def stp (n : Nat) (s : (Nat → Nat → El q) × Nat) (j : Nat) : (Nat → Nat → El q) × Nat :=
  if fnd s.1 j (n - s.2) s.2 < n then (clr (fun r => s.1 (sw s.2 (fnd s.1 j (n - s.2) s.2) r)) s.2 j, s.2 + 1) else s
/-- rows reduced by their first columns -/
def red (n : Nat) (F : Nat → Nat → El q) : Nat → (Nat → Nat → El q) × Nat
  | 0 => (F, 0)
  | c + 1 => stp n (red n F c) c

theorem stp_yes {n : Nat} {s : (Nat → Nat → El q) × Nat} {j P : Nat} (h1 : s.2 ≤ P) (h2 : P < n) (h3 : ∀ i, s.2 ≤ i → i < P → s.1 i j = 0) (h4 : s.1 P j ≠ 0) : stp n s j = (clr (fun r => s.1 (sw s.2 P r)) s.2 j, s.2 + 1) := by
  have := fnd_is (n - s.2) s.2 P h1 (by omega) h3 (Or.inr h4)
  unfold stp
  rw [this, if_pos h2]
theorem stp_no {n : Nat} {s : (Nat → Nat → El q) × Nat} {j : Nat} (h1 : s.2 ≤ n) (h3 : ∀ i, s.2 ≤ i → i < n → s.1 i j = 0) : stp n s j = s := by
  have := fnd_is (F := s.1) (j := j) (n - s.2) s.2 n h1 (by omega) h3 (Or.inl (by omega))
  unfold stp
  rw [this, if_neg (by omega)]
theorem stp_cases {n : Nat} {s : (Nat → Nat → El q) × Nat} {j : Nat} (hs : s.2 ≤ n) :
    (∃ P, s.2 ≤ P ∧ P < n ∧ (∀ i, s.2 ≤ i → i < P → s.1 i j = 0) ∧ s.1 P j ≠ 0 ∧ stp n s j = (clr (fun r => s.1 (sw s.2 P r)) s.2 j, s.2 + 1)) ∨ ((∀ i, s.2 ≤ i → i < n → s.1 i j = 0) ∧ stp n s j = s) := by
  obtain ⟨h1, h2, h3, h4⟩ := fnd_spec s.1 j (n - s.2) s.2
  rcases Nat.lt_or_ge (fnd s.1 j (n - s.2) s.2) n with h | h
  · exact Or.inl ⟨_, h1, h, h3, h4 (by omega), stp_yes h1 h h3 (h4 (by omega))⟩
  · have e : fnd s.1 j (n - s.2) s.2 = n := by omega
    rw [e] at h3
    exact Or.inr ⟨h3, stp_no hs h3⟩

/-- the matrix that a step multiplies by, and its inverse -/
def eC (u : Nat → El q) (t r i : Nat) : El q := if r = t then (u t).inv * dl t i else dl r i + u r * ((u t).inv * dl t i)
def eD (u : Nat → El q) (t r i : Nat) : El q := if r = t then u t * dl t i else dl r i + u r * dl t i
def eS (a b r i : Nat) : El q := dl (sw a b r) i
theorem su_eC {n : Nat} (u : Nat → El q) {t : Nat} (ht : t < n) (B : Nat → Nat → El q) {r : Nat} (hr : r < n) (c : Nat) : mm n (eC u t) B r c = if r = t then (u t).inv * B t c else B r c + u r * ((u t).inv * B t c) := by
  unfold mm eC
  by_cases e : r = t
  · simp only [if_pos e]
    rw [su_one _ ht (fun i _ hne => by rw [dl_ne (fun e => hne e.symm), El.mul_zero, El.zero_mul]), dl_self, El.mul_one]
  · simp only [if_neg e]
    have e1 : ∀ i, (dl r i + u r * ((u t).inv * dl t i)) * B i c = dl r i * B i c + u r * (u t).inv * (dl t i * B i c) := fun i => by rw [El.add_mul]; congr 1; ac_rfl
    simp only [e1]
    rw [su_add, ← mul_su]
    have h1 := dl_mm B hr c
    have h2 := dl_mm B ht c
    unfold mm at h1 h2
    rw [h1, h2, El.mul_assoc]
theorem su_eD {n : Nat} (u : Nat → El q) {t : Nat} (ht : t < n) (B : Nat → Nat → El q) {r : Nat} (hr : r < n) (c : Nat) : mm n (eD u t) B r c = if r = t then u t * B t c else B r c + u r * B t c := by
  unfold mm eD
  by_cases e : r = t
  · simp only [if_pos e]
    rw [su_one _ ht (fun i _ hne => by rw [dl_ne (fun e => hne e.symm), El.mul_zero, El.zero_mul]), dl_self, El.mul_one]
  · simp only [if_neg e]
    have e1 : ∀ i, (dl r i + u r * dl t i) * B i c = dl r i * B i c + u r * (dl t i * B i c) := fun i => by rw [El.add_mul]; congr 1; ac_rfl
    simp only [e1]
    rw [su_add, ← mul_su]
    have h1 := dl_mm B hr c
    have h2 := dl_mm B ht c
    unfold mm at h1 h2
    rw [h1, h2]
theorem eCD {n : Nat} (u : Nat → El q) {t : Nat} (ht : t < n) (h0 : u t ≠ 0) : Inv2 n (eC u t) (eD u t) := by
  constructor
  · intro r hr c _
    rw [su_eC u ht _ hr]
    by_cases e : r = t
    · subst e
      rw [if_pos rfl, eD, if_pos rfl, ← El.mul_assoc, El.inv_mul h0, El.one_mul]
    · rw [if_neg e, eD, if_neg e, eD, if_pos rfl, ← El.mul_assoc (u t).inv, El.inv_mul h0, El.one_mul, El.add_assoc, El.add_self, El.add_zero]
  · intro r hr c _
    rw [su_eD u ht _ hr]
    by_cases e : r = t
    · subst e
      rw [if_pos rfl, eC, if_pos rfl, ← El.mul_assoc, El.mul_inv h0, El.one_mul]
    · rw [if_neg e, eC, if_neg e, eC, if_pos rfl, El.add_assoc, El.add_self, El.add_zero]
theorem su_eS {n : Nat} {a b : Nat} (ha : a < n) (hb : b < n) (B : Nat → Nat → El q) {r : Nat} (hr : r < n) (c : Nat) : mm n (eS a b) B r c = B (sw a b r) c := dl_mm B (sw_lt ha hb hr) c
theorem eSS {n : Nat} {a b : Nat} (ha : a < n) (hb : b < n) : Inv2 (q := q) n (eS a b) (eS a b) := by
  have h : IsI (q := q) n (eS a b) (eS a b) := fun r hr c _ => by
    rw [su_eS ha hb _ hr]
    unfold eS
    rw [sw_sw]
  exact ⟨h, h⟩

/-- the rows reduced by the first c columns are R times the rows; all that hangs on their first columns alone -/
structure Redd (n : Nat) (F : Nat → Nat → El q) (c : Nat) (R S : Nat → Nat → El q) : Prop where
  inv : Inv2 n R S
  few : (red n F c).2 ≤ n
  fewc : (red n F c).2 ≤ c
  rows : ∀ G : Nat → Nat → El q, (∀ r, r < n → ∀ k, k < c → G r k = F r k) → (red n G c).2 = (red n F c).2 ∧ ∀ r, r < n → ∀ k, (red n G c).1 r k = mm n R G r k
  zero : ∀ r, (red n F c).2 ≤ r → r < n → ∀ k, k < c → (red n F c).1 r k = 0
  piv : ∀ i, i < (red n F c).2 → ∃ k, k < c ∧ ∀ r, r < n → (red n F c).1 r k = dl r i
  all : (red n F c).2 = c → ∀ k, k < c → ∀ r, r < n → (red n F c).1 r k = dl r k

theorem clr_eq (F : Nat → Nat → El q) {n t : Nat} (ht : t < n) (j : Nat) {r : Nat} (hr : r < n) (k : Nat) : clr F t j r k = mm n (eC (fun r => F r j) t) F r k := by
  rw [su_eC _ ht _ hr]
  rfl
theorem clr_pivot (F : Nat → Nat → El q) {t j : Nat} (h0 : F t j ≠ 0) (r : Nat) : clr F t j r j = dl r t := by
  unfold clr
  by_cases e : r = t
  · rw [if_pos e, El.inv_mul h0, e, dl_self]
  · rw [if_neg e, El.inv_mul h0, El.mul_one, El.add_self, dl_ne e]
theorem clr_zero (F : Nat → Nat → El q) {t j k : Nat} (h0 : F t k = 0) (r : Nat) : clr F t j r k = F r k := by
  unfold clr
  by_cases e : r = t
  · rw [if_pos e, e, h0, El.mul_zero]
  · rw [if_neg e, h0, El.mul_zero, El.mul_zero, El.add_zero]

theorem redd (n : Nat) (F : Nat → Nat → El q) : ∀ c, ∃ R S, Redd n F c R S
  | 0 => ⟨dl, dl, Inv2.dl n, Nat.zero_le _, Nat.le_refl _, fun G _ => ⟨rfl, fun r hr k => (dl_mm G hr k).symm⟩, fun r _ _ k hk => absurd hk (by omega), fun i hi => absurd hi (Nat.not_lt_zero i), fun _ k hk => absurd hk (by omega)⟩
  | c + 1 => by
    obtain ⟨R, S, h⟩ := redd n F c
    obtain ⟨s, hs⟩ : ∃ s, red n F c = s := ⟨_, rfl⟩
    have hred : red n F (c + 1) = stp n s c := by rw [red, hs]
    have hin := h.inv
    have hfew := h.few
    have hfewc := h.fewc
    have hrows := h.rows
    have hzero := h.zero
    have hpiv := h.piv
    have hall := h.all
    rw [hs] at hfew hfewc hrows hzero hpiv hall
    rcases stp_cases (j := c) hfew with ⟨P, h1, h2, h3, h4, h5⟩ | ⟨h3, h5⟩
    · have ht : s.2 < n := by omega
      have hu0 : s.1 (sw s.2 P s.2) c ≠ 0 := by unfold sw; rw [if_pos rfl]; exact h4
      refine ⟨mm n (mm n (eC (fun r => s.1 (sw s.2 P r) c) s.2) (eS s.2 P)) R, mm n S (mm n (eS s.2 P) (eD (fun r => s.1 (sw s.2 P r) c) s.2)), ?_⟩
      have hswz : ∀ k, (∀ r, s.2 ≤ r → r < n → s.1 r k = 0) → ∀ r, s.2 ≤ r → r < n → s.1 (sw s.2 P r) k = 0 := fun k hk r hr1 hr2 => by
        refine hk _ ?_ (sw_lt ht h2 hr2)
        unfold sw; split <;> (try split) <;> omega
      refine ⟨((eCD _ ht hu0).comp (eSS ht h2)).comp hin, ?_, ?_, ?_, ?_, ?_, ?_⟩
      · rw [hred, h5]; exact ht
      · rw [hred, h5]; exact Nat.succ_le_succ hfewc
      · intro G hG
        obtain ⟨g1, g2⟩ := hrows G (fun r hr k hk => hG r hr k (by omega))
        have f2 := (hrows F (fun _ _ _ _ => rfl)).2
        rw [hs] at f2
        have gc : ∀ r, r < n → (red n G c).1 r c = s.1 r c := fun r hr => by
          rw [g2 r hr, f2 r hr]
          exact mm_congr (fun _ _ => rfl) (fun i hi => hG i hi c (by omega))
        have h5' := stp_yes (n := n) (s := red n G c) (j := c) (P := P) (by rw [g1]; exact h1) h2 (fun i hi1 hi2 => by rw [g1] at hi1; rw [gc i (by omega)]; exact h3 i hi1 hi2) (by rw [gc P h2]; exact h4)
        have e1 : red n G (c + 1) = stp n (red n G c) c := rfl
        rw [e1, h5', hred, h5, g1]
        refine ⟨rfl, fun r hr k => ?_⟩
        dsimp only
        rw [clr_eq _ ht c hr k, mm_assoc, mm_assoc]
        refine mm_congr (fun i hi => ?_) (fun i hi => ?_)
        · unfold eC
          dsimp only
          rw [gc _ (sw_lt ht h2 hr), gc _ (sw_lt ht h2 ht)]
        · rw [su_eS ht h2 _ hi]
          exact g2 _ (sw_lt ht h2 hi) k
      · rw [hred, h5]
        intro r hr1 hr2 k hk
        dsimp only at hr1 ⊢
        by_cases e : k = c
        · subst e
          rw [clr_pivot (fun r => s.1 (sw s.2 P r)) hu0, dl_ne (by omega)]
        · have hk' : k < c := by omega
          have hz : ∀ r, s.2 ≤ r → r < n → s.1 r k = 0 := fun r hr1 hr2 => hzero r hr1 hr2 k hk'
          rw [clr_zero (fun r => s.1 (sw s.2 P r)) (hswz k hz s.2 (Nat.le_refl _) ht)]
          exact hswz k hz r (by omega) hr2
      · rw [hred, h5]
        intro i hi
        dsimp only at hi ⊢
        by_cases e : i = s.2
        · exact ⟨c, by omega, fun r _ => by rw [clr_pivot (fun r => s.1 (sw s.2 P r)) hu0, e]⟩
        · obtain ⟨k, hk1, hk2⟩ := hpiv i (by omega)
          refine ⟨k, by omega, fun r hr => ?_⟩
          have hz : s.1 (sw s.2 P s.2) k = 0 := by
            rw [hk2 _ (sw_lt ht h2 ht), dl_ne]
            unfold sw; rw [if_pos rfl]; omega
          rw [clr_zero (fun r => s.1 (sw s.2 P r)) hz, hk2 _ (sw_lt ht h2 hr)]
          unfold dl
          congr 1
          unfold sw
          apply propext
          split <;> (try split) <;> omega
      · rw [hred, h5]
        intro hc k hk r hr
        dsimp only at hc ⊢
        have hsc : s.2 = c := by omega
        by_cases e : k = c
        · subst e
          rw [clr_pivot (fun r => s.1 (sw s.2 P r)) hu0, hsc]
        · have hk2 := hall hsc k (by omega)
          have hz : s.1 (sw s.2 P s.2) k = 0 := by
            rw [hk2 _ (sw_lt ht h2 ht), dl_ne]
            unfold sw; rw [if_pos rfl]; omega
          rw [clr_zero (fun r => s.1 (sw s.2 P r)) hz, hk2 _ (sw_lt ht h2 hr)]
          unfold dl
          congr 1
          unfold sw
          apply propext
          split <;> (try split) <;> omega
    · rw [← hred] at h5
      refine ⟨R, S, hin, ?_, ?_, ?_, ?_, ?_, ?_⟩
      · rw [h5]; exact hfew
      · rw [h5]; omega
      · intro G hG
        obtain ⟨g1, g2⟩ := hrows G (fun r hr k hk => hG r hr k (by omega))
        have f2 := (hrows F (fun _ _ _ _ => rfl)).2
        rw [hs] at f2
        have gc : ∀ r, r < n → (red n G c).1 r c = s.1 r c := fun r hr => by
          rw [g2 r hr, f2 r hr]
          exact mm_congr (fun _ _ => rfl) (fun i hi => hG i hi c (by omega))
        have e1 : red n G (c + 1) = red n G c := stp_no (s := red n G c) (by rw [g1]; exact hfew) (fun i hi1 hi2 => by rw [g1] at hi1; rw [gc i hi2]; exact h3 i hi1 hi2)
        rw [e1, h5]
        exact ⟨g1, g2⟩
      · rw [h5]
        intro r hr1 hr2 k hk
        by_cases e : k = c
        · rw [e]; exact h3 r hr1 hr2
        · exact hzero r hr1 hr2 k (by omega)
      · rw [h5]
        intro i hi
        obtain ⟨k, hk1, hk2⟩ := hpiv i hi
        exact ⟨k, by omega, hk2⟩
      · rw [h5]
        intro hc
        omega

/-- how many pivots there are -/
def rk (n : Nat) (F : Nat → Nat → El q) (c : Nat) : Nat := (red n F c).2
theorem rk_le (n : Nat) (F : Nat → Nat → El q) (c : Nat) : rk n F c ≤ n ∧ rk n F c ≤ c := by
  obtain ⟨_, _, h⟩ := redd n F c
  exact ⟨h.few, h.fewc⟩
theorem rk_congr {n c : Nat} {F G : Nat → Nat → El q} (h : ∀ r, r < n → ∀ k, k < c → G r k = F r k) : rk n G c = rk n F c := by
  obtain ⟨_, _, hr⟩ := redd n F c
  exact (hr.rows G h).1

/-- what has an inverse to its right has as many pivots as rows -/
theorem full_of_right {n : Nat} {F X : Nat → Nat → El q} (h : IsI n F X) : rk n F n = n := by
  obtain ⟨R, S, hr⟩ := redd n F n
  rcases Nat.lt_or_ge (red n F n).2 n with hlt | hge
  · exfalso
    have hz := hr.zero (n - 1) (by omega) (by omega)
    have hrow := (hr.rows F (fun _ _ _ _ => rfl)).2 (n - 1) (by omega)
    have hR : ∀ c, c < n → R (n - 1) c = 0 := fun c hc => by
      rw [← mm_dl R (n - 1) hc]
      refine (mm_congr (fun _ _ => rfl) (fun i hi => (h i hi c hc).symm)).trans ?_
      rw [← mm_assoc]
      exact su_none (fun i hi => by rw [← hrow i, hz i hi, El.zero_mul])
    have h1 := hr.inv.1 (n - 1) (by omega) (n - 1) (by omega)
    rw [dl_self] at h1
    exact El.one_ne (h1.symm.trans (su_none (fun i hi => by rw [hR i hi, El.zero_mul])))
  · exact Nat.le_antisymm hr.few hge

/-- b beside a, which has n columns -/
def aug (n : Nat) (A B : Nat → Nat → El q) (r k : Nat) : El q := if k < n then A r k else B r (k - n)
/-- what has as many pivots as rows has an inverse; what stands beside it is multiplied by that -/
theorem full_inv {n : Nat} {F : Nat → Nat → El q} (h : rk n F n = n) : ∃ R, Inv2 n R F ∧ ∀ G : Nat → Nat → El q, (∀ r, r < n → ∀ k, k < n → G r k = F r k) → (red n G n).2 = n ∧ ∀ r, r < n → ∀ k, (red n G n).1 r k = mm n R G r k := by
  obtain ⟨R, S, hr⟩ := redd n F n
  have h' : (red n F n).2 = n := h
  have h1 : IsI n R F := fun r hr' c hc => by
    rw [← (hr.rows F (fun _ _ _ _ => rfl)).2 r hr' c]
    exact hr.all h' c hc r hr'
  have hS : ∀ r, r < n → ∀ c, c < n → S r c = F r c := isI_uniq hr.inv.2 h1
  refine ⟨R, ⟨h1, fun r hr' c hc => ?_⟩, fun G hG => ?_⟩
  · exact (mm_congr (fun i hi => (hS r hr' i hi).symm) (fun _ _ => rfl)).trans (hr.inv.2 r hr' c hc)
  · obtain ⟨g1, g2⟩ := hr.rows G hG
    exact ⟨g1.trans h', g2⟩
theorem full_of_left {n : Nat} {F X : Nat → Nat → El q} (h : IsI n X F) : rk n F n = n := by
  obtain ⟨R, hR, _⟩ := full_inv (full_of_right h)
  have e := isI_uniq hR.1 h
  exact full_of_right (X := X) (fun r hr c hc => (mm_congr (fun i hi => (e r hr i hi).symm) (fun _ _ => rfl)).trans (hR.1 r hr c hc))
theorem left_of_right {n : Nat} {F X : Nat → Nat → El q} (h : IsI n F X) : IsI n X F := by
  obtain ⟨R, hR, _⟩ := full_inv (full_of_right h)
  have e := isI_uniq hR.1 h
  exact fun r hr c hc => (mm_congr (fun i hi => (e r hr i hi).symm) (fun _ _ => rfl)).trans (hR.1 r hr c hc)

/-- the inverse, as it is reckoned -/
def ivm (n : Nat) (F : Nat → Nat → El q) (r c : Nat) : El q := (red n (aug n F dl) n).1 r (n + c)
theorem rk_aug (n : Nat) (F B : Nat → Nat → El q) : (red n (aug n F B) n).2 = rk n F n := rk_congr (fun r _ k hk => by unfold aug; rw [if_pos hk])
theorem ivm_inv {n : Nat} {F : Nat → Nat → El q} (h : rk n F n = n) : Inv2 n (ivm n F) F := by
  obtain ⟨R, hR, hG⟩ := full_inv h
  obtain ⟨_, g⟩ := hG (aug n F dl) (fun r _ k hk => by unfold aug; rw [if_pos hk])
  have e : ∀ r, r < n → ∀ c, c < n → ivm n F r c = R r c := fun r hr c hc => by
    unfold ivm
    rw [g r hr]
    refine (mm_congr2 (fun _ _ => rfl) (fun i _ => ?_)).trans (mm_dl R r hc)
    unfold aug
    rw [if_neg (by omega), Nat.add_sub_cancel_left]
  exact ⟨fun r hr c hc => (mm_congr (fun i hi => e r hr i hi) (fun _ _ => rfl)).trans (hR.1 r hr c hc), fun r hr c hc => (mm_congr (fun _ _ => rfl) (fun i hi => e i hi c hc)).trans (hR.2 r hr c hc)⟩
/-- what stands beside is multiplied by the inverse -/
theorem aug_inv {n : Nat} {F B : Nat → Nat → El q} (h : rk n F n = n) : ∀ r, r < n → ∀ c, (red n (aug n F B) n).1 r (n + c) = mm n (ivm n F) B r c := fun r hr c => by
  obtain ⟨R, hR, hG⟩ := full_inv h
  obtain ⟨_, g⟩ := hG (aug n F B) (fun r _ k hk => by unfold aug; rw [if_pos hk])
  rw [g r hr]
  exact mm_congr2 (fun i hi => isI_uniq hR.1 (ivm_inv h).2 r hr i hi) (fun i _ => by unfold aug; rw [if_neg (by omega), Nat.add_sub_cancel_left])

/-- the rows are sums of k rows -/
def Fac (n m : Nat) (F : Nat → Nat → El q) (k : Nat) : Prop := ∃ X Y : Nat → Nat → El q, ∀ r, r < n → ∀ c, c < m → F r c = mm k X Y r c
/-- the identity of t rows is no product by way of fewer -/
theorem thin {t k : Nat} {P Q : Nat → Nat → El q} (h : IsI t (fun r c => mm k P Q r c) dl) : t ≤ k := by
  rcases Nat.lt_or_ge k t with hlt | hge
  · exfalso
    have h1 : IsI t (fun r i => if i < k then P r i else 0) (fun i c => if i < k then Q i c else 0) := fun r hr c hc => by
      rw [← h r hr c hc, mm_dl _ r hc]
      unfold mm
      rw [su_le (n := k) _ (by omega) (fun i hi _ => by dsimp only; rw [if_neg (by omega), El.zero_mul])]
      exact su_congr (fun i hi => by dsimp only; rw [if_pos hi, if_pos hi])
    have h2 := left_of_right h1 (t - 1) (by omega) (t - 1) (by omega)
    rw [dl_self] at h2
    refine El.one_ne (h2.symm.trans (su_none (fun i _ => ?_)))
    dsimp only
    rw [if_neg (by omega), El.zero_mul]
  · exact hge
theorem rk_fac (n m : Nat) (F : Nat → Nat → El q) : Fac n m F (rk n F m) := by
  obtain ⟨R, S, hr⟩ := redd n F m
  refine ⟨S, (red n F m).1, fun r hr' c hc => ?_⟩
  have e : mm n S (red n F m).1 r c = F r c := by
    refine (mm_congr (fun _ _ => rfl) (fun i hi => (hr.rows F (fun _ _ _ _ => rfl)).2 i hi c)).trans ?_
    rw [← mm_assoc]
    exact (mm_congr (fun i hi => hr.inv.2 r hr' i hi) (fun _ _ => rfl)).trans (dl_mm F hr' c)
  rw [← e]
  exact su_le _ hr.few (fun i h1 h2 => by rw [hr.zero i h1 h2 c hc, El.mul_zero])
theorem fac_rk {n m : Nat} {F : Nat → Nat → El q} {k : Nat} (h : Fac n m F k) : rk n F m ≤ k := by
  obtain ⟨R, S, hr⟩ := redd n F m
  obtain ⟨X, Y, hF⟩ := h
  have hp := hr.piv
  have hpc : ∃ pc : Nat → Nat, ∀ i, i < (red n F m).2 → pc i < m ∧ ∀ r, r < n → (red n F m).1 r (pc i) = dl r i :=
    ⟨fun i => if h : i < (red n F m).2 then Classical.choose (hp i h) else 0, fun i hi => by
      dsimp only
      rw [dif_pos hi]
      exact Classical.choose_spec (hp i hi)⟩
  obtain ⟨pc, hpc⟩ := hpc
  refine thin (P := mm n R X) (Q := fun i c => Y i (pc c)) (fun r hr' c hc => ?_)
  rw [mm_dl _ r hc, mm_assoc]
  obtain ⟨h1, h2⟩ := hpc c hc
  have hrn : r < n := Nat.lt_of_lt_of_le hr' hr.few
  rw [← h2 r hrn, (hr.rows F (fun _ _ _ _ => rfl)).2 r hrn]
  exact mm_congr (fun _ _ => rfl) (fun i hi => (hF i hi _ h1).symm)

/-- rows of which no sum of products is nought have an inverse -/
theorem full_of_free {n : Nat} {F : Nat → Nat → El q} (h : ∀ c : Nat → El q, (∀ j, j < n → su n (fun i => c i * F i j) = 0) → ∀ i, i < n → c i = 0) : rk n F n = n := by
  obtain ⟨R, S, hr⟩ := redd n F n
  rcases Nat.lt_or_ge (red n F n).2 n with hlt | hge
  · exfalso
    have hz := hr.zero (n - 1) (by omega) (by omega)
    have hrow := (hr.rows F (fun _ _ _ _ => rfl)).2 (n - 1) (by omega)
    have hR := h (R (n - 1)) (fun j hj => by
      have := hrow j
      unfold mm at this
      rw [← this, hz j hj])
    have h1 := hr.inv.1 (n - 1) (by omega) (n - 1) (by omega)
    rw [dl_self] at h1
    exact El.one_ne (h1.symm.trans (su_none (fun i hi => by rw [hR i hi, El.zero_mul])))
  · exact Nat.le_antisymm hr.few hge
theorem free_of_full {n : Nat} {F : Nat → Nat → El q} (h : rk n F n = n) (c : Nat → El q) (hc : ∀ j, j < n → su n (fun i => c i * F i j) = 0) : ∀ i, i < n → c i = 0 := fun i hi => by
  have h1 := ivm_inv h
  have e : mm n (fun _ => c) (mm n F (ivm n F)) 0 i = c i := (mm_congr (fun _ _ => rfl) (fun k hk => h1.2 k hk i hi)).trans (mm_dl (fun _ => c) 0 hi)
  rw [← e, ← mm_assoc]
  exact su_none (fun j hj => by
    have := hc j hj
    unfold mm
    rw [this, El.zero_mul])
/-- rows two of which are the same have none -/
theorem not_full {n : Nat} {F : Nat → Nat → El q} {i k : Nat} (hi : i < n) (hk : k < n) (hne : i ≠ k) (h : ∀ c, c < n → F i c = F k c) : rk n F n ≠ n := fun hf => by
  have h1 := (ivm_inv hf).2
  have e1 := h1 i hi i hi
  have e2 := h1 k hk i hi
  rw [dl_self] at e1
  rw [dl_ne (fun e => hne e.symm)] at e2
  exact El.one_ne (e1.symm.trans ((mm_congr2 (fun j hj => h j hj) (fun _ _ => rfl)).trans e2))
end
end Go.Proofs.YtmpamgnbbomoaaaGreat
