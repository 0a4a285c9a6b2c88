/- Sums of products over a field: plain mathematics. Matrices over a field of the program's: rows reduced, inverses, ranks: plain mathematics. Ranks of rows joined and left out, rows of powers, columns: plain mathematics. Plain mathematics: how many of some numbers are so; choices of rows by steps; rows of a matrix of which any so many have an inverse; ISA-L's rows of powers behind the identity. -/
import Derived.Test.YtgdgimknnjbieaaGreatDoorGxh

namespace Go.Proofs.YtgdgimknnjbieaaGreatDoor

/-- the product of two numbers of a field -/
def gm (p a b : Nat) : Nat := M.md (M.mul a b) p
theorem gm_comm (p a b : Nat) : gm p a b = gm p b a := by unfold gm; rw [M.mul_comm]
theorem gm_assoc (p a b c : Nat) : gm p (gm p a b) c = gm p a (gm p b c) := M.mul_assoc_md a b c p
theorem gm_lin (p a x y : Nat) : gm p a (x ^^^ y) = gm p a x ^^^ gm p a y := by unfold gm; rw [M.mul_lin]; exact M.md_lin p _ _
theorem gm_lin' (p a x y : Nat) : gm p (x ^^^ y) a = gm p x a ^^^ gm p y a := by rw [gm_comm, gm_lin, gm_comm p a x, gm_comm p a y]
theorem gm_zero (p a : Nat) : gm p a 0 = 0 := by unfold gm; rw [M.mul_zero, M.md_zero]
theorem zero_gm (p a : Nat) : gm p 0 a = 0 := by rw [gm_comm, gm_zero]
theorem gm_one {p : Nat} (h : M.irr p = true) {a : Nat} (ha : a ≤ M.ord p) : gm p a 1 = a := by unfold gm; rw [M.mul_one, M.md_self h ha]
theorem one_gm {p : Nat} (h : M.irr p = true) {a : Nat} (ha : a ≤ M.ord p) : gm p 1 a = a := by rw [gm_comm, gm_one h ha]
theorem gm_le {p : Nat} (h : M.irr p = true) (a b : Nat) : gm p a b ≤ M.ord p := M.md_in h _

/-- a sum -/
def sm : Nat → (Nat → Nat) → Nat
  | 0, _ => 0
  | n + 1, f => sm n f ^^^ f n
theorem sm_congr {n : Nat} {f g : Nat → Nat} (h : ∀ i, i < n → f i = g i) : sm n f = sm n g := by
  induction n with
  | zero => rfl
  | succ n ih => rw [sm, sm, ih (fun i hi => h i (by omega)), h n (by omega)]

theorem fmul_gm {p : Nat} {a b : Int} (ha : 0 ≤ a ∧ a ≤ M.ord p) (hb : 0 ≤ b ∧ b ≤ M.ord p) : (fmul p a b).toNat = gm p a.toNat b.toNat := by
  rw [fmul_in ha.1 ha.2 hb.1 hb.2]; rfl
theorem dot_sm {p : Nat} {x y : Nat → Int} {n : Nat} (hx : allIn (M.ord p) x n) (hy : allIn (M.ord p) y n) : dotN p x y n = sm n (fun i => gm p (x i).toNat (y i).toNat) := by
  induction n with
  | zero => rfl
  | succ n ih => rw [dotN, sm, ih (fun j hj => hx j (by omega)) (fun j hj => hy j (by omega)), fmul_gm (hx n (by omega)) (hy n (by omega))]

end Go.Proofs.YtgdgimknnjbieaaGreatDoor

namespace Go.Proofs.YtgdgimknnjbieaaGreatDoor

/-- a field of the program's -/
structure FP where
  p : Nat
  prim : M.Prim p
/-- its numbers -/
structure El (q : FP) where
  val : Nat
  le : val ≤ M.ord q.p

section
variable {q : FP}
theorem El.ext {a b : El q} (h : a.val = b.val) : a = b := by
  cases a; cases b
  simp only at h
  subst h
  rfl
instance : Add (El q) := ⟨fun a b => ⟨a.val ^^^ b.val, M.xor_le q.prim.1 a.le b.le⟩⟩
instance : Mul (El q) := ⟨fun a b => ⟨gm q.p a.val b.val, gm_le q.prim.1 _ _⟩⟩
instance : Zero (El q) := ⟨⟨0, Nat.zero_le _⟩⟩
instance : One (El q) := ⟨⟨1, M.ord_pos q.prim.1⟩⟩
instance : DecidableEq (El q) := fun a b => if h : a.val = b.val then isTrue (El.ext h) else isFalse (fun e => h (by rw [e]))
/-- the number's inverse -/
def El.inv (a : El q) : El q := ⟨M.inv q.p a.val, M.pw_le q.prim.1 _ _⟩

theorem El.add_val (a b : El q) : (a + b).val = a.val ^^^ b.val := rfl
theorem El.mul_val (a b : El q) : (a * b).val = gm q.p a.val b.val := rfl
theorem El.zero_val : (0 : El q).val = 0 := rfl
theorem El.one_val : (1 : El q).val = 1 := rfl
theorem El.eq_zero {a : El q} : a = 0 ↔ a.val = 0 := ⟨fun h => by rw [h]; rfl, fun h => El.ext h⟩
theorem El.add_comm (a b : El q) : a + b = b + a := El.ext (Nat.xor_comm _ _)
theorem El.add_assoc (a b c : El q) : a + b + c = a + (b + c) := El.ext (Nat.xor_assoc _ _ _)
theorem El.add_zero (a : El q) : a + 0 = a := El.ext (Nat.xor_zero _)
theorem El.zero_add (a : El q) : 0 + a = a := El.ext (Nat.zero_xor _)
theorem El.add_self (a : El q) : a + a = 0 := El.ext (Nat.xor_self _)
theorem El.mul_comm (a b : El q) : a * b = b * a := El.ext (gm_comm _ _ _)
theorem El.mul_assoc (a b c : El q) : a * b * c = a * (b * c) := El.ext (gm_assoc _ _ _ _)
theorem El.mul_zero (a : El q) : a * 0 = 0 := El.ext (gm_zero _ _)
theorem El.zero_mul (a : El q) : 0 * a = 0 := El.ext (zero_gm _ _)
theorem El.mul_one (a : El q) : a * 1 = a := El.ext (gm_one q.prim.1 a.le)
theorem El.one_mul (a : El q) : 1 * a = a := El.ext (one_gm q.prim.1 a.le)
theorem El.mul_add (a b c : El q) : a * (b + c) = a * b + a * c := El.ext (gm_lin _ _ _ _)
theorem El.add_mul (a b c : El q) : (a + b) * c = a * c + b * c := El.ext (gm_lin' _ _ _ _)
theorem El.one_ne : (1 : El q) ≠ 0 := fun h => by
  have := congrArg El.val h
  rw [El.one_val, El.zero_val] at this
  omega
theorem El.mul_inv {a : El q} (h : a ≠ 0) : a * a.inv = 1 := El.ext (by
  have h0 : a.val ≠ 0 := fun e => h (El.eq_zero.2 e)
  exact M.mul_inv q.prim (by omega) a.le)
theorem El.inv_mul {a : El q} (h : a ≠ 0) : a.inv * a = 1 := by rw [El.mul_comm, El.mul_inv h]
theorem El.cancel {a b : El q} (h : a ≠ 0) (hab : a * b = 0) : b = 0 := by
  rw [← El.one_mul b, ← El.inv_mul h, El.mul_assoc, hab, El.mul_zero]
theorem El.add_eq_zero {a b : El q} : a + b = 0 ↔ a = b :=
  ⟨fun h => by rw [← El.add_zero a, ← El.add_self b, ← El.add_assoc, h, El.zero_add], fun h => by rw [h, El.add_self]⟩
instance : Std.Associative (α := El q) (· + ·) := ⟨El.add_assoc⟩
instance : Std.Commutative (α := El q) (· + ·) := ⟨El.add_comm⟩
instance : Std.Associative (α := El q) (· * ·) := ⟨El.mul_assoc⟩
instance : Std.Commutative (α := El q) (· * ·) := ⟨El.mul_comm⟩

/-- a sum -/
def su : Nat → (Nat → El q) → El q
  | 0, _ => 0
  | n + 1, f => su n f + f n
theorem su_congr {n : Nat} {f g : Nat → El q} (h : ∀ i, i < n → f i = g i) : su n f = su n g := by
  induction n with
  | zero => rfl
  | succ n ih => rw [su, su, ih (fun i hi => h i (by omega)), h n (by omega)]
theorem su_none {n : Nat} {f : Nat → El q} (h : ∀ i, i < n → f i = 0) : su n f = 0 := by
  induction n with
  | zero => rfl
  | succ n ih => rw [su, ih (fun i hi => h i (by omega)), h n (by omega), El.add_zero]
theorem su_add (n : Nat) (f g : Nat → El q) : su n (fun i => f i + g i) = su n f + su n g := by
  induction n with
  | zero => exact (El.add_zero _).symm
  | succ n ih => rw [su, su, su, ih]; ac_rfl
theorem su_swap (n m : Nat) (f : Nat → Nat → El q) : su n (fun i => su m (fun j => f i j)) = su m (fun j => su n (fun i => f i j)) := by
  induction n with
  | zero => exact (su_none (fun _ _ => rfl)).symm
  | succ n ih =>
    rw [su, ih]
    exact (su_add m _ _).symm
theorem mul_su (a : El q) (n : Nat) (f : Nat → El q) : a * su n f = su n (fun i => a * f i) := by
  induction n with
  | zero => exact El.mul_zero a
  | succ n ih => rw [su, su, El.mul_add, ih]
theorem su_mul (a : El q) (n : Nat) (f : Nat → El q) : su n f * a = su n (fun i => f i * a) := by
  rw [El.mul_comm, mul_su]
  exact su_congr (fun i _ => El.mul_comm a (f i))
theorem su_one {n : Nat} (f : Nat → El q) {k : Nat} (hk : k < n) (h : ∀ i, i < n → i ≠ k → f i = 0) : su n f = f k := by
  induction n with
  | zero => omega
  | succ n ih =>
    rw [su]
    by_cases e : k = n
    · subst e
      rw [su_none (fun i hi => h i (by omega) (by omega)), El.zero_add]
    · rw [ih (by omega) (fun i hi hne => h i (by omega) hne), h n (by omega) (fun e' => e e'.symm), El.add_zero]

/-- a product of matrices, k numbers in each row of the first -/
def mm (k : Nat) (A B : Nat → Nat → El q) (r c : Nat) : El q := su k (fun i => A r i * B i c)
/-- the identity -/
def dl (r c : Nat) : El q := if r = c then 1 else 0
theorem dl_self (r : Nat) : dl (q := q) r r = 1 := if_pos rfl
theorem dl_ne {r c : Nat} (h : r ≠ c) : dl (q := q) r c = 0 := if_neg h
theorem mm_congr {k : Nat} {A A' B B' : Nat → Nat → El q} {r c : Nat} (h1 : ∀ i, i < k → A r i = A' r i) (h2 : ∀ i, i < k → B i c = B' i c) : mm k A B r c = mm k A' B' r c :=
  su_congr (fun i hi => by rw [h1 i hi, h2 i hi])
theorem mm_congr2 {k : Nat} {A A' B B' : Nat → Nat → El q} {r c r' c' : Nat} (h1 : ∀ i, i < k → A r i = A' r' i) (h2 : ∀ i, i < k → B i c = B' i c') : mm k A B r c = mm k A' B' r' c' :=
  su_congr (fun i hi => by rw [h1 i hi, h2 i hi])
theorem mm_assoc (n m : Nat) (A B C : Nat → Nat → El q) (r c : Nat) : mm m (mm n A B) C r c = mm n A (mm m B C) r c := by
  unfold mm
  have e1 : ∀ j, su n (fun i => A r i * B i j) * C j c = su n (fun i => A r i * (B i j * C j c)) := fun j => by
    rw [su_mul]
    exact su_congr (fun i _ => El.mul_assoc _ _ _)
  have e2 : ∀ i, A r i * su m (fun j => B i j * C j c) = su m (fun j => A r i * (B i j * C j c)) := fun i => mul_su _ _ _
  simp only [e1, e2]
  exact su_swap m n _
theorem dl_mm {n : Nat} (A : Nat → Nat → El q) {r : Nat} (hr : r < n) (c : Nat) : mm n dl A r c = A r c := by
  unfold mm
  rw [su_one _ hr (fun i _ hne => by rw [dl_ne (fun e => hne e.symm), El.zero_mul]), dl_self, El.one_mul]
theorem mm_dl {n : Nat} (A : Nat → Nat → El q) (r : Nat) {c : Nat} (hc : c < n) : mm n A dl r c = A r c := by
  unfold mm
  rw [su_one _ hc (fun i _ hne => by rw [dl_ne hne, El.mul_zero]), dl_self, El.mul_one]

/-- two matrices whose product is the identity -/
def IsI (n : Nat) (A B : Nat → Nat → El q) : Prop := ∀ r, r < n → ∀ c, c < n → mm n A B r c = dl r c
/-- from both sides -/
def Inv2 (n : Nat) (A B : Nat → Nat → El q) : Prop := IsI n A B ∧ IsI n B A
theorem isI_comp {n : Nat} {E E' A B : Nat → Nat → El q} (h1 : IsI n E E') (h2 : IsI n A B) : IsI n (mm n E A) (mm n B E') := fun r hr c hc => by
  rw [mm_assoc]
  refine (mm_congr (fun _ _ => rfl) (fun i hi => ?_)).trans (h1 r hr c hc)
  rw [← mm_assoc]
  exact (mm_congr (fun k hk => h2 i hi k hk) (fun _ _ => rfl)).trans (dl_mm E' hi c)
theorem Inv2.comp {n : Nat} {E E' A B : Nat → Nat → El q} (h1 : Inv2 n E E') (h2 : Inv2 n A B) : Inv2 n (mm n E A) (mm n B E') := ⟨isI_comp h1.1 h2.1, isI_comp h2.2 h1.2⟩
theorem Inv2.dl (n : Nat) : Inv2 (q := q) n dl dl := ⟨fun _ hr c _ => dl_mm _ hr c, fun _ hr c _ => dl_mm _ hr c⟩
/-- the inverse is one alone -/
theorem isI_uniq {n : Nat} {L A R : Nat → Nat → El q} (h1 : IsI n L A) (h2 : IsI n A R) : ∀ r, r < n → ∀ c, c < n → L r c = R r c := fun r hr c hc => by
  rw [← mm_dl L r hc, ← dl_mm R hr c]
  refine (mm_congr (fun _ _ => rfl) (fun i hi => (h2 i hi c hc).symm)).trans ?_
  rw [← mm_assoc]
  exact mm_congr (fun i hi => h1 r hr i hi) (fun _ _ => rfl)

/-- the first row from t on, of d, that has something in column j; t + d, if there is none -/
def fnd (F : Nat → Nat → El q) (j : Nat) : Nat → Nat → Nat
  | 0, t => t
  | d + 1, t => if F t j = 0 then fnd F j d (t + 1) else t
theorem fnd_is {F : Nat → Nat → El q} {j : Nat} : ∀ (d t P : Nat), t ≤ P → P ≤ t + d → (∀ i, t ≤ i → i < P → F i j = 0) → (P = t + d ∨ F P j ≠ 0) → fnd F j d t = P
  | 0, t, P, h1, h2, _, _ => by rw [fnd]; omega
  | d + 1, t, P, h1, h2, h3, h4 => by
    rw [fnd]
    by_cases e : F t j = 0
    · rw [if_pos e]
      have hne : P ≠ t := fun e' => by
        rcases h4 with h4 | h4
        · omega
        · rw [e'] at h4; exact h4 e
      exact fnd_is d (t + 1) P (by omega) (by omega) (fun i hi1 hi2 => h3 i (by omega) hi2) (h4.imp (fun h => by omega) id)
    · rw [if_neg e]
      rcases Nat.lt_or_ge t P with h | h
      · exact absurd (h3 t (Nat.le_refl _) h) e
      · omega
theorem fnd_spec (F : Nat → Nat → El q) (j : Nat) : ∀ (d t : Nat), t ≤ fnd F j d t ∧ fnd F j d t ≤ t + d ∧ (∀ i, t ≤ i → i < fnd F j d t → F i j = 0) ∧ (fnd F j d t < t + d → F (fnd F j d t) j ≠ 0)
  | 0, t => ⟨Nat.le_refl _, Nat.le_refl _, fun i h1 h2 => absurd h2 (by rw [fnd]; omega), fun h => absurd h (by rw [fnd]; omega)⟩
  | d + 1, t => by
    rw [fnd]
    by_cases e : F t j = 0
    · rw [if_pos e]
      obtain ⟨h1, h2, h3, h4⟩ := fnd_spec F j d (t + 1)
      refine ⟨by omega, by omega, fun i hi1 hi2 => ?_, fun h => h4 (by omega)⟩
      by_cases ei : i = t
      · rw [ei]; exact e
      · exact h3 i (by omega) hi2
    · rw [if_neg e]
      exact ⟨Nat.le_refl _, by omega, fun i h1 h2 => absurd h2 (by omega), fun _ => e⟩

/-- two rows change places -/
def sw (a b r : Nat) : Nat := if r = a then b else if r = b then a else r
theorem sw_lt {a b r n : Nat} (ha : a < n) (hb : b < n) (hr : r < n) : sw a b r < n := by unfold sw; split <;> (try split) <;> omega
theorem sw_sw (a b r : Nat) : sw a b (sw a b r) = r := by unfold sw; split <;> (try split) <;> (try split) <;> (try split) <;> omega
theorem sw_eq {a b r s : Nat} : sw a b r = sw a b s ↔ r = s := ⟨fun h => by rw [← sw_sw a b r, h, sw_sw], fun h => by rw [h]⟩
/-- a column is cleared, but for row t -/
def clr (F : Nat → Nat → El q) (t j r k : Nat) : El q := if r = t then (F t j).inv * F t k else F r k + F r j * ((F t j).inv * F t k)
/-- a step of the reduction: rows, and how many pivots there are -/
def stp (n : Nat) (s : (Nat → Nat → El q) × Nat) (j : Nat) : (Nat → Nat → El q) × Nat :=
  if fnd s.1 j (n - s.2) s.2 < n then (clr (fun r => s.1 (sw s.2 (fnd s.1 j (n - s.2) s.2) r)) s.2 j, s.2 + 1) else s
/-- rows reduced by their first columns -/
def red (n : Nat) (F : Nat → Nat → El q) : Nat → (Nat → Nat → El q) × Nat
  | 0 => (F, 0)
  | c + 1 => stp n (red n F c) c

theorem stp_yes {n : Nat} {s : (Nat → Nat → El q) × Nat} {j P : Nat} (h1 : s.2 ≤ P) (h2 : P < n) (h3 : ∀ i, s.2 ≤ i → i < P → s.1 i j = 0) (h4 : s.1 P j ≠ 0) : stp n s j = (clr (fun r => s.1 (sw s.2 P r)) s.2 j, s.2 + 1) := by
  have := fnd_is (n - s.2) s.2 P h1 (by omega) h3 (Or.inr h4)
  unfold stp
  rw [this, if_pos h2]
theorem stp_no {n : Nat} {s : (Nat → Nat → El q) × Nat} {j : Nat} (h1 : s.2 ≤ n) (h3 : ∀ i, s.2 ≤ i → i < n → s.1 i j = 0) : stp n s j = s := by
  have := fnd_is (F := s.1) (j := j) (n - s.2) s.2 n h1 (by omega) h3 (Or.inl (by omega))
  unfold stp
  rw [this, if_neg (by omega)]
theorem stp_cases {n : Nat} {s : (Nat → Nat → El q) × Nat} {j : Nat} (hs : s.2 ≤ n) :
    (∃ P, s.2 ≤ P ∧ P < n ∧ (∀ i, s.2 ≤ i → i < P → s.1 i j = 0) ∧ s.1 P j ≠ 0 ∧ stp n s j = (clr (fun r => s.1 (sw s.2 P r)) s.2 j, s.2 + 1)) ∨ ((∀ i, s.2 ≤ i → i < n → s.1 i j = 0) ∧ stp n s j = s) := by
  obtain ⟨h1, h2, h3, h4⟩ := fnd_spec s.1 j (n - s.2) s.2
  rcases Nat.lt_or_ge (fnd s.1 j (n - s.2) s.2) n with h | h
  · exact Or.inl ⟨_, h1, h, h3, h4 (by omega), stp_yes h1 h h3 (h4 (by omega))⟩
  · have e : fnd s.1 j (n - s.2) s.2 = n := by omega
    rw [e] at h3
    exact Or.inr ⟨h3, stp_no hs h3⟩

/-- the matrix that a step multiplies by, and its inverse -/
def eC (u : Nat → El q) (t r i : Nat) : El q := if r = t then (u t).inv * dl t i else dl r i + u r * ((u t).inv * dl t i)
def eD (u : Nat → El q) (t r i : Nat) : El q := if r = t then u t * dl t i else dl r i + u r * dl t i
def eS (a b r i : Nat) : El q := dl (sw a b r) i
theorem su_eC {n : Nat} (u : Nat → El q) {t : Nat} (ht : t < n) (B : Nat → Nat → El q) {r : Nat} (hr : r < n) (c : Nat) : mm n (eC u t) B r c = if r = t then (u t).inv * B t c else B r c + u r * ((u t).inv * B t c) := by
  unfold mm eC
  by_cases e : r = t
  · simp only [if_pos e]
    rw [su_one _ ht (fun i _ hne => by rw [dl_ne (fun e => hne e.symm), El.mul_zero, El.zero_mul]), dl_self, El.mul_one]
  · simp only [if_neg e]
    have e1 : ∀ i, (dl r i + u r * ((u t).inv * dl t i)) * B i c = dl r i * B i c + u r * (u t).inv * (dl t i * B i c) := fun i => by rw [El.add_mul]; congr 1; ac_rfl
    simp only [e1]
    rw [su_add, ← mul_su]
    have h1 := dl_mm B hr c
    have h2 := dl_mm B ht c
    unfold mm at h1 h2
    rw [h1, h2, El.mul_assoc]
theorem su_eD {n : Nat} (u : Nat → El q) {t : Nat} (ht : t < n) (B : Nat → Nat → El q) {r : Nat} (hr : r < n) (c : Nat) : mm n (eD u t) B r c = if r = t then u t * B t c else B r c + u r * B t c := by
  unfold mm eD
  by_cases e : r = t
  · simp only [if_pos e]
    rw [su_one _ ht (fun i _ hne => by rw [dl_ne (fun e => hne e.symm), El.mul_zero, El.zero_mul]), dl_self, El.mul_one]
  · simp only [if_neg e]
    have e1 : ∀ i, (dl r i + u r * dl t i) * B i c = dl r i * B i c + u r * (dl t i * B i c) := fun i => by rw [El.add_mul]; congr 1; ac_rfl
    simp only [e1]
    rw [su_add, ← mul_su]
    have h1 := dl_mm B hr c
    have h2 := dl_mm B ht c
    unfold mm at h1 h2
    rw [h1, h2]
theorem eCD {n : Nat} (u : Nat → El q) {t : Nat} (ht : t < n) (h0 : u t ≠ 0) : Inv2 n (eC u t) (eD u t) := by
  constructor
  · intro r hr c _
    rw [su_eC u ht _ hr]
    by_cases e : r = t
    · subst e
      rw [if_pos rfl, eD, if_pos rfl, ← El.mul_assoc, El.inv_mul h0, El.one_mul]
    · rw [if_neg e, eD, if_neg e, eD, if_pos rfl, ← El.mul_assoc (u t).inv, El.inv_mul h0, El.one_mul, El.add_assoc, El.add_self, El.add_zero]
  · intro r hr c _
    rw [su_eD u ht _ hr]
    by_cases e : r = t
    · subst e
      rw [if_pos rfl, eC, if_pos rfl, ← El.mul_assoc, El.mul_inv h0, El.one_mul]
    · rw [if_neg e, eC, if_neg e, eC, if_pos rfl, El.add_assoc, El.add_self, El.add_zero]
theorem su_eS {n : Nat} {a b : Nat} (ha : a < n) (hb : b < n) (B : Nat → Nat → El q) {r : Nat} (hr : r < n) (c : Nat) : mm n (eS a b) B r c = B (sw a b r) c := dl_mm B (sw_lt ha hb hr) c
theorem eSS {n : Nat} {a b : Nat} (ha : a < n) (hb : b < n) : Inv2 (q := q) n (eS a b) (eS a b) := by
  have h : IsI (q := q) n (eS a b) (eS a b) := fun r hr c _ => by
    rw [su_eS ha hb _ hr]
    unfold eS
    rw [sw_sw]
  exact ⟨h, h⟩

/-- the rows reduced by the first c columns are R times the rows; all that hangs on their first columns alone -/
structure Redd (n : Nat) (F : Nat → Nat → El q) (c : Nat) (R S : Nat → Nat → El q) : Prop where
  inv : Inv2 n R S
  few : (red n F c).2 ≤ n
  fewc : (red n F c).2 ≤ c
  rows : ∀ G : Nat → Nat → El q, (∀ r, r < n → ∀ k, k < c → G r k = F r k) → (red n G c).2 = (red n F c).2 ∧ ∀ r, r < n → ∀ k, (red n G c).1 r k = mm n R G r k
  zero : ∀ r, (red n F c).2 ≤ r → r < n → ∀ k, k < c → (red n F c).1 r k = 0
  piv : ∀ i, i < (red n F c).2 → ∃ k, k < c ∧ ∀ r, r < n → (red n F c).1 r k = dl r i
  all : (red n F c).2 = c → ∀ k, k < c → ∀ r, r < n → (red n F c).1 r k = dl r k

theorem clr_eq (F : Nat → Nat → El q) {n t : Nat} (ht : t < n) (j : Nat) {r : Nat} (hr : r < n) (k : Nat) : clr F t j r k = mm n (eC (fun r => F r j) t) F r k := by
  rw [su_eC _ ht _ hr]
  rfl
theorem clr_pivot (F : Nat → Nat → El q) {t j : Nat} (h0 : F t j ≠ 0) (r : Nat) : clr F t j r j = dl r t := by
  unfold clr
  by_cases e : r = t
  · rw [if_pos e, El.inv_mul h0, e, dl_self]
  · rw [if_neg e, El.inv_mul h0, El.mul_one, El.add_self, dl_ne e]
theorem clr_zero (F : Nat → Nat → El q) {t j k : Nat} (h0 : F t k = 0) (r : Nat) : clr F t j r k = F r k := by
  unfold clr
  by_cases e : r = t
  · rw [if_pos e, e, h0, El.mul_zero]
  · rw [if_neg e, h0, El.mul_zero, El.mul_zero, El.add_zero]

theorem redd (n : Nat) (F : Nat → Nat → El q) : ∀ c, ∃ R S, Redd n F c R S
  | 0 => ⟨dl, dl, Inv2.dl n, Nat.zero_le _, Nat.le_refl _, fun G _ => ⟨rfl, fun r hr k => (dl_mm G hr k).symm⟩, fun r _ _ k hk => absurd hk (by omega), fun i hi => absurd hi (Nat.not_lt_zero i), fun _ k hk => absurd hk (by omega)⟩
  | c + 1 => by
    obtain ⟨R, S, h⟩ := redd n F c
    obtain ⟨s, hs⟩ : ∃ s, red n F c = s := ⟨_, rfl⟩
    have hred : red n F (c + 1) = stp n s c := by rw [red, hs]
    have hin := h.inv
    have hfew := h.few
    have hfewc := h.fewc
    have hrows := h.rows
    have hzero := h.zero
    have hpiv := h.piv
    have hall := h.all
    rw [hs] at hfew hfewc hrows hzero hpiv hall
    rcases stp_cases (j := c) hfew with ⟨P, h1, h2, h3, h4, h5⟩ | ⟨h3, h5⟩
    · have ht : s.2 < n := by omega
      have hu0 : s.1 (sw s.2 P s.2) c ≠ 0 := by unfold sw; rw [if_pos rfl]; exact h4
      refine ⟨mm n (mm n (eC (fun r => s.1 (sw s.2 P r) c) s.2) (eS s.2 P)) R, mm n S (mm n (eS s.2 P) (eD (fun r => s.1 (sw s.2 P r) c) s.2)), ?_⟩
      have hswz : ∀ k, (∀ r, s.2 ≤ r → r < n → s.1 r k = 0) → ∀ r, s.2 ≤ r → r < n → s.1 (sw s.2 P r) k = 0 := fun k hk r hr1 hr2 => by
        refine hk _ ?_ (sw_lt ht h2 hr2)
        unfold sw; split <;> (try split) <;> omega
      refine ⟨((eCD _ ht hu0).comp (eSS ht h2)).comp hin, ?_, ?_, ?_, ?_, ?_, ?_⟩
      · rw [hred, h5]; exact ht
      · rw [hred, h5]; exact Nat.succ_le_succ hfewc
      · intro G hG
        obtain ⟨g1, g2⟩ := hrows G (fun r hr k hk => hG r hr k (by omega))
        have f2 := (hrows F (fun _ _ _ _ => rfl)).2
        rw [hs] at f2
        have gc : ∀ r, r < n → (red n G c).1 r c = s.1 r c := fun r hr => by
          rw [g2 r hr, f2 r hr]
          exact mm_congr (fun _ _ => rfl) (fun i hi => hG i hi c (by omega))
        have h5' := stp_yes (n := n) (s := red n G c) (j := c) (P := P) (by rw [g1]; exact h1) h2 (fun i hi1 hi2 => by rw [g1] at hi1; rw [gc i (by omega)]; exact h3 i hi1 hi2) (by rw [gc P h2]; exact h4)
        have e1 : red n G (c + 1) = stp n (red n G c) c := rfl
        rw [e1, h5', hred, h5, g1]
        refine ⟨rfl, fun r hr k => ?_⟩
        dsimp only
        rw [clr_eq _ ht c hr k, mm_assoc, mm_assoc]
        refine mm_congr (fun i hi => ?_) (fun i hi => ?_)
        · unfold eC
          dsimp only
          rw [gc _ (sw_lt ht h2 hr), gc _ (sw_lt ht h2 ht)]
        · rw [su_eS ht h2 _ hi]
          exact g2 _ (sw_lt ht h2 hi) k
      · rw [hred, h5]
        intro r hr1 hr2 k hk
        dsimp only at hr1 ⊢
        by_cases e : k = c
        · subst e
          rw [clr_pivot (fun r => s.1 (sw s.2 P r)) hu0, dl_ne (by omega)]
        · have hk' : k < c := by omega
          have hz : ∀ r, s.2 ≤ r → r < n → s.1 r k = 0 := fun r hr1 hr2 => hzero r hr1 hr2 k hk'
          rw [clr_zero (fun r => s.1 (sw s.2 P r)) (hswz k hz s.2 (Nat.le_refl _) ht)]
          exact hswz k hz r (by omega) hr2
      · rw [hred, h5]
        intro i hi
        dsimp only at hi ⊢
        by_cases e : i = s.2
        · exact ⟨c, by omega, fun r _ => by rw [clr_pivot (fun r => s.1 (sw s.2 P r)) hu0, e]⟩
        · obtain ⟨k, hk1, hk2⟩ := hpiv i (by omega)
          refine ⟨k, by omega, fun r hr => ?_⟩
          have hz : s.1 (sw s.2 P s.2) k = 0 := by
            rw [hk2 _ (sw_lt ht h2 ht), dl_ne]
            unfold sw; rw [if_pos rfl]; omega
          rw [clr_zero (fun r => s.1 (sw s.2 P r)) hz, hk2 _ (sw_lt ht h2 hr)]
          unfold dl
          congr 1
          unfold sw
          apply propext
          split <;> (try split) <;> omega
      · rw [hred, h5]
        intro hc k hk r hr
        dsimp only at hc ⊢
        have hsc : s.2 = c := by omega
        by_cases e : k = c
        · subst e
          rw [clr_pivot (fun r => s.1 (sw s.2 P r)) hu0, hsc]
        · have hk2 := hall hsc k (by omega)
          have hz : s.1 (sw s.2 P s.2) k = 0 := by
            rw [hk2 _ (sw_lt ht h2 ht), dl_ne]
            unfold sw; rw [if_pos rfl]; omega
          rw [clr_zero (fun r => s.1 (sw s.2 P r)) hz, hk2 _ (sw_lt ht h2 hr)]
          unfold dl
          congr 1
          unfold sw
          apply propext
          split <;> (try split) <;> omega
    · rw [← hred] at h5
      refine ⟨R, S, hin, ?_, ?_, ?_, ?_, ?_, ?_⟩
      · rw [h5]; exact hfew
      · rw [h5]; omega
      · intro G hG
        obtain ⟨g1, g2⟩ := hrows G (fun r hr k hk => hG r hr k (by omega))
        have f2 := (hrows F (fun _ _ _ _ => rfl)).2
        rw [hs] at f2
        have gc : ∀ r, r < n → (red n G c).1 r c = s.1 r c := fun r hr => by
          rw [g2 r hr, f2 r hr]
          exact mm_congr (fun _ _ => rfl) (fun i hi => hG i hi c (by omega))
        have e1 : red n G (c + 1) = red n G c := stp_no (s := red n G c) (by rw [g1]; exact hfew) (fun i hi1 hi2 => by rw [g1] at hi1; rw [gc i hi2]; exact h3 i hi1 hi2)
        rw [e1, h5]
        exact ⟨g1, g2⟩
      · rw [h5]
        intro r hr1 hr2 k hk
        by_cases e : k = c
        · rw [e]; exact h3 r hr1 hr2
        · exact hzero r hr1 hr2 k (by omega)
      · rw [h5]
        intro i hi
        obtain ⟨k, hk1, hk2⟩ := hpiv i hi
        exact ⟨k, by omega, hk2⟩
      · rw [h5]
        intro hc
        omega

/-- how many pivots there are -/
def rk (n : Nat) (F : Nat → Nat → El q) (c : Nat) : Nat := (red n F c).2
theorem rk_le (n : Nat) (F : Nat → Nat → El q) (c : Nat) : rk n F c ≤ n ∧ rk n F c ≤ c := by
  obtain ⟨_, _, h⟩ := redd n F c
  exact ⟨h.few, h.fewc⟩
theorem rk_congr {n c : Nat} {F G : Nat → Nat → El q} (h : ∀ r, r < n → ∀ k, k < c → G r k = F r k) : rk n G c = rk n F c := by
  obtain ⟨_, _, hr⟩ := redd n F c
  exact (hr.rows G h).1

/-- what has an inverse to its right has as many pivots as rows -/
theorem full_of_right {n : Nat} {F X : Nat → Nat → El q} (h : IsI n F X) : rk n F n = n := by
  obtain ⟨R, S, hr⟩ := redd n F n
  rcases Nat.lt_or_ge (red n F n).2 n with hlt | hge
  · exfalso
    have hz := hr.zero (n - 1) (by omega) (by omega)
    have hrow := (hr.rows F (fun _ _ _ _ => rfl)).2 (n - 1) (by omega)
    have hR : ∀ c, c < n → R (n - 1) c = 0 := fun c hc => by
      rw [← mm_dl R (n - 1) hc]
      refine (mm_congr (fun _ _ => rfl) (fun i hi => (h i hi c hc).symm)).trans ?_
      rw [← mm_assoc]
      exact su_none (fun i hi => by rw [← hrow i, hz i hi, El.zero_mul])
    have h1 := hr.inv.1 (n - 1) (by omega) (n - 1) (by omega)
    rw [dl_self] at h1
    exact El.one_ne (h1.symm.trans (su_none (fun i hi => by rw [hR i hi, El.zero_mul])))
  · exact Nat.le_antisymm hr.few hge

/-- b beside a, which has n columns -/
def aug (n : Nat) (A B : Nat → Nat → El q) (r k : Nat) : El q := if k < n then A r k else B r (k - n)
/-- what has as many pivots as rows has an inverse; what stands beside it is multiplied by that -/
theorem full_inv {n : Nat} {F : Nat → Nat → El q} (h : rk n F n = n) : ∃ R, Inv2 n R F ∧ ∀ G : Nat → Nat → El q, (∀ r, r < n → ∀ k, k < n → G r k = F r k) → (red n G n).2 = n ∧ ∀ r, r < n → ∀ k, (red n G n).1 r k = mm n R G r k := by
  obtain ⟨R, S, hr⟩ := redd n F n
  have h' : (red n F n).2 = n := h
  have h1 : IsI n R F := fun r hr' c hc => by
    rw [← (hr.rows F (fun _ _ _ _ => rfl)).2 r hr' c]
    exact hr.all h' c hc r hr'
  have hS : ∀ r, r < n → ∀ c, c < n → S r c = F r c := isI_uniq hr.inv.2 h1
  refine ⟨R, ⟨h1, fun r hr' c hc => ?_⟩, fun G hG => ?_⟩
  · exact (mm_congr (fun i hi => (hS r hr' i hi).symm) (fun _ _ => rfl)).trans (hr.inv.2 r hr' c hc)
  · obtain ⟨g1, g2⟩ := hr.rows G hG
    exact ⟨g1.trans h', g2⟩
theorem full_of_left {n : Nat} {F X : Nat → Nat → El q} (h : IsI n X F) : rk n F n = n := by
  obtain ⟨R, hR, _⟩ := full_inv (full_of_right h)
  have e := isI_uniq hR.1 h
  exact full_of_right (X := X) (fun r hr c hc => (mm_congr (fun i hi => (e r hr i hi).symm) (fun _ _ => rfl)).trans (hR.1 r hr c hc))

/-- the inverse, as it is reckoned -/
def ivm (n : Nat) (F : Nat → Nat → El q) (r c : Nat) : El q := (red n (aug n F dl) n).1 r (n + c)
theorem rk_aug (n : Nat) (F B : Nat → Nat → El q) : (red n (aug n F B) n).2 = rk n F n := rk_congr (fun r _ k hk => by unfold aug; rw [if_pos hk])
theorem ivm_inv {n : Nat} {F : Nat → Nat → El q} (h : rk n F n = n) : Inv2 n (ivm n F) F := by
  obtain ⟨R, hR, hG⟩ := full_inv h
  obtain ⟨_, g⟩ := hG (aug n F dl) (fun r _ k hk => by unfold aug; rw [if_pos hk])
  have e : ∀ r, r < n → ∀ c, c < n → ivm n F r c = R r c := fun r hr c hc => by
    unfold ivm
    rw [g r hr]
    refine (mm_congr2 (fun _ _ => rfl) (fun i _ => ?_)).trans (mm_dl R r hc)
    unfold aug
    rw [if_neg (by omega), Nat.add_sub_cancel_left]
  exact ⟨fun r hr c hc => (mm_congr (fun i hi => e r hr i hi) (fun _ _ => rfl)).trans (hR.1 r hr c hc), fun r hr c hc => (mm_congr (fun _ _ => rfl) (fun i hi => e i hi c hc)).trans (hR.2 r hr c hc)⟩

/-- the rows are sums of k rows -/
def Fac (n m : Nat) (F : Nat → Nat → El q) (k : Nat) : Prop := ∃ X Y : Nat → Nat → El q, ∀ r, r < n → ∀ c, c < m → F r c = mm k X Y r c

/-- rows of which no sum of products is nought have an inverse -/
theorem full_of_free {n : Nat} {F : Nat → Nat → El q} (h : ∀ c : Nat → El q, (∀ j, j < n → su n (fun i => c i * F i j) = 0) → ∀ i, i < n → c i = 0) : rk n F n = n := by
  obtain ⟨R, S, hr⟩ := redd n F n
  rcases Nat.lt_or_ge (red n F n).2 n with hlt | hge
  · exfalso
    have hz := hr.zero (n - 1) (by omega) (by omega)
    have hrow := (hr.rows F (fun _ _ _ _ => rfl)).2 (n - 1) (by omega)
    have hR := h (R (n - 1)) (fun j hj => by
      have := hrow j
      unfold mm at this
      rw [← this, hz j hj])
    have h1 := hr.inv.1 (n - 1) (by omega) (n - 1) (by omega)
    rw [dl_self] at h1
    exact El.one_ne (h1.symm.trans (su_none (fun i hi => by rw [hR i hi, El.zero_mul])))
  · exact Nat.le_antisymm hr.few hge
theorem free_of_full {n : Nat} {F : Nat → Nat → El q} (h : rk n F n = n) (c : Nat → El q) (hc : ∀ j, j < n → su n (fun i => c i * F i j) = 0) : ∀ i, i < n → c i = 0 := fun i hi => by
  have h1 := ivm_inv h
  have e : mm n (fun _ => c) (mm n F (ivm n F)) 0 i = c i := (mm_congr (fun _ _ => rfl) (fun k hk => h1.2 k hk i hi)).trans (mm_dl (fun _ => c) 0 hi)
  rw [← e, ← mm_assoc]
  exact su_none (fun j hj => by
    have := hc j hj
    unfold mm
    rw [this, El.zero_mul])
end
end Go.Proofs.YtgdgimknnjbieaaGreatDoor

namespace Go.Proofs.YtgdgimknnjbieaaGreatDoor

section
variable {q : FP}
theorem Fac.more {n m k : Nat} {F : Nat → Nat → El q} (h : Fac n m F k) : Fac (n + 1) m F (k + 1) := by
  obtain ⟨X, Y, hF⟩ := h
  refine ⟨fun r i => if r < n then (if i < k then X r i else 0) else (if i = k then 1 else 0), fun i c => if i < k then Y i c else F n c, fun r hr c hc => ?_⟩
  unfold mm
  rw [su]
  by_cases e : r < n
  · simp only [if_pos e, if_neg (Nat.lt_irrefl k), El.zero_mul, El.add_zero]
    rw [hF r e c hc]
    exact su_congr (fun i hi => by rw [if_pos hi, if_pos hi])
  · obtain rfl : r = n := by omega
    simp only [if_neg e, if_neg (Nat.lt_irrefl k), if_true, El.one_mul]
    rw [su_none (fun i hi => by rw [if_neg (show ¬ i = k by omega), El.zero_mul]), El.zero_add]

/-- a product of columns and rows changed for each other -/
theorem mm_tr (n : Nat) (A B : Nat → Nat → El q) (r c : Nat) : mm n (fun i j => B j i) (fun i j => A j i) c r = mm n A B r c := su_congr (fun _ _ => El.mul_comm _ _)
/-- what has an inverse, has one with rows and columns changed for each other -/
theorem full_tr {n : Nat} {F : Nat → Nat → El q} (h : rk n (fun r c => F c r) n = n) : rk n F n = n := by
  have h1 := (ivm_inv h).1
  refine full_of_right (X := fun i j => ivm n (fun r c => F c r) j i) (fun r hr c hc => ?_)
  rw [← mm_tr]
  refine (h1 c hc r hr).trans ?_
  unfold dl
  by_cases e : c = r
  · rw [if_pos e, if_pos e.symm]
  · rw [if_neg e, if_neg (fun h => e h.symm)]

/-- powers -/
def ep (x : El q) : Nat → El q
  | 0 => 1
  | k + 1 => ep x k * x
/-- a polynomial's value -/
def ev (n : Nat) (c : Nat → El q) (x : El q) : El q := su n (fun j => c j * ep x j)
theorem su_shift (n : Nat) (f : Nat → El q) : su (n + 1) f = f 0 + su n (fun j => f (j + 1)) := by
  induction n with
  | zero => rw [su, su, su, El.zero_add, El.add_zero]
  | succ n ih => rw [su, ih, su, El.add_assoc]
theorem ev_shift (n : Nat) (c : Nat → El q) (x : El q) : ev (n + 1) c x = c 0 + x * ev n (fun j => c (j + 1)) x := by
  unfold ev
  rw [su_shift, mul_su, ep, El.mul_one]
  congr 1
  exact su_congr (fun j _ => by dsimp only; rw [ep]; ac_rfl)
theorem ev_none {n : Nat} {c : Nat → El q} (h : ∀ j, j < n → c j = 0) (x : El q) : ev n c x = 0 := su_none (fun j hj => by rw [h j hj, El.zero_mul])
theorem ev_div : ∀ (n : Nat) (c : Nat → El q) (a : El q), ∃ d : Nat → El q, (∀ x, ev (n + 1) c x = (x + a) * ev n d x + ev (n + 1) c a) ∧ ((∀ j, j < n → d j = 0) → ∀ j, j < n → c (j + 1) = 0)
  | 0, c, a => ⟨c, fun x => by rw [ev_shift, ev_shift]; simp only [ev, su, El.mul_zero, El.zero_add, El.add_zero], fun _ j hj => absurd hj (Nat.not_lt_zero j)⟩
  | n + 1, c, a => by
    obtain ⟨d, h1, h2⟩ := ev_div n (fun j => c (j + 1)) a
    refine ⟨fun j => if j = 0 then ev (n + 1) (fun j => c (j + 1)) a else d (j - 1), fun x => ?_, fun h j hj => ?_⟩
    · rw [ev_shift (n + 1) c x, ev_shift (n + 1) c a, ev_shift n (fun j => if j = 0 then ev (n + 1) (fun j => c (j + 1)) a else d (j - 1)) x]
      have e : ev n (fun j => if j + 1 = 0 then ev (n + 1) (fun j => c (j + 1)) a else d (j + 1 - 1)) x = ev n d x := su_congr (fun j _ => by dsimp only; rw [if_neg (by omega), Nat.add_sub_cancel])
      rw [e, if_pos rfl, h1 x]
      obtain ⟨u, hu⟩ : ∃ u, ev (n + 1) (fun j => c (j + 1)) a = u := ⟨_, rfl⟩
      obtain ⟨y, hy⟩ : ∃ y, ev n d x = y := ⟨_, rfl⟩
      rw [hu, hy]
      simp only [El.mul_add, El.add_mul]
      have e2 : x * u + a * u + (x * (x * y) + a * (x * y)) + (c 0 + a * u) = c 0 + (x * (x * y) + x * (a * y) + x * u) + (a * u + a * u) := by ac_rfl
      rw [e2, El.add_self, El.add_zero]
    · have hd : ∀ j, j < n → d j = 0 := fun j hj => by
        have := h (j + 1) (by omega)
        dsimp only at this
        rwa [if_neg (by omega), Nat.add_sub_cancel] at this
      have h3 := h2 hd
      rcases j with _ | j
      · have h0 := h 0 (by omega)
        dsimp only at h0
        rw [if_pos rfl, ev_shift, ev_none (fun j hj => h3 j hj), El.mul_zero, El.add_zero] at h0
        exact h0
      · exact h3 j (by omega)
/-- a polynomial with more roots than its degree is nought -/
theorem ev_roots : ∀ (n : Nat) (x : Nat → El q), (∀ i k, i < n → k < n → x i = x k → i = k) → ∀ c : Nat → El q, (∀ i, i < n → ev n c (x i) = 0) → ∀ j, j < n → c j = 0
  | 0, _, _, _, _, j, hj => absurd hj (Nat.not_lt_zero j)
  | n + 1, x, hx, c, h, j, hj => by
    obtain ⟨d, h1, h2⟩ := ev_div n c (x n)
    have h3 := h2 (ev_roots n x (fun i k hi hk => hx i k (by omega) (by omega)) d (fun i hi => by
      have e := h1 (x i)
      rw [h i (by omega), h n (by omega), El.add_zero] at e
      exact El.cancel (fun e' => absurd (hx i n (by omega) (by omega) (El.add_eq_zero.1 e')) (by omega)) e.symm))
    rcases j with _ | j
    · have h0 := h n (by omega)
      rwa [ev_shift, ev_none (fun j hj => h3 j hj), El.mul_zero, El.add_zero] at h0
    · exact h3 j (by omega)
/-- rows of powers of unlike numbers have an inverse -/
theorem vander_full {n : Nat} {x : Nat → El q} (hx : ∀ i k, i < n → k < n → x i = x k → i = k) : rk n (fun i j => ep (x i) j) n = n :=
  full_tr (full_of_free (fun c hc => ev_roots n x hx c (fun i hi => hc i hi)))
end
end Go.Proofs.YtgdgimknnjbieaaGreatDoor

namespace Go.Proofs.YtgdgimknnjbieaaGreatDoor

/-- how many numbers below n are so -/
def cnt (P : Nat → Bool) : Nat → Nat
  | 0 => 0
  | n + 1 => cnt P n + (if P n then 1 else 0)
theorem cnt_le (P : Nat → Bool) (n : Nat) : cnt P n ≤ n := by
  induction n with
  | zero => exact Nat.le_refl _
  | succ n ih => rw [cnt]; split <;> omega
theorem cnt_congr {P Q : Nat → Bool} {n : Nat} (h : ∀ i, i < n → P i = Q i) : cnt P n = cnt Q n := by
  induction n with
  | zero => rfl
  | succ n ih => rw [cnt, cnt, ih (fun i hi => h i (by omega)), h n (by omega)]
theorem cnt_not (P : Nat → Bool) (n : Nat) : cnt P n + cnt (fun i => !P i) n = n := by
  induction n with
  | zero => rfl
  | succ n ih =>
    rw [cnt, cnt]
    cases h : P n <;> simp <;> omega
theorem cnt_add (P : Nat → Bool) (k m : Nat) : cnt P (k + m) = cnt P k + cnt (fun t => P (k + t)) m := by
  induction m with
  | zero => rfl
  | succ m ih => rw [← Nat.add_assoc, cnt, cnt, ih]; omega
theorem cnt_pos {P : Nat → Bool} {n : Nat} (h : 0 < cnt P n) : ∃ i, i < n ∧ P i = true := by
  induction n with
  | zero => exact absurd h (by rw [cnt]; omega)
  | succ n ih =>
    by_cases e : P n = true
    · exact ⟨n, by omega, e⟩
    · rw [cnt, if_neg e] at h
      obtain ⟨i, hi, hp⟩ := ih h
      exact ⟨i, by omega, hp⟩
theorem cnt_del {P : Nat → Bool} {n a : Nat} (ha : a < n) (hp : P a = true) : cnt (fun i => P i && decide (i ≠ a)) n + 1 = cnt P n := by
  induction n with
  | zero => omega
  | succ n ih =>
    rw [cnt, cnt]
    by_cases e : a = n
    · subst e
      rw [cnt_congr (Q := P) (fun i hi => by simp; intro _; omega), hp]
      simp
    · have := ih (by omega)
      have h1 : (decide (n ≠ a)) = true := by simp; omega
      rw [h1, Bool.and_true]
      omega
theorem cnt_none {P : Nat → Bool} {n : Nat} (h : cnt P n = 0) (i : Nat) (hi : i < n) : P i = false := by
  cases e : P i
  · rfl
  · have := cnt_del hi e
    omega
/-- as many numbers below n, each once, as are chosen -/
theorem cnt_inj {P : Nat → Bool} : ∀ (n k : Nat) (f : Nat → Nat), (∀ i, i < k → f i < n ∧ P (f i) = true) → (∀ i j, i < k → j < k → f i = f j → i = j) → k ≤ cnt P n
  | 0, k, f, h, _ => by
    rcases Nat.eq_zero_or_pos k with e | e
    · omega
    · have := (h 0 e).1
      omega
  | n + 1, k, f, h, hu => by
    by_cases hx : ∃ i, i < k ∧ f i = n
    · obtain ⟨i0, hi0, e⟩ := hx
      have hp : P n = true := by rw [← e]; exact (h i0 hi0).2
      have := cnt_inj n (k - 1) (fun i => if i = i0 then f (k - 1) else f i) (fun i hi => by
        by_cases ei : i = i0
        · simp only [if_pos ei]
          have h1 := h (k - 1) (by omega)
          refine ⟨?_, h1.2⟩
          have : f (k - 1) ≠ n := fun e2 => by
            have := hu (k - 1) i0 (by omega) hi0 (e2.trans e.symm)
            omega
          omega
        · simp only [if_neg ei]
          have h1 := h i (by omega)
          refine ⟨?_, h1.2⟩
          have : f i ≠ n := fun e2 => ei (hu i i0 (by omega) hi0 (e2.trans e.symm))
          omega) (fun i j hi hj he => by
        by_cases ei : i = i0 <;> by_cases ej : j = i0
        · omega
        · simp only [if_pos ei, if_neg ej] at he
          have := hu (k - 1) j (by omega) (by omega) he
          omega
        · simp only [if_neg ei, if_pos ej] at he
          have := hu i (k - 1) (by omega) (by omega) he
          omega
        · simp only [if_neg ei, if_neg ej] at he
          exact hu i j (by omega) (by omega) he)
      rw [cnt, hp]
      simp
      omega
    · have := cnt_inj n k f (fun i hi => by
        have h1 := h i hi
        have : f i ≠ n := fun e => hx ⟨i, hi, e⟩
        exact ⟨by omega, h1.2⟩) hu
      rw [cnt]
      omega

section
variable {q : FP}
/-- any k rows have an inverse, if each column but 0 gives fewer than k rows 0 -/
theorem mds_of {k N : Nat} {E : Nat → Nat → El q} (h : ∀ c : Nat → El q, k ≤ cnt (fun r => decide (su k (fun j => c j * E r j) = 0)) N → ∀ j, j < k → c j = 0)
    (f : Nat → Nat) (hf : ∀ i, i < k → f i < N) (hu : ∀ i j, i < k → j < k → f i = f j → i = j) : rk k (fun i j => E (f i) j) k = k := by
  refine full_tr (full_of_free (fun c hc => h c ?_))
  refine cnt_inj N k f (fun i hi => ⟨hf i hi, ?_⟩) hu
  rw [decide_eq_true_eq]
  exact hc i hi
theorem su_del {n : Nat} (f : Nat → El q) {a : Nat} (ha : a < n) : su n f = f a + su n (fun j => if j = a then 0 else f j) := by
  have h1 : su n f = su n (fun j => (if j = a then f a else 0) + (if j = a then 0 else f j)) := su_congr (fun j _ => by
    by_cases e : j = a
    · rw [if_pos e, if_pos e, El.add_zero, e]
    · rw [if_neg e, if_neg e, El.zero_add])
  rw [h1, su_add, su_one (fun j => if j = a then f a else 0) ha (fun i _ hne => if_neg hne), if_pos rfl]
theorem ep_add (x : El q) (i j : Nat) : ep x (i + j) = ep x i * ep x j := by
  induction j with
  | zero => rw [ep, El.mul_one]; rfl
  | succ j ih => rw [← Nat.add_assoc, ep, ep, ih]; ac_rfl
theorem ep_mul (x : El q) (i j : Nat) : ep x (i * j) = ep (ep x i) j := by
  induction j with
  | zero => rfl
  | succ j ih => rw [Nat.mul_succ, ep_add, ih, ep]
theorem ep_turn (x : El q) (i j : Nat) : ep (ep x i) j = ep (ep x j) i := by rw [← ep_mul, ← ep_mul, Nat.mul_comm]
theorem El.mul_ne {a c : El q} (ha : a ≠ 0) (hc : c ≠ 0) : a * c ≠ 0 := fun h => hc (El.cancel ha h)
theorem ep_ne {x : El q} (h : x ≠ 0) (k : Nat) : ep x k ≠ 0 := by
  induction k with
  | zero => exact El.one_ne
  | succ k ih => rw [ep]; exact El.mul_ne ih h
theorem El.mul_left_inj {a x y : El q} (ha : a ≠ 0) (h : a * x = a * y) : x = y := El.add_eq_zero.1 (El.cancel ha (by rw [El.mul_add, h, El.add_self]))
/-- squares of unlike numbers are unlike -/
theorem sq_inj {x y : El q} (h : ep x 2 = ep y 2) : x = y := by
  have h1 : (x + y) * (x + y) = 0 := by
    have e1 : ep x 2 = x * x := by rw [ep, ep, ep, El.one_mul]
    have e2 : ep y 2 = y * y := by rw [ep, ep, ep, El.one_mul]
    rw [e1, e2] at h
    rw [El.add_mul, El.mul_add, El.mul_add, h, El.mul_comm y x, El.add_assoc, ← El.add_assoc (x * y), El.add_self, El.zero_add, El.add_self]
  by_cases e : x + y = 0
  · exact El.add_eq_zero.1 e
  · exact El.add_eq_zero.1 (El.cancel e h1)

/-- two powers, one after the other or two apart, of two numbers -/
theorem two_pts {x y c d : El q} {t u : Nat} (hd : u = 1 ∨ u = 2) (hx : x ≠ 0) (hc : c ≠ 0) (h1 : c * ep x t + d * ep y t = 0) (h2 : c * ep x (t + u) + d * ep y (t + u) = 0) : x = y := by
  have e1 := El.add_eq_zero.1 h1
  have e2 := El.add_eq_zero.1 h2
  rw [ep_add, ep_add, ← El.mul_assoc, ← El.mul_assoc, ← e1] at e2
  have e3 := El.mul_left_inj (El.mul_ne hc (ep_ne hx t)) e2
  rcases hd with rfl | rfl
  · rw [ep, ep, El.one_mul, ep, ep, El.one_mul] at e3
    exact e3
  · exact sq_inj e3

theorem no_one {k : Nat} {x c : Nat → El q} {a t : Nat} (ha : a < k) (hx : x a ≠ 0) (hc : c a ≠ 0) (h1 : ∀ j, j < k → j ≠ a → c j = 0) (h : su k (fun j => c j * ep (x j) t) = 0) : False := by
  rw [su_one (fun j => c j * ep (x j) t) ha (fun i hi hne => by rw [h1 i hi hne, El.zero_mul])] at h
  exact El.mul_ne hc (ep_ne hx t) h
theorem sum_two {k : Nat} {x c : Nat → El q} {a b : Nat} (ha : a < k) (hb : b < k) (hab : a ≠ b) (h1 : ∀ j, j < k → j ≠ a → j ≠ b → c j = 0) (t : Nat) : su k (fun j => c j * ep (x j) t) = c a * ep (x a) t + c b * ep (x b) t := by
  rw [su_del _ ha, su_one (fun j => if j = a then 0 else c j * ep (x j) t) hb (fun i hi hne => by
    by_cases e : i = a
    · rw [if_pos e]
    · rw [if_neg e, h1 i hi e hne, El.zero_mul]), if_neg (fun e => hab e.symm)]
theorem sum_three {k : Nat} {x c : Nat → El q} {a b d : Nat} (ha : a < k) (hb : b < k) (hd : d < k) (hab : a ≠ b) (had : a ≠ d) (hbd : b ≠ d) (h1 : ∀ j, j < k → j ≠ a → j ≠ b → j ≠ d → c j = 0) (t : Nat) : su k (fun j => c j * ep (x j) t) = c a * ep (x a) t + (c b * ep (x b) t + c d * ep (x d) t) := by
  rw [su_del _ ha]
  congr 1
  have e := sum_two (x := x) (c := fun j => if j = a then 0 else c j) hb hd hbd (fun j hj h2 h3 => by
    by_cases e : j = a
    · rw [if_pos e]
    · rw [if_neg e]; exact h1 j hj e h2 h3) t
  rw [if_neg (fun e => hab e.symm), if_neg (fun e => had e.symm)] at e
  rw [← e]
  exact su_congr (fun j _ => by
    by_cases e : j = a
    · rw [if_pos e, if_pos e, El.zero_mul]
    · rw [if_neg e, if_neg e])

/-- sums of c times the powers 0, 1, 2 of unlike numbers: at least as many are not 0 as c has numbers that are not, less .. -/
theorem powers_few {k m : Nat} {x c : Nat → El q} (hm : m ≤ 3) (hx0 : ∀ j, j < k → x j ≠ 0) (hx : ∀ i j, i < k → j < k → x i = x j → i = j) (h : cnt (fun j => !decide (c j = 0)) k ≤ cnt (fun t => decide (su k (fun j => c j * ep (x j) t) = 0)) m) : ∀ j, j < k → c j = 0 := by
  rcases Nat.eq_zero_or_pos (cnt (fun j => !decide (c j = 0)) k) with h0 | h0
  · intro j hj
    have := cnt_none h0 j hj
    simpa using this
  exfalso
  obtain ⟨a, ha, hca⟩ := cnt_pos h0
  have ca : c a ≠ 0 := by simpa using hca
  have d1 := cnt_del (P := fun j => !decide (c j = 0)) ha hca
  rcases Nat.eq_zero_or_pos (cnt (fun j => !decide (c j = 0) && decide (j ≠ a)) k) with g0 | g0
  · -- one
    have hone : ∀ j, j < k → j ≠ a → c j = 0 := fun j hj hne => by
      have := cnt_none g0 j hj
      simpa [hne] using this
    obtain ⟨t, _, hz⟩ := cnt_pos (P := fun t => decide (su k (fun j => c j * ep (x j) t) = 0)) (n := m) (by omega)
    exact no_one ha (hx0 a ha) ca hone (by simpa using hz)
  obtain ⟨b, hb, hcb⟩ := cnt_pos g0
  obtain ⟨cb, hba⟩ : c b ≠ 0 ∧ b ≠ a := by simpa using hcb
  have d2 := cnt_del (P := fun j => !decide (c j = 0) && decide (j ≠ a)) hb hcb
  rcases Nat.eq_zero_or_pos (cnt (fun j => (!decide (c j = 0) && decide (j ≠ a)) && decide (j ≠ b)) k) with g1 | g1
  · -- two
    have htwo : ∀ j, j < k → j ≠ a → j ≠ b → c j = 0 := fun j hj h1 h2 => by
      have := cnt_none g1 j hj
      simpa [h1, h2] using this
    have hs := fun t => sum_two (x := x) ha hb (fun e => hba e.symm) htwo t
    have key : ∀ t u, (u = 1 ∨ u = 2) → su k (fun j => c j * ep (x j) t) = 0 → su k (fun j => c j * ep (x j) (t + u)) = 0 → False := fun t u hu h1 h2 => by
      rw [hs] at h1 h2
      exact hba (hx b a hb ha (two_pts hu (hx0 a ha) ca h1 h2).symm)
    have h2 : 2 ≤ cnt (fun t => decide (su k (fun j => c j * ep (x j) t) = 0)) m := by omega
    have h3 : cnt (fun t => decide (su k (fun j => c j * ep (x j) t) = 0)) m ≤ cnt (fun t => decide (su k (fun j => c j * ep (x j) t) = 0)) 3 := by
      obtain ⟨d, hd3⟩ : ∃ d, 3 = m + d := ⟨3 - m, by omega⟩
      rw [hd3, cnt_add]
      omega
    have h4 : 2 ≤ cnt (fun t => decide (su k (fun j => c j * ep (x j) t) = 0)) 3 := by omega
    simp only [cnt, decide_eq_true_eq] at h4
    by_cases z0 : su k (fun j => c j * ep (x j) 0) = 0
    · by_cases z1 : su k (fun j => c j * ep (x j) 1) = 0
      · exact key 0 1 (Or.inl rfl) z0 z1
      · by_cases z2 : su k (fun j => c j * ep (x j) 2) = 0
        · exact key 0 2 (Or.inr rfl) z0 z2
        · rw [if_neg z1, if_neg z2] at h4
          split at h4 <;> omega
    · by_cases z1 : su k (fun j => c j * ep (x j) 1) = 0
      · by_cases z2 : su k (fun j => c j * ep (x j) 2) = 0
        · exact key 1 1 (Or.inl rfl) z1 z2
        · rw [if_neg z0, if_neg z2] at h4
          split at h4 <;> omega
      · rw [if_neg z0, if_neg z1] at h4
        split at h4 <;> omega
  obtain ⟨d, hd, hcd⟩ := cnt_pos g1
  obtain ⟨⟨cd, hda⟩, hdb⟩ : (c d ≠ 0 ∧ d ≠ a) ∧ d ≠ b := by simpa using hcd
  have d3 := cnt_del (P := fun j => (!decide (c j = 0) && decide (j ≠ a)) && decide (j ≠ b)) hd hcd
  have hm3 := cnt_le (fun t => decide (su k (fun j => c j * ep (x j) t) = 0)) m
  obtain rfl : m = 3 := by omega
  have g2 : cnt (fun j => ((!decide (c j = 0) && decide (j ≠ a)) && decide (j ≠ b)) && decide (j ≠ d)) k = 0 := by omega
  have hthree : ∀ j, j < k → j ≠ a → j ≠ b → j ≠ d → c j = 0 := fun j hj h1 h2 h3 => by
    have := cnt_none g2 j hj
    simpa [h1, h2, h3] using this
  have h4 : 3 ≤ cnt (fun t => decide (su k (fun j => c j * ep (x j) t) = 0)) 3 := by omega
  have hz : ∀ t, t < 3 → su k (fun j => c j * ep (x j) t) = 0 := by
    intro t ht
    have h5 := cnt_not (fun t => decide (su k (fun j => c j * ep (x j) t) = 0)) 3
    have := cnt_none (P := fun t => !decide (su k (fun j => c j * ep (x j) t) = 0)) (n := 3) (by omega) t ht
    simpa using this
  let l : Nat → Nat := fun i => if i = 0 then a else if i = 1 then b else d
  have hl : ∀ i, i < 3 → l i < k := fun i _ => by
    simp only [l]
    split
    · exact ha
    · split <;> assumption
  have hfull : rk 3 (fun i j => ep (x (l i)) j) 3 = 3 := vander_full (x := fun i => x (l i)) (fun i j hi hj he => by
    have := hx _ _ (hl i hi) (hl j hj) he
    simp only [l] at this
    split at this <;> split at this <;> (try split at this) <;> (try split at this) <;> omega)
  have := free_of_full hfull (fun i => c (l i)) (fun t ht => by
    have e := hz t ht
    rw [sum_three ha hb hd (fun e => hba e.symm) (fun e => hda e.symm) (fun e => hdb e.symm) hthree] at e
    rw [← e]
    show 0 + c a * ep (x a) t + c b * ep (x b) t + c d * ep (x d) t = _
    rw [El.zero_add, El.add_assoc]) 0 (by omega)
  exact ca this
end
end Go.Proofs.YtgdgimknnjbieaaGreatDoor
