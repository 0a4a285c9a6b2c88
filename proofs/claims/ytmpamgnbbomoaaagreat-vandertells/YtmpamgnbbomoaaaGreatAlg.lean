/- Sums of products over a field: plain mathematics. -/
import Derived.Test.YtmpamgnbbomoaaaGreatMtb
namespace Go.Proofs.YtmpamgnbbomoaaaGreat

/-- the product of two numbers of a field -/
def gm (p a b : Nat) : Nat := M.md (M.mul a b) p
theorem gm_comm (p a b : Nat) : gm p a b = gm p b a := by unfold gm; rw [M.mul_comm]
theorem gm_assoc (p a b c : Nat) : gm p (gm p a b) c = gm p a (gm p b c) := M.mul_assoc_md a b c p
theorem gm_lin (p a x y : Nat) : gm p a (x ^^^ y) = gm p a x ^^^ gm p a y := by unfold gm; rw [M.mul_lin]; exact M.md_lin p _ _
theorem gm_lin' (p a x y : Nat) : gm p (x ^^^ y) a = gm p x a ^^^ gm p y a := by rw [gm_comm, gm_lin, gm_comm p a x, gm_comm p a y]
theorem gm_zero (p a : Nat) : gm p a 0 = 0 := by unfold gm; rw [M.mul_zero, M.md_zero]
theorem zero_gm (p a : Nat) : gm p 0 a = 0 := by rw [gm_comm, gm_zero]
theorem gm_one {p : Nat} (h : M.irr p = true) {a : Nat} (ha : a ≤ M.ord p) : gm p a 1 = a := by unfold gm; rw [M.mul_one, M.md_self h ha]
theorem one_gm {p : Nat} (h : M.irr p = true) {a : Nat} (ha : a ≤ M.ord p) : gm p 1 a = a := by rw [gm_comm, gm_one h ha]
theorem gm_le {p : Nat} (h : M.irr p = true) (a b : Nat) : gm p a b ≤ M.ord p := M.md_in h _

/-- a sum -/
def sm : Nat → (Nat → Nat) → Nat
  | 0, _ => 0
  | n + 1, f => sm n f ^^^ f n
theorem sm_congr {n : Nat} {f g : Nat → Nat} (h : ∀ i, i < n → f i = g i) : sm n f = sm n g := by
  induction n with
  | zero => rfl
  | succ n ih => rw [sm, sm, ih (fun i hi => h i (by omega)), h n (by omega)]
theorem sm_zero (n : Nat) : sm n (fun _ => 0) = 0 := by
  induction n with
  | zero => rfl
  | succ n ih => rw [sm, ih]; rfl
theorem sm_none {n : Nat} {f : Nat → Nat} (h : ∀ i, i < n → f i = 0) : sm n f = 0 := (sm_congr h).trans (sm_zero n)
theorem sm_add (n : Nat) (f g : Nat → Nat) : sm n (fun i => f i ^^^ g i) = sm n f ^^^ sm n g := by
  induction n with
  | zero => simp [sm]
  | succ n ih => rw [sm, sm, sm, ih]; ac_rfl
theorem sm_swap (n m : Nat) (f : Nat → Nat → Nat) : sm n (fun i => sm m (fun j => f i j)) = sm m (fun j => sm n (fun i => f i j)) := by
  induction n with
  | zero => exact (sm_zero m).symm
  | succ n ih =>
    rw [sm, ih]
    exact (sm_add m _ _).symm
theorem gm_sm (p a n : Nat) (f : Nat → Nat) : gm p a (sm n f) = sm n (fun i => gm p a (f i)) := by
  induction n with
  | zero => exact gm_zero p a
  | succ n ih => rw [sm, sm, gm_lin, ih]
theorem sm_gm (p a n : Nat) (f : Nat → Nat) : gm p (sm n f) a = sm n (fun i => gm p (f i) a) := by
  rw [gm_comm, gm_sm]
  exact sm_congr (fun i _ => gm_comm p a (f i))
theorem sm_one {n : Nat} (f : Nat → Nat) {k : Nat} (hk : k < n) (h : ∀ i, i < n → i ≠ k → f i = 0) : sm n f = f k := by
  induction n with
  | zero => omega
  | succ n ih =>
    rw [sm]
    by_cases e : k = n
    · subst e
      rw [sm_none (fun i hi => h i (by omega) (by omega)), Nat.zero_xor]
    · rw [ih (by omega) (fun i hi hne => h i (by omega) hne), h n (by omega) (fun e' => e e'.symm), Nat.xor_zero]
theorem sm_le {p : Nat} (h : M.irr p = true) {n : Nat} {f : Nat → Nat} (hf : ∀ i, i < n → f i ≤ M.ord p) : sm n f ≤ M.ord p := by
  induction n with
  | zero => exact Nat.zero_le _
  | succ n ih => exact M.xor_le h (ih (fun i hi => hf i (by omega))) (hf n (by omega))

/-- a product of sums doesn't hang on which two are first -/
theorem sm_assoc (p n m : Nat) (f : Nat → Nat) (g : Nat → Nat → Nat) (h : Nat → Nat) : sm m (fun j => gm p (sm n (fun i => gm p (f i) (g i j))) (h j)) = sm n (fun i => gm p (f i) (sm m (fun j => gm p (g i j) (h j)))) := by
  have e1 : ∀ j, gm p (sm n (fun i => gm p (f i) (g i j))) (h j) = sm n (fun i => gm p (f i) (gm p (g i j) (h j))) := fun j => by
    rw [sm_gm]
    exact sm_congr (fun i _ => gm_assoc p _ _ _)
  have e2 : ∀ i, gm p (f i) (sm m (fun j => gm p (g i j) (h j))) = sm m (fun j => gm p (f i) (gm p (g i j) (h j))) := fun i => gm_sm p _ m _
  simp only [e1, e2]
  exact sm_swap m n _

theorem fmul_gm {p : Nat} {a b : Int} (ha : 0 ≤ a ∧ a ≤ M.ord p) (hb : 0 ≤ b ∧ b ≤ M.ord p) : (fmul p a b).toNat = gm p a.toNat b.toNat := by
  rw [fmul_in ha.1 ha.2 hb.1 hb.2]; rfl
theorem dot_sm {p : Nat} {x y : Nat → Int} {n : Nat} (hx : allIn (M.ord p) x n) (hy : allIn (M.ord p) y n) : dotN p x y n = sm n (fun i => gm p (x i).toNat (y i).toNat) := by
  induction n with
  | zero => rfl
  | succ n ih => rw [dotN, sm, ih (fun j hj => hx j (by omega)) (fun j hj => hy j (by omega)), fmul_gm (hx n (by omega)) (hy n (by omega))]
theorem dot_in {p wd : Nat} (hg : Good p wd) (x y : Nat → Int) (n : Nat) : 0 ≤ ((dotN p x y n : Nat) : Int) ∧ ((dotN p x y n : Nat) : Int) ≤ M.ord p := by
  have := dotN_le hg x y n
  omega

/-- a sum of columns has the sum of what both have -/
theorem dot_xor {p wd : Nat} (hg : Good p wd) {f x y : Nat → Int} {n : Nat} (hf : allIn (M.ord p) f n) (hx : allIn (M.ord p) x n) (hy : allIn (M.ord p) y n) :
    dotN p f (fun i => (((x i).toNat ^^^ (y i).toNat : Nat) : Int)) n = dotN p f x n ^^^ dotN p f y n := by
  have hxy : allIn (M.ord p) (fun i => (((x i).toNat ^^^ (y i).toNat : Nat) : Int)) n := fun i hi => by
    have h1 := hx i hi
    have h2 := hy i hi
    have := M.xor_le hg.prim.1 (a := (x i).toNat) (b := (y i).toNat) (by omega) (by omega)
    dsimp only
    omega
  rw [dot_sm hf hxy, dot_sm hf hx, dot_sm hf hy, ← sm_add]
  exact sm_congr (fun i _ => by rw [Int.toNat_natCast, gm_lin])
/-- a column times a product is so one behind the other -/
theorem dot_assoc {p wd : Nat} (hg : Good p wd) {f : Nat → Int} {G : Nat → Nat → Int} {h : Nat → Int} {n m : Nat} (hf : allIn (M.ord p) f n) (hG : ∀ i, i < n → allIn (M.ord p) (G i) m) (hh : allIn (M.ord p) h m) :
    dotN p (fun j => ((dotN p f (fun i => G i j) n : Nat) : Int)) h m = dotN p f (fun i => ((dotN p (G i) h m : Nat) : Int)) n := by
  rw [dot_sm (fun j _ => dot_in hg _ _ _) hh, dot_sm hf (fun i _ => dot_in hg _ _ _)]
  have e1 : ∀ j, j < m → gm p (((dotN p f (fun i => G i j) n : Nat) : Int)).toNat (h j).toNat = gm p (sm n (fun i => gm p (f i).toNat (G i j).toNat)) (h j).toNat := fun j hj => by
    rw [Int.toNat_natCast, dot_sm hf (fun i hi => hG i hi j hj)]
  have e2 : ∀ i, i < n → gm p (f i).toNat (((dotN p (G i) h m : Nat) : Int)).toNat = gm p (f i).toNat (sm m (fun j => gm p (G i j).toNat (h j).toNat)) := fun i hi => by
    rw [Int.toNat_natCast, dot_sm (hG i hi) hh]
  rw [sm_congr e1, sm_congr e2]
  exact sm_assoc p n m (fun i => (f i).toNat) (fun i j => (G i j).toNat) (fun j => (h j).toNat)
/-- a row of the identity times a column -/
theorem dot_id {p wd : Nat} (hg : Good p wd) {x : Nat → Int} {n r : Nat} (hr : r < n) (hx : allIn (M.ord p) x n) : ((dotN p (fun c => if r = c then 1 else 0) x n : Nat) : Int) = x r := by
  have hb := hg.bounds
  have h1 : allIn (M.ord p) (fun c => if r = c then 1 else 0) n := fun j _ => by dsimp only; split <;> omega
  rw [dot_sm h1 hx, sm_one _ hr (fun i _ hne => by rw [if_neg (fun e => hne e.symm)]; exact zero_gm p _), if_pos rfl]
  have := hx r hr
  rw [show (1 : Int).toNat = 1 from rfl, one_gm hg.prim.1 (by omega)]
  omega
end Go.Proofs.YtmpamgnbbomoaaaGreat
