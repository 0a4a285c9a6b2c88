/- Cauchy's rows of inverses behind the identity: any k rows have an inverse; choices of rows that rise, one behind the other; rows that are safe: plain mathematics. The contracts of package cauchy: isSide, mayCode, from, areApart. The contracts of package cauchy: inverses, Of, Orig, Isal. The contracts of package cauchy: Orig, Isal. -/
import Derived.Test.YtgdgimknnjbieaaGreatDoorGxr
import Derived.Maps.OwnOps
import Derived.Maps.OwnSet
import Derived.Maps.Views

namespace Go.Proofs.YtgdgimknnjbieaaGreatDoor
open Go.RowKit

/-- as many numbers as are so, each once -/
theorem cnt_enum {P : Nat → Bool} : ∀ (n k : Nat), k ≤ cnt P n → ∃ f : Nat → Nat, (∀ i, i < k → f i < n ∧ P (f i) = true) ∧ ∀ i j, i < k → j < k → f i = f j → i = j
  | 0, k, h => ⟨fun i => i, fun i hi => absurd h (by rw [cnt]; omega), fun _ _ _ _ e => e⟩
  | n + 1, k, h => by
    rw [cnt] at h
    by_cases e : P n = true
    · rw [if_pos e] at h
      obtain ⟨f, h1, h2⟩ := cnt_enum (P := P) n (k - 1) (by omega)
      refine ⟨fun i => if i = k - 1 then n else f i, fun i hi => ?_, fun i j hi hj he => ?_⟩
      · by_cases ei : i = k - 1
        · simp only [if_pos ei]
          exact ⟨by omega, e⟩
        · simp only [if_neg ei]
          have := h1 i (by omega)
          exact ⟨by omega, this.2⟩
      · by_cases ei : i = k - 1 <;> by_cases ej : j = k - 1
        · omega
        · simp only [if_pos ei, if_neg ej] at he
          have := (h1 j (by omega)).1
          omega
        · simp only [if_neg ei, if_pos ej] at he
          have := (h1 i (by omega)).1
          omega
        · simp only [if_neg ei, if_neg ej] at he
          exact h2 i j (by omega) (by omega) he
    · rw [if_neg e] at h
      obtain ⟨f, h1, h2⟩ := cnt_enum (P := P) n k (by omega)
      exact ⟨f, fun i hi => ⟨by have := (h1 i hi).1; omega, (h1 i hi).2⟩, h2⟩

section
variable {q : FP}
/-- a function that is a polynomial of n numbers -/
def PolyN (n : Nat) (g : El q → El q) : Prop := ∃ c : Nat → El q, ∀ x, g x = ev n c x
theorem PolyN.add {n : Nat} {g h : El q → El q} (h1 : PolyN n g) (h2 : PolyN n h) : PolyN n (fun x => g x + h x) := by
  obtain ⟨c, hc⟩ := h1
  obtain ⟨d, hd⟩ := h2
  refine ⟨fun j => c j + d j, fun x => ?_⟩
  dsimp only
  rw [hc, hd]
  unfold ev
  rw [← su_add]
  exact su_congr (fun j _ => (El.add_mul _ _ _).symm)
theorem PolyN.scale {n : Nat} {g : El q → El q} (a : El q) (h1 : PolyN n g) : PolyN n (fun x => a * g x) := by
  obtain ⟨c, hc⟩ := h1
  refine ⟨fun j => a * c j, fun x => ?_⟩
  dsimp only
  rw [hc]
  unfold ev
  rw [mul_su]
  exact su_congr (fun j _ => (El.mul_assoc _ _ _).symm)
theorem PolyN.more {n : Nat} {g : El q → El q} (h1 : PolyN n g) : PolyN (n + 1) g := by
  obtain ⟨c, hc⟩ := h1
  refine ⟨fun j => if j < n then c j else 0, fun x => ?_⟩
  rw [hc]
  unfold ev
  rw [su]
  dsimp only
  rw [if_neg (Nat.lt_irrefl n), El.zero_mul, El.add_zero]
  exact su_congr (fun j hj => by rw [if_pos hj])
theorem PolyN.times {n : Nat} {g : El q → El q} (a : El q) (h1 : PolyN n g) : PolyN (n + 1) (fun x => (x + a) * g x) := by
  have h2 : PolyN (n + 1) (fun x => x * g x) := by
    obtain ⟨c, hc⟩ := h1
    refine ⟨fun j => if j = 0 then 0 else c (j - 1), fun x => ?_⟩
    dsimp only
    rw [ev_shift, if_pos rfl, El.zero_add, hc]
    rfl
  have h3 := h2.add (h1.scale a).more
  obtain ⟨c, hc⟩ := h3
  exact ⟨c, fun x => by dsimp only; rw [El.add_mul]; exact hc x⟩
theorem PolyN.roots {n : Nat} {g : El q → El q} (h : PolyN n g) (x : Nat → El q) (hx : ∀ i k, i < n → k < n → x i = x k → i = k) (hz : ∀ i, i < n → g (x i) = 0) (z : El q) : g z = 0 := by
  obtain ⟨c, hc⟩ := h
  rw [hc]
  exact ev_none (ev_roots n x hx c (fun i hi => by rw [← hc]; exact hz i hi)) z

/-- the product of x + y j, of those of the first n whose c is not 0 -/
def cyF (c y : Nat → El q) (x : El q) : Nat → El q
  | 0 => 1
  | n + 1 => if c n = 0 then cyF c y x n else (x + y n) * cyF c y x n
/-- the sum of c j times the product of all others -/
def cyP (c y : Nat → El q) (x : El q) : Nat → El q
  | 0 => 0
  | n + 1 => if c n = 0 then cyP c y x n else (x + y n) * cyP c y x n + c n * cyF c y x n
/-- how many are not 0 -/
def cyN (c : Nat → El q) (n : Nat) : Nat := cnt (fun j => !decide (c j = 0)) n
theorem cyN_zero {c : Nat → El q} {n : Nat} (h : c n = 0) : cyN c (n + 1) = cyN c n := by
  unfold cyN
  rw [cnt, decide_eq_true h]
  rfl
theorem cyN_succ {c : Nat → El q} {n : Nat} (h : c n ≠ 0) : cyN c (n + 1) = cyN c n + 1 := by
  unfold cyN
  rw [cnt, decide_eq_false h]
  rfl
theorem cyF_poly (c y : Nat → El q) : ∀ n, PolyN (cyN c n + 1) (fun x => cyF c y x n)
  | 0 => ⟨fun _ => 1, fun x => by simp only [cyF, cyN, cnt, ev, su, ep, El.zero_add, El.mul_one]⟩
  | n + 1 => by
    by_cases e : c n = 0
    · rw [cyN_zero e]
      simp only [cyF, if_pos e]
      exact cyF_poly c y n
    · rw [cyN_succ e]
      simp only [cyF, if_neg e]
      exact (cyF_poly c y n).times (y n)
theorem cyP_poly (c y : Nat → El q) : ∀ n, PolyN (cyN c n) (fun x => cyP c y x n)
  | 0 => ⟨fun _ => 0, fun x => by simp only [cyP, cyN, cnt, ev, su]⟩
  | n + 1 => by
    by_cases e : c n = 0
    · rw [cyN_zero e]
      simp only [cyP, if_pos e]
      exact cyP_poly c y n
    · rw [cyN_succ e]
      simp only [cyP, if_neg e]
      exact ((cyP_poly c y n).times (y n)).add ((cyF_poly c y n).scale (c n))
theorem cyP_val (c y : Nat → El q) (x : El q) : ∀ n, (∀ j, j < n → x + y j ≠ 0) → cyP c y x n = cyF c y x n * su n (fun j => c j * (x + y j).inv)
  | 0, _ => by rw [cyP, su, El.mul_zero]
  | n + 1, h => by
    have ih := cyP_val c y x n (fun j hj => h j (by omega))
    rw [cyP, cyF, su]
    by_cases e : c n = 0
    · rw [if_pos e, if_pos e, e, El.zero_mul, El.add_zero, ih]
    · rw [if_neg e, if_neg e, ih, El.mul_add]
      congr 1
      · ac_rfl
      · have e2 : (x + y n) * cyF c y x n * (c n * (x + y n).inv) = c n * cyF c y x n * ((x + y n) * (x + y n).inv) := by ac_rfl
        rw [e2, El.mul_inv (h n (by omega)), El.mul_one]
theorem cyF_root (c y : Nat → El q) {a : Nat} (ha : c a ≠ 0) : ∀ n, a < n → cyF c y (y a) n = 0
  | 0, h => absurd h (by omega)
  | n + 1, h => by
    rw [cyF]
    by_cases e : a = n
    · subst e
      rw [if_neg ha, El.add_self, El.zero_mul]
    · rw [cyF_root c y ha n (by omega), El.mul_zero]
      split <;> rfl
theorem cyF_ne (c y : Nat → El q) {a : Nat} : ∀ n, (∀ j, j < n → y a + y j ≠ 0) → cyF c y (y a) n ≠ 0
  | 0, _ => El.one_ne
  | n + 1, h => by
    have ih := cyF_ne c y n (fun j hj => h j (by omega))
    rw [cyF]
    split
    · exact ih
    · exact El.mul_ne (h n (by omega)) ih
theorem cyP_ne (c y : Nat → El q) {a : Nat} (ha : c a ≠ 0) : ∀ n, a < n → (∀ j, j < n → j ≠ a → y a + y j ≠ 0) → cyP c y (y a) n ≠ 0
  | 0, h, _ => absurd h (by omega)
  | n + 1, h, hy => by
    rw [cyP]
    by_cases e : a = n
    · subst e
      rw [if_neg ha, El.add_self, El.zero_mul, El.zero_add]
      exact El.mul_ne ha (cyF_ne c y a (fun j hj => hy j (by omega) (by omega)))
    · have ih := cyP_ne c y ha n (by omega) (fun j hj => hy j (by omega))
      split
      · exact ih
      · rw [cyF_root c y ha n (by omega), El.mul_zero, El.add_zero]
        exact El.mul_ne (hy n (by omega) (fun e2 => e e2.symm)) ih

/-- rows of inverses -/
def cauE (x y : Nat → El q) (i j : Nat) : El q := (x i + y j).inv
/-- any k rows of the identity and rows of inverses behind it -/
theorem cau_any {k m : Nat} {x y : Nat → El q} (hx : ∀ i j, i < m → j < m → x i = x j → i = j) (hy : ∀ i j, i < k → j < k → y i = y j → i = j) (hxy : ∀ i j, i < m → j < k → x i ≠ y j)
    (f : Nat → Nat) (hf : ∀ i, i < k → f i < k + m) (hu : ∀ i j, i < k → j < k → f i = f j → i = j) : rk k (fun i j => joinE k dl (cauE x y) (f i) j) k = k := by
  refine mds_of (N := k + m) (fun c h => ?_) f hf hu
  rw [cnt_add] at h
  have e1 : cnt (fun r => decide (su k (fun j => c j * joinE k dl (cauE x y) r j) = 0)) k = cnt (fun r => decide (c r = 0)) k := cnt_congr (fun r hr => by
    rw [su_one (fun j => c j * joinE k dl (cauE x y) r j) hr (fun j _ hne => by unfold joinE; rw [if_pos hr, dl_ne (fun e => hne e.symm), El.mul_zero])]
    unfold joinE
    rw [if_pos hr, dl_self, El.mul_one])
  have e2 := cnt_not (fun r => decide (c r = 0)) k
  have e3 : cnt (fun t => decide (su k (fun j => c j * joinE k dl (cauE x y) (k + t) j) = 0)) m = cnt (fun t => decide (su k (fun j => c j * cauE x y t j) = 0)) m := cnt_congr (fun t _ => by
    unfold joinE
    simp only [if_neg (show ¬ k + t < k by omega), Nat.add_sub_cancel_left])
  have h4 : cyN c k ≤ cnt (fun t => decide (su k (fun j => c j * cauE x y t j) = 0)) m := by
    unfold cyN
    omega
  obtain ⟨g, hg1, hg2⟩ := cnt_enum m (cyN c k) h4
  have hz := (cyP_poly c y k).roots (fun i => x (g i)) (fun i j hi hj he => hg2 i j hi hj (hx _ _ (hg1 i hi).1 (hg1 j hj).1 he)) (fun i hi => by
    have h5 := (hg1 i hi).2
    rw [decide_eq_true_eq] at h5
    rw [cyP_val c y _ k (fun j hj h0 => hxy _ j (hg1 i hi).1 hj (El.add_eq_zero.1 h0))]
    unfold cauE at h5
    rw [h5, El.mul_zero])
  intro a ha
  by_cases e : c a = 0
  · exact e
  · exact absurd (hz (y a)) (cyP_ne c y e k ha (fun j hj hne h0 => hne (hy j a hj ha (El.add_eq_zero.1 h0).symm)))
end

/-- a choice: k numbers below n that rise -/
def Rise (k n : Nat) (f : Nat → Nat) : Prop := (∀ i, i < k → f i < n) ∧ ∀ i, i + 1 < k → f i < f (i + 1)
theorem Rise.ge {k n : Nat} {f : Nat → Nat} (h : Rise k n f) (i : Nat) : ∀ d, i + d < k → f i + d ≤ f (i + d)
  | 0, _ => Nat.le_refl _
  | d + 1, hd => by
    have h1 := h.ge i d (by omega)
    have h2 := h.2 (i + d) (by omega)
    show f i + (d + 1) ≤ f (i + d + 1)
    omega
theorem Rise.le {k n : Nat} {f : Nat → Nat} (h : Rise k n f) {i : Nat} (hi : i < k) : f i + k ≤ n + i := by
  have h1 := h.ge i (k - 1 - i) (by omega)
  have h2 := h.1 (i + (k - 1 - i)) (by omega)
  omega
theorem Rise.inj {k n : Nat} {f : Nat → Nat} (h : Rise k n f) : ∀ i j, i < k → j < k → f i = f j → i = j := fun i j hi hj e => by
  rcases Nat.lt_trichotomy i j with h1 | h1 | h1
  · have := h.ge i (j - i) (by omega)
    rw [show i + (j - i) = j by omega] at this
    omega
  · exact h1
  · have := h.ge j (i - j) (by omega)
    rw [show j + (i - j) = i by omega] at this
    omega

section
variable {q : FP}
/-- these rows of the identity and E behind it have an inverse -/
def GoodCh (q : FP) (k : Nat) (E : Nat → Nat → El q) (f : Nat → Nat) : Prop := rk k (fun i j => joinE k dl E (f i) j) k = k
theorem GoodCh.congr {k : Nat} {E : Nat → Nat → El q} {f g : Nat → Nat} (h : GoodCh q k E f) (e : ∀ r, r < k → g r = f r) : GoodCh q k E g := by
  unfold GoodCh at *
  exact (rk_congr (fun r hr j _ => by rw [e r hr])).trans h
/-- rows that are safe -/
def SafeP (q : FP) (k m : Nat) (E : Nat → Nat → El q) : Prop := ∀ f, Rise k (k + m) f → GoodCh q k E f
theorem SafeP.congr {k m : Nat} {E E' : Nat → Nat → El q} (h : SafeP q k m E) (e : ∀ i, i < m → ∀ j, j < k → E' i j = E i j) : SafeP q k m E' := fun f hf => by
  have h1 := h f hf
  unfold GoodCh at *
  refine Eq.trans (rk_congr (fun r hr j hj => ?_)) h1
  unfold joinE
  have := hf.1 r hr
  split
  · rfl
  · exact e _ (by omega) j hj
end
end Go.Proofs.YtgdgimknnjbieaaGreatDoor

namespace Go.Proofs.YtgdgimknnjbieaaGreatDoor
open Go.RowKit

set_option maxRecDepth 100000 in
theorem cside22 (n : Int) (w : World) : Calls Tryz.prog 162 #[.int .i64 n] w (SaidB (sideI n) w) := by
  by_cases h1 : 1 ≤ n
  · by_cases h2 : n ≤ 20
    · have HE := Lib.hid (SaidB.yes (w := w) (show sideI n from ⟨h1, h2⟩))
      have hd1 : decide (1 ≤ n) = true := by simp; omega
      have hd : decide (n ≤ 20) = true := by simp; omega
      go_enter Tryz.func162, Tryz.ntmps162
      go_wp2_with fail
      go_ret
      exact HE.out
    · have HE := Lib.hid (SaidB.no (w := w) (show ¬ sideI n from fun h => h2 h.2))
      have hd1 : decide (1 ≤ n) = true := by simp; omega
      have hd : decide (n ≤ 20) = false := by simp; omega
      go_enter Tryz.func162, Tryz.ntmps162
      go_wp2_with fail
      go_ret
      exact HE.out
  · have HE := Lib.hid (SaidB.no (w := w) (show ¬ sideI n from fun h => h1 h.1))
    have hd : decide (1 ≤ n) = false := by simp; omega
    go_enter Tryz.func162, Tryz.ntmps162
    go_wp2_with fail
    go_ret
    exact HE.out

set_option maxRecDepth 100000 in
set_option maxHeartbeats 1000000 in
theorem ccode28 (k m : Int) (hb : k ≤ 9223372036854775807) (w : World) :
    Calls Tryz.prog 124 #[.int .i64 k, .int .i64 m] w (SaidB (fitsI k m) w) := by
  by_cases h1 : 1 ≤ k
  · have d1 : decide (1 ≤ k) = true := by simp; omega
    by_cases h2 : 1 ≤ m
    · have d2 : decide (1 ≤ m) = true := by simp; omega
      by_cases h3 : m ≤ 20 - k
      · have d3 : decide (m ≤ 20 - k) = true := by simp; omega
        have HE := Lib.hid (SaidB.yes (w := w) (show fitsI k m from ⟨⟨h1, by omega⟩, ⟨h2, by omega⟩, by omega⟩))
        go_enter Tryz.func124, Tryz.ntmps124
        go_wp2_with fail
        go_ret
        exact HE.out
      · have d3 : decide (m ≤ 20 - k) = false := by simp; omega
        have HE := Lib.hid (SaidB.no (w := w) (show ¬ fitsI k m from fun h => by have := h.2.2; omega))
        go_enter Tryz.func124, Tryz.ntmps124
        go_wp2_with fail
        go_ret
        exact HE.out
    · have d2 : decide (1 ≤ m) = false := by simp; omega
      have HE := Lib.hid (SaidB.no (w := w) (show ¬ fitsI k m from fun h => h2 h.2.1.1))
      go_enter Tryz.func124, Tryz.ntmps124
      go_wp2_with fail
      go_ret
      exact HE.out
  · have d1 : decide (1 ≤ k) = false := by simp; omega
    have HE := Lib.hid (SaidB.no (w := w) (show ¬ fitsI k m from fun h => h1 h.1.1))
    go_enter Tryz.func124, Tryz.ntmps124
    go_wp2_with fail
    go_ret
    exact HE.out

/-- numbers from a on -/
def frm (a : Nat) (j : Nat) : Int := ((a + j : Nat) : Int)
def FrmAt (a n : Nat) (w : World) (s11 : Value) (W : World) : Prop :=
  ∃ j : Nat, j ≤ n ∧ s11 = .int .i64 j ∧ W.rowIs w.heap.size TI n (fun x => .int .i64 (if x < j then frm a x else 0)) ∧ Below w.heap.size w W
theorem frmAt_step {a n j : Nat} {w W : World} (hj : j < n) (h1 : W.rowIs w.heap.size TI n (fun x => .int .i64 (if x < j then frm a x else 0))) (hb : Below w.heap.size w W) :
    FrmAt a n w (.int .i64 ((j + 1 : Nat) : Int)) (W.setCell ⟨w.heap.size, j, none⟩ (.int .i64 (frm a j))) := by
  refine ⟨j + 1, hj, rfl, (h1.set j _).congr (fun x _ => ?_), hb.setCell (p := ⟨w.heap.size, j, none⟩) (Nat.le_refl _) _⟩
  rcases Nat.lt_trichotomy x j with e | e | e
  · rw [if_neg (by omega), if_pos e, if_pos (by omega)]
  · rw [if_pos e, if_pos (by omega), e]
  · rw [if_neg (by omega), if_neg (by omega), if_neg (by omega)]
/-- a row of numbers that is made -/
def RowMade (n : Nat) (l : Nat → Int) (w : World) (e : Ending) (w' : World) : Prop :=
  e = .returned (.slice (some ⟨w.heap.size, 0, none⟩) n n) ∧ w'.rowIs w.heap.size TI n (i64s l) ∧ Below w.heap.size w w'

set_option maxRecDepth 100000 in
set_option maxHeartbeats 1000000 in
theorem from29 (a n : Nat) (ha : a ≤ 1000) (hn : n ≤ 100) (w : World) :
    Calls Tryz.prog 126 #[.int .i64 a, .int .i64 n] w (RowMade n (frm a) w) := by
  have hmk := run_make_row' (P := Tryz.prog) TIs TI (.int .i64 0) 8 underI infoI rfl .i64 .i64 n (by omega) (by omega)
  have HS := Lib.hid (show FrmAt a n w (.int .i64 ((0 : Nat) : Int)) (w.alloc (.cells (madeCells #[.int .i64 0] n) TI)) from
    ⟨0, Nat.zero_le _, rfl, (World.rowIs_made w (.int .i64 0) n TI).congr (fun x _ => by rw [if_neg (by omega)]), below_alloc _ _⟩)
  go_enter Tryz.func126, Tryz.ntmps126
  go_wp2_with fail
  go_loopw [11] (fun s11 wr => FrmAt a n w s11 wr) (fun s11 _ => n - (intOf s11).toNat)
  case atStart => exact HS.out
  case round =>
    clear HS
    obtain ⟨j, hj, rfl, h1, h2⟩ := hrel
    have H1 := Lib.hid h1
    have H2 := Lib.hid h2
    clear h1 h2
    by_cases hlt : j < n
    · have HP := Lib.hid (frmAt_step hlt H1.out H2.out)
      have c1 := H1.out.cell hlt
      have f1 := H1.out.frozen j
      rw [if_neg (by omega)] at c1
      have HY := Lib.hid (show ((a : Int) + (j : Int)) = frm a j by unfold frm; omega)
      rw [← HY.out] at HP
      clear H1 H2 HY
      go_wp2_with fail
      exact ⟨HP.out, by simp [intOf]; omega⟩
    · obtain rfl : j = n := by omega
      have HE := Lib.hid (show RowMade j (frm a) w (.returned (.slice (some ⟨w.heap.size, 0, none⟩) j j)) wr from ⟨rfl, H1.out.congr (fun x hx => by rw [if_pos hx]), H2.out⟩)
      clear H1 H2
      go_wp2_with fail
      go_ret
      exact HE.out

/-- numbers of the field, none of them twice -/
def apartP (c : Nat) (l : Nat → Int) (n : Nat) : Prop := ∀ i, i < n → (0 ≤ l i ∧ l i ≤ c) ∧ ∀ k, k < i → l i ≠ l k
abbrev TMap : Nat := 215
theorem lawK : Go.Maps.Keyed Tryz.prog TI := Go.Maps.int_keyed Tryz.underlying3
theorem zeroK (w : World) : (zeroValue TI).run Tryz.prog w = .ok (.int .i64 0) w := by kernel_rfl
theorem underMap : Tryz.prog.underlying TMap = some (.map TI TI) := Tryz.underlying215
theorem run_makeMapN (n : Int) (w : World) : (Instr.makeMap TMap (some (.int .i64 n))).run Tryz.prog w = .ok (.map (some w.heap.size)) (w.alloc (.map #[] 0)) := by
  simp [Instr.makeMap, run_underlying underMap, asInt, asIntOf, Result.andThen]
/-- what the map says of the first k numbers -/
def Seen (l : Nat → Int) (k : Nat) (D : DataW Unit) : Prop := Go.Maps.IsMap D ∧ ∀ x : Int, D.atKey (.int .i64 x) (.lit (.int .i64 0)) = .lit (.int .i64 (if ∃ j, j < k ∧ l j = x then 1 else 0))
theorem Seen.start (l : Nat → Int) : Seen l 0 (.map []) := ⟨Go.Maps.isMap_empty, fun x => by
  rw [if_neg (fun ⟨j, hj, _⟩ => absurd hj (by omega))]
  rfl⟩
def ApAt (c : Nat) (l : Nat → Int) (n : Nat) (w : World) (s16 : Value) (W : World) : Prop :=
  ∃ k : Nat, k ≤ n ∧ s16 = .int .i64 k ∧ apartP c l k ∧ (∃ D, Seen l k D ∧ W.ownsMap Tryz.prog TI (plainElem Tryz.prog TI) w.heap.size k D) ∧ Below w.heap.size w W
/-- what areApart tells -/
def ApSaid (p : Prop) (w : World) (e : Ending) (w' : World) : Prop := ∃ t, e = .returned (.bool t) ∧ (t = true ↔ p) ∧ Below w.heap.size w w'
theorem ApSaid.no {p : Prop} {w w' : World} (h : ¬ p) (hb : Below w.heap.size w w') : ApSaid p w (.returned (.bool false)) w' := ⟨false, rfl, by simp [h], hb⟩
theorem ApSaid.yes {p : Prop} {w w' : World} (h : p) (hb : Below w.heap.size w w') : ApSaid p w (.returned (.bool true)) w' := ⟨true, rfl, by simp [h], hb⟩
theorem Seen.step {l : Nat → Int} {k : Nat} {D : DataW Unit} {x : Int} (h : Seen l k D) (hx : l k = x) : Seen l (k + 1) (D.put (.int .i64 x) (.lit (.int .i64 1))) := ⟨h.1.put _ _, fun y => by
  by_cases e : y = x
  · subst e
    rw [Go.Maps.atKey_put_same h.1 (k := .int .i64 y) trivial, if_pos ⟨k, by omega, hx⟩]
  · rw [Go.Maps.atKey_put_other (fun he => e (by injection he)), h.2 y]
    have : (∃ j, j < k ∧ l j = y) ↔ ∃ j, j < k + 1 ∧ l j = y := ⟨fun ⟨j, h1, h2⟩ => ⟨j, by omega, h2⟩, fun ⟨j, h1, h2⟩ => by
      by_cases ej : j = k
      · exact absurd (by rw [← h2, ej, hx]) e
      · exact ⟨j, by omega, h2⟩⟩
    simp only [this]⟩
theorem Seen.yes {l : Nat → Int} {k : Nat} {D : DataW Unit} {x c : Int} (h : Seen l k D) (hs : ∃ j, j < k ∧ l j = x) (he : D.atKey (.int .i64 x) (.lit (.int .i64 0)) = .lit (.int .i64 c)) : c = 1 := by
  rw [h.2 x, if_pos hs] at he
  injection he with he
  injection he with _ he
  exact he.symm
theorem Seen.no {l : Nat → Int} {k : Nat} {D : DataW Unit} {x c : Int} (h : Seen l k D) (hs : ¬ ∃ j, j < k ∧ l j = x) (he : D.atKey (.int .i64 x) (.lit (.int .i64 0)) = .lit (.int .i64 c)) : c = 0 := by
  rw [h.2 x, if_neg hs] at he
  injection he with he
  injection he with _ he
  exact he.symm
theorem put_at {D : DataW Unit} {x c v : Int} (h : Go.Maps.IsMap D) (he : (D.put (.int .i64 x) (.lit (.int .i64 v))).atKey (.int .i64 x) (.lit (.int .i64 0)) = .lit (.int .i64 c)) : c = v := by
  rw [Go.Maps.atKey_put_same h (k := .int .i64 x) trivial] at he
  injection he with he
  injection he with _ he
  exact he.symm
theorem apart_not {c : Nat} {l : Nat → Int} {n k : Nat} {x : Int} (hk : k < n) (hx : l k = x) (h : x < 0 ∨ (c : Int) < x ∨ ∃ j, j < k ∧ l j = x) : ¬ apartP c l n := fun hp => by
  have := hp k hk
  rw [hx] at this
  rcases h with h | h | ⟨j, h1, h2⟩
  · omega
  · omega
  · exact this.2 j h1 h2.symm
theorem apart_step {c : Nat} {l : Nat → Int} {k : Nat} {x : Int} (h : apartP c l k) (hx : l k = x) (h0 : 0 ≤ x ∧ x ≤ c) (hs : ¬ ∃ j, j < k ∧ l j = x) : apartP c l (k + 1) := fun i hi => by
  by_cases e : i = k
  · subst e
    rw [hx]
    exact ⟨h0, fun j hj he => hs ⟨j, hj, he.symm⟩⟩
  · exact h i (by omega)

set_option maxRecDepth 100000 in
set_option maxHeartbeats 2000000 in
theorem apart23 (b wd c : Nat) (hk : Kind wd c) (l : Nat → Int) (A : Option Addr) (n cap : Nat) (hn : n ≤ 1000) (hl : ∀ i, i < n → -9223372036854775808 ≤ l i ∧ l i ≤ 9223372036854775807) (w : World) (hc : w.cell? ⟨b, 0, none⟩ = some (.int .i64 wd)) (hr : Rd b w (i64s l) A n) :
    Calls Tryz.prog 163 #[.pointer (some ⟨b, 0, none⟩), .slice A n cap] w (ApSaid (apartP c l n) w) := by
  have hmm := run_makeMapN (n : Int)
  have hcb := hk.bounds
  have HR := Lib.hid hr
  have HL := Lib.hid hl
  have HS := Lib.hid (show ApAt c l n w (.int .i64 ((0 : Nat) : Int)) (w.alloc (.map #[] 0)) from ⟨0, Nat.zero_le _, rfl, (fun i hi => absurd hi (by omega)), ⟨_, Seen.start l, World.ownsMap_made _ _ _ _⟩, (Below.refl _ _).alloc (Nat.le_refl _) _⟩)
  clear hr hl
  go_enter Tryz.func163, Tryz.ntmps163
  go_wp2_with fail
  refine (size13 b wd c hk _ hc).mono ?_
  rintro e w' ⟨rfl, rfl⟩
  go_wp2_with fail
  go_loopw [16] (fun s16 wr => ApAt c l n w s16 wr) (fun s16 _ => n - (intOf s16).toNat)
  case atStart => exact HS.out
  case round =>
    clear HS
    obtain ⟨k, hk', rfl, hp, ⟨D, hD, hown⟩, hb⟩ := hrel
    have HP := Lib.hid hp
    have HD := Lib.hid hD
    have HB := Lib.hid hb
    by_cases hlt : k < n
    · obtain ⟨ad, rfl, hcell⟩ := (HR.out.below hb).at_ hlt
      simp only [i64s] at hcell
      obtain ⟨x, hx⟩ : ∃ x, l k = x := ⟨_, rfl⟩
      have hxb := HL.out k hlt
      rw [hx] at hcell hxb
      have HX := Lib.hid hx
      have hkey : keyOf Tryz.prog TI (.int .i64 x) = some (.int .i64 x) := Go.Maps.keyOf_int_mk Tryz.underlying3 (WalkArith.wf_i64 hxb)
      clear hp hD hb hx
      by_cases hs : ∃ j, j < k ∧ l j = x
      · have HN := Lib.hid (fun w' => ApSaid.no (w := w) (w' := w') (apart_not (c := c) hlt HX.out (Or.inr (Or.inr hs))))
        go_wp2_with (at_lookup; refine wpList_lookup_own_int _ rfl _ _ TMap rfl TI TI .i64 lawK underMap Tryz.underlying3 (zeroK _) w.heap.size k _ rfl hown _ _ rfl hkey ?_)
        intro c0 hat _
        obtain rfl : c0 = 1 := HD.out.yes hs hat
        clear hs hat
        go_wp2_with (at_mapUpdate; refine wpList_mapUpdate_own _ rfl _ _ _ TMap rfl TI TI lawK underMap _ w.heap.size k _ rfl hown (by unfold maxLen; omega) _ _ _ rfl rfl hkey _ [] (plainElem_int Tryz.underlying3 (by decide)) ?_)
        intro w1 hown1 hgrow1
        obtain ⟨c1, hrun1, hat1, _⟩ := hown1.lookup_int lawK underMap Tryz.underlying3 (zeroK _) hkey
        obtain rfl := put_at HD.out.1 hat1
        have HE := Lib.hid (HN.out w1 (HB.out.grown hgrow1 HB.out.size (fun j hj => by cases hj; exact Nat.le_refl _)))
        clear hat1 hown1 hgrow1 hown HN
        by_cases h0 : x < 0
        · go_wp2_with fail
          go_ret
          exact HE.out
        · by_cases h1 : (c : Int) + 1 ≤ x
          · go_wp2_with fail
            go_ret
            exact HE.out
          · go_wp2_with fail
            go_ret
            exact HE.out
      · go_wp2_with (at_lookup; refine wpList_lookup_own_int _ rfl _ _ TMap rfl TI TI .i64 lawK underMap Tryz.underlying3 (zeroK _) w.heap.size k _ rfl hown _ _ rfl hkey ?_)
        intro c0 hat _
        obtain rfl : c0 = 0 := HD.out.no hs hat
        have HSN := Lib.hid hs
        clear hs hat
        go_wp2_with (at_mapUpdate; refine wpList_mapUpdate_own _ rfl _ _ _ TMap rfl TI TI lawK underMap _ w.heap.size k _ rfl hown (by unfold maxLen; omega) _ _ _ rfl rfl hkey _ [] (plainElem_int Tryz.underlying3 (by decide)) ?_)
        intro w1 hown1 hgrow1
        obtain ⟨c1, hrun1, hat1, _⟩ := hown1.lookup_int lawK underMap Tryz.underlying3 (zeroK _) hkey
        obtain rfl := put_at HD.out.1 hat1
        have HB1 := Lib.hid (HB.out.grown hgrow1 HB.out.size (fun j hj => by cases hj; exact Nat.le_refl _))
        have HO1 := Lib.hid hown1
        clear hat1 hown1 hgrow1 hown
        by_cases h0 : x < 0
        · have HE := Lib.hid (ApSaid.no (apart_not (c := c) hlt HX.out (Or.inl h0)) HB1.out)
          go_wp2_with fail
          go_ret
          exact HE.out
        · by_cases h1 : (c : Int) + 1 ≤ x
          · have HE := Lib.hid (ApSaid.no (apart_not (c := c) hlt HX.out (Or.inr (Or.inl (by omega)))) HB1.out)
            go_wp2_with fail
            go_ret
            exact HE.out
          · have HE := Lib.hid (show ApAt c l n w (.int .i64 ((k + 1 : Nat) : Int)) w1 from ⟨k + 1, hlt, rfl, apart_step HP.out HX.out (by omega) HSN.out, ⟨_, HD.out.step HX.out, HO1.out⟩, HB1.out⟩)
            go_wp2_with fail
            exact ⟨by rw [show ((k : Nat) : Int) + 1 = ((k + 1 : Nat) : Int) by omega]; exact HE.out, by simp [intOf]; omega⟩
    · obtain rfl : k = n := by omega
      have HE := Lib.hid (ApSaid.yes (p := apartP c l k) HP.out HB.out)
      clear hp hD hb hown
      go_wp2_with fail
      go_ret
      exact HE.out

end Go.Proofs.YtgdgimknnjbieaaGreatDoor

namespace Go.Proofs.YtgdgimknnjbieaaGreatDoor
open Go.RowKit

set_option maxRecDepth 100000 in
set_option maxHeartbeats 1000000 in
theorem inverses25 (q : FP) (b wd n : Nat) (x : El q) (y : Nat → El q) (A : Option Addr) (c : Nat) (hn : n ≤ 100) (hne : ∀ j, j < n → x ≠ y j) (w : World) (hf : Fld q.p b wd w) (hr : Rd b w (i64s (fun j => ((y j).val : Int))) A n) :
    Calls Tryz.prog 164 #[.pointer (some ⟨b, 0, none⟩), .int .i64 (x.val : Nat), .slice A n c] w (RowNew q.p b wd n (fun j => (((x + y j).inv).val : Int)) w) := by
  have hmk := run_make_row' (P := Tryz.prog) TIs TI (.int .i64 0) 8 underI infoI rfl .i64 .i64 n (by omega) (by omega)
  have HS := Lib.hid (show PowAt q.p b wd n (fun j => (((x + y j).inv).val : Int)) w (.int .i64 ((0 : Nat) : Int)) (w.alloc (.cells (madeCells #[.int .i64 0] n) TI)) from
    ⟨0, Nat.zero_le _, rfl, (World.rowIs_made w (.int .i64 0) n TI).congr (fun x _ => by rw [if_neg (by omega)]), hf.of_below (below_alloc _ _), Turned.of_below (below_alloc _ _)⟩)
  have hbl := hf.lt
  have HG := Lib.hid hf.1
  have HN := Lib.hid hne
  have HR := Lib.hid hr
  clear hf hr hne
  go_enter Tryz.func164, Tryz.ntmps164
  go_wp2_with fail
  go_loopw [15] (fun s15 wr => PowAt q.p b wd n (fun j => (((x + y j).inv).val : Int)) w s15 wr) (fun s15 _ => n - (intOf s15).toNat)
  case atStart => exact HS.out
  case round =>
    clear HS
    obtain ⟨j, hj, rfl, h1, h2, h3⟩ := hrel
    have H1 := Lib.hid h1
    have H2 := Lib.hid h2
    have H3 := Lib.hid h3
    clear h1 h2 h3
    by_cases hlt : j < n
    · obtain ⟨ad, rfl, hcell⟩ := (HR.out.turned H3.out).at_ hlt
      simp only [i64s] at hcell
      have HXO := Lib.hid (i64_xor_el HG.out x (y j))
      have hxo := HXO.out
      have hz : x + y j ≠ 0 := fun h0 => HN.out j hlt (El.add_eq_zero.1 h0)
      have hz1 : (x + y j).val ≠ 0 := fun h0 => hz (El.eq_zero.2 h0)
      have hzl := (x + y j).le
      have HI := Lib.hid (finv_yes (p := q.p) (a := (((x + y j).val : Nat) : Int)) (by omega) (by omega))
      obtain ⟨xv, hxv⟩ : ∃ xv, x.val = xv := ⟨_, rfl⟩
      obtain ⟨yv, hyv⟩ : ∃ yv, (y j).val = yv := ⟨_, rfl⟩
      rw [hxv, hyv] at hxo
      rw [hyv] at hcell
      rw [hxv]
      clear hz hz1 hzl
      go_wp2_with fail
      refine (finv18 q.p b wd _ _ H2.out).mono ?_
      rintro e w3 ⟨rfl, hf3, ht3⟩
      rw [HI.out, Int.toNat_natCast]
      have h4 := ht3.row H1.out (by omega)
      have HP := Lib.hid (powAt_step hlt h4 hf3 (H3.out.trans ht3))
      have c1 := h4.cell hlt
      have f1 := h4.frozen j
      rw [if_neg (by omega)] at c1
      have HY := Lib.hid (show M.inv q.p (x + y j).val = ((x + y j).inv).val from rfl)
      rw [HY.out]
      obtain ⟨z, hz⟩ : ∃ z, ((x + y j).inv).val = z := ⟨_, rfl⟩
      rw [hz] at HP ⊢
      clear h4 hf3 ht3 H1 H2 H3 hz hxv hyv HXO HY HI
      go_wp2_with fail
      exact ⟨HP.out, by simp [intOf]; omega⟩
    · obtain rfl : j = n := by omega
      have HE := Lib.hid (show RowNew q.p b wd j (fun j => (((x + y j).inv).val : Int)) w (.returned (.slice (some ⟨w.heap.size, 0, none⟩) j j)) wr from ⟨_, rfl, H1.out.congr (fun x hx => by rw [if_pos hx]), Nat.le_refl _, H2.out, H3.out⟩)
      clear H1 H2 H3
      go_wp2_with fail
      go_ret
      exact HE.out

/-- both lists, one behind the other -/
def catL (n : Nat) (lx ly : Nat → Int) (j : Nat) : Int := if j < n then lx j else ly (j - n)
/-- what Of asks -/
def ofP (c n m : Nat) (lx ly : Nat → Int) : Prop := side n ∧ side m ∧ apartP c (catL n lx ly) (n + m)
theorem ofP.x {c n m : Nat} {lx ly : Nat → Int} (h : ofP c n m lx ly) {i : Nat} (hi : i < n) : 0 ≤ lx i ∧ lx i ≤ c := by
  have := (h.2.2 i (by omega)).1
  unfold catL at this
  rwa [if_pos hi] at this
theorem ofP.y {c n m : Nat} {lx ly : Nat → Int} (h : ofP c n m lx ly) {j : Nat} (hj : j < m) : 0 ≤ ly j ∧ ly j ≤ c := by
  have := (h.2.2 (n + j) (by omega)).1
  unfold catL at this
  rwa [if_neg (by omega), Nat.add_sub_cancel_left] at this
theorem apartP.inj {c n : Nat} {l : Nat → Int} (h : apartP c l n) : ∀ i j, i < n → j < n → l i = l j → i = j := fun i j hi hj e => by
  rcases Nat.lt_trichotomy i j with h1 | h1 | h1
  · exact absurd e.symm ((h j hj).2 i h1)
  · exact h1
  · exact absurd e ((h i hi).2 j h1)
theorem ofP.xx {c n m : Nat} {lx ly : Nat → Int} (h : ofP c n m lx ly) : ∀ i j, i < n → j < n → lx i = lx j → i = j := fun i j hi hj e => h.2.2.inj i j (by omega) (by omega) (by
  unfold catL
  rw [if_pos hi, if_pos hj, e])
theorem ofP.yy {c n m : Nat} {lx ly : Nat → Int} (h : ofP c n m lx ly) : ∀ i j, i < m → j < m → ly i = ly j → i = j := fun i j hi hj e => by
  have := h.2.2.inj (n + i) (n + j) (by omega) (by omega) (by
    unfold catL
    rw [if_neg (by omega), if_neg (by omega), Nat.add_sub_cancel_left, Nat.add_sub_cancel_left, e])
  omega
theorem ofP.xy {c n m : Nat} {lx ly : Nat → Int} (h : ofP c n m lx ly) : ∀ i j, i < n → j < m → lx i ≠ ly j := fun i j hi hj e => by
  have := h.2.2.inj i (n + j) (by omega) (by omega) (by
    unfold catL
    rw [if_pos hi, if_neg (by omega), Nat.add_sub_cancel_left, e])
  omega
theorem cat_ints {n m : Nat} {lx ly : Nat → Int} (j : Nat) (hj : j < n + m) :
    (catV (fun s x => if s = 0 then lx x else ly x) (fun s => if s = 0 then n else m) 2)[j]? = some (.int .i64 (catL n lx ly j)) := by
  simp only [catV, List.nil_append]
  simp only [if_pos, if_neg (show ¬ (1 = 0) by omega)]
  rw [List.getElem?_append]
  unfold catL
  by_cases e : j < n
  · rw [if_pos (by simpa using e), if_pos e, List.getElem?_map, List.getElem?_range e]
    rfl
  · rw [if_neg (by simpa using e), if_neg e, List.getElem?_map, List.length_map, List.length_range, List.getElem?_range (by omega)]
    rfl

/-- i of n rows are laid, while the field may turn -/
structure OfM (q : FP) (b wd n m g : Nat) (gs : Nat → Nat) (E : Nat → Nat → El q) (i : Nat) (w W : World) : Prop where
  fld : Fld q.p b wd W
  turned : Turned b w W
  out : W.rowIs g TIs n (fun r => if r < i then .slice (some ⟨gs r, 0, none⟩) m m else nilS)
  row : ∀ r, r < i → W.rowIs (gs r) TI m (i64s (ivs E r))
  glow : w.heap.size ≤ g
  low : ∀ r, r < i → w.heap.size ≤ gs r
theorem OfM.start {q : FP} {b wd n m : Nat} {E : Nat → Nat → El q} {w w1 : World} (hf : Fld q.p b wd w1) (hb : Below w.heap.size w w1) : OfM q b wd n m w1.heap.size (fun _ => 0) E 0 w (w1.alloc (.cells (madeCells #[nilS] n) TIs)) :=
  ⟨hf.of_below (below_alloc _ _), (Turned.of_below hb).trans (Turned.of_below (below_alloc _ _)), (World.rowIs_made w1 nilS n TIs).congr (fun r _ => by rw [if_neg (by omega)]), fun r hr => absurd hr (by omega), hb.size, fun r hr => absurd hr (by omega)⟩
theorem OfM.step {q : FP} {b wd n m g g' : Nat} {gs : Nat → Nat} {E : Nat → Nat → El q} {i : Nat} {w W W1 : World} (h : OfM q b wd n m g gs E i w W) (hb : b < w.heap.size) (hr : W1.rowIs g' TI m (i64s (ivs E i))) (hg : W.heap.size ≤ g') (hf : Fld q.p b wd W1) (ht : Turned b W W1) :
    OfM q b wd n m g (fun r => if r = i then g' else gs r) E (i + 1) w (W1.setCell ⟨g, i, none⟩ (.slice (some ⟨g', 0, none⟩) m m)) := by
  have hgl := h.out.lt
  have hgw := h.glow
  have ho := ht.row h.out (by omega)
  have hsz := h.turned.size
  refine ⟨hf.setRow ho (by decide) (by decide) _, (h.turned.trans ht).set_new h.glow _, (ho.set i _).congr (fun r _ => ?_), fun r hr' => ?_, h.glow, fun r hr' => ?_⟩
  · rcases Nat.lt_trichotomy r i with e | e | e
    · rw [if_neg (by omega), if_pos e, if_pos (by omega), if_neg (by omega)]
    · rw [if_pos e, if_pos (by omega), if_pos e]
    · rw [if_neg (by omega), if_neg (by omega), if_neg (by omega)]
  · by_cases e : r = i
    · simp only [if_pos e]
      rw [e]
      exact hr.setOther (a := ⟨g, i, none⟩) (by simp; omega) _
    · simp only [if_neg e]
      have h1 := h.row r (by omega)
      have h2 := h.low r (by omega)
      have h3 := ht.row h1 (by omega)
      refine h3.setOther (a := ⟨g, i, none⟩) (fun e' => ?_) _
      rw [show gs r = g from e'] at h3
      exact absurd (rowIs_kind h3 ho) (by decide)
  · by_cases e : r = i
    · simp only [if_pos e]; omega
    · simp only [if_neg e]; exact h.low r (by omega)
theorem OfM.told {q : FP} {b wd n m g : Nat} {gs : Nat → Nat} {E : Nat → Nat → El q} {w W : World} (h : OfM q b wd n m g gs E n w W) (hb : b < w.heap.size) : Mx b W (ivs E) (fun _ => m) (some ⟨g, 0, none⟩) n :=
  ⟨fun r => some ⟨gs r, 0, none⟩, fun _ => m, (Rd.of_row h.out (by have := h.glow; omega) (Nat.le_refl _)).congr (fun r hr => by rw [if_pos hr]), fun r hr => Rd.of_row (h.row r hr) (by have := h.low r hr; omega) (Nat.le_refl _)⟩
def OfAt (q : FP) (b wd n m g : Nat) (E : Nat → Nat → El q) (w : World) (s35 : Value) (W : World) : Prop := ∃ i : Nat, i ≤ n ∧ s35 = .int .i64 i ∧ ∃ gs, OfM q b wd n m g gs E i w W

/-- the rows of inverses of two lists of numbers -/
def ofE (q : FP) (lx ly : Nat → Int) : Nat → Nat → El q := cauE (fun i => toEl q (lx i)) (fun j => toEl q (ly j))
/-- what Of tells -/
def OfAny (q : FP) (b wd n m : Nat) (lx ly : Nat → Int) (w : World) (e : Ending) (w' : World) : Prop :=
  ∃ t A c, e = .returned (.tuple #[.slice A (cond t n 0) c, .int .i64 (errOf t)]) ∧ (t = true ↔ ofP (M.ord q.p) n m lx ly) ∧ cond t n 0 ≤ c ∧ Mx b w' (ivs (ofE q lx ly)) (fun _ => m) A (cond t n 0) ∧ Fld q.p b wd w' ∧ Turned b w w'
theorem OfAny.no {q : FP} {b wd n m : Nat} {lx ly : Nat → Int} {w w' : World} (h : ¬ ofP (M.ord q.p) n m lx ly) (hf : Fld q.p b wd w') (ht : Turned b w w') : OfAny q b wd n m lx ly w (.returned (.tuple #[nilS, .int .i64 1])) w' :=
  ⟨false, none, 0, rfl, by simp [h], Nat.le_refl _, Mx.zero, hf, ht⟩

set_option maxRecDepth 100000 in
set_option maxHeartbeats 2000000 in
theorem of_any (q : FP) (b wd n m : Nat) (lx ly : Nat → Int) (A B : Option Addr) (ca cb : Nat) (hlx : ∀ i, i < n → -9223372036854775808 ≤ lx i ∧ lx i ≤ 9223372036854775807) (hly : ∀ i, i < m → -9223372036854775808 ≤ ly i ∧ ly i ≤ 9223372036854775807)
    (w : World) (hf : Fld q.p b wd w) (hra : Rd b w (i64s lx) A n) (hrb : Rd b w (i64s ly) B m) :
    Calls Tryz.prog 125 #[.pointer (some ⟨b, 0, none⟩), .slice A n ca, .slice B m cb] w (OfAny q b wd n m lx ly w) := by
  have hkd := hf.1.kind
  have hbl := hf.lt
  have HF := Lib.hid hf
  have HA := Lib.hid hra
  have HB := Lib.hid hrb
  have HLX := Lib.hid hlx
  have HLY := Lib.hid hly
  clear hf hra hrb hlx hly
  go_enter Tryz.func125, Tryz.ntmps125
  go_wp2_with fail
  refine (cside22 n _).mono ?_
  rintro e w' ⟨t, rfl, ht, rfl⟩
  cases t
  · have HE := Lib.hid (OfAny.no (w := w) (n := n) (m := m) (lx := lx) (ly := ly) (fun h => by have h1 := h.1.1; have h2 := h.1.2; have := ht.2 ⟨by omega, by omega⟩; cases this) HF.out (Turned.refl _ _))
    clear ht
    go_wp2_with fail
    go_ret2
    exact HE.out
  have hn1 := (ht.1 rfl).1
  have hn2 := (ht.1 rfl).2
  clear ht
  go_wp2_with fail
  refine (cside22 m _).mono ?_
  rintro e w' ⟨t, rfl, ht, rfl⟩
  cases t
  · have HE := Lib.hid (OfAny.no (w := w) (n := n) (m := m) (lx := lx) (ly := ly) (fun h => by have h1 := h.2.1.1; have h2 := h.2.1.2; have := ht.2 ⟨by omega, by omega⟩; cases this) HF.out (Turned.refl _ _))
    clear ht
    go_wp2_with fail
    go_ret2
    exact HE.out
  have hm1 := (ht.1 rfl).1
  have hm2 := (ht.1 rfl).2
  clear ht
  have hrow := World.rowIs_alloc w #[.slice A n ca, .slice B m cb] TIs (slis (fun s => if s = 0 then A else B) (fun s => if s = 0 then n else m) (fun s => if s = 0 then ca else cb)) (fun s hs => by
    simp at hs
    match s, hs with
    | 0, _ => rfl
    | 1, _ => rfl)
  have hba := below_alloc w (.cells #[.slice A n ca, .slice B m cb] TIs)
  have HBA := Lib.hid hba
  have HRD := Lib.hid (Rd.of_row (b := b) (n := 2) hrow (by omega) (by simp))
  have HRR := Lib.hid (show ∀ s, s < 2 → Rd b (w.alloc (.cells #[.slice A n ca, .slice B m cb] TIs)) (i64s (fun x => if s = 0 then lx x else ly x)) (if s = 0 then A else B) (if s = 0 then n else m) from fun s hs => by
    match s, hs with
    | 0, _ => exact HA.out.below hba
    | 1, _ => exact HB.out.below hba)
  have HNN := Lib.hid (show ∀ s, s < 2 → (if s = 0 then A else B) = none → (if s = 0 then ca else cb) = 0 from fun s hs h => by
    match s, hs with
    | 0, _ =>
      obtain ⟨_, e, _⟩ := HA.out (by omega)
      rw [if_pos rfl, e] at h
      cases h
    | 1, _ =>
      obtain ⟨_, e, _⟩ := HB.out (by omega)
      rw [if_neg (by omega), e] at h
      cases h)
  clear hrow hba
  obtain ⟨w1, hw1⟩ : ∃ w1, w.alloc (.cells #[.slice A n ca, .slice B m cb] TIs) = w1 := ⟨_, rfl⟩
  go_wp2_with fail
  rw [hw1] at HBA HRD HRR
  clear hw1
  refine (concat35 b (fun s x => if s = 0 then lx x else ly x) (fun s => if s = 0 then A else B) (fun s => if s = 0 then n else m) (fun s => if s = 0 then ca else cb) _ 2 2 (by omega) (fun s _ => by split <;> omega) (by simp [catN]; omega) w1 HRD.out HRR.out HNN.out).mono ?_
  rintro e w2 ⟨v, rfl, hown, hb2⟩
  rw [show catN (fun s => if s = 0 then n else m) 2 = n + m by simp [catN]] at hown
  obtain ⟨g', cap, T, rfl, hg', hcap, hT, hTv⟩ := own_row hown (by omega)
  have HB2 := Lib.hid (below_tr HBA.out hb2)
  have HC := Lib.hid (show Rd b w2 (i64s (catL n lx ly)) (some ⟨g', 0, none⟩) (n + m) from (Rd.of_row hT (by have := HBA.out.size; omega) hcap).congr (fun j hj => hTv j _ (cat_ints j hj)))
  have HF2 := Lib.hid (HF.out.of_below HB2.out)
  obtain ⟨N, hN⟩ : ∃ N, n + m = N := ⟨_, rfl⟩
  have HNm := Lib.hid hN
  have hNle : N ≤ 40 := by omega
  have HAP := Lib.hid (apart23 b wd _ hkd (catL n lx ly) (some ⟨g', 0, none⟩) N cap (by omega) (fun i hi => by
    unfold catL
    split
    · exact HLX.out i (by omega)
    · exact HLY.out (i - n) (by omega)) w2 HF2.out.c0 (by rw [← hN]; exact HC.out))
  rw [hN]
  clear hown hb2 hT hTv HRD HRR HNN HBA hN HC
  go_wp2_with fail
  refine HAP.out.mono ?_
  rintro e w3 ⟨t, rfl, ht, hb3⟩
  have HB3 := Lib.hid (below_tr HB2.out hb3)
  have HF3 := Lib.hid (HF2.out.of_below hb3)
  cases t
  · have HE := Lib.hid (OfAny.no (w := w) (n := n) (m := m) (lx := lx) (ly := ly) (fun h => by have h1 := h.2.2; rw [HNm.out] at h1; have := ht.2 h1; cases this) HF3.out (Turned.of_below HB3.out))
    clear ht hb3 HAP
    go_wp2_with fail
    go_ret2
    exact HE.out
  have hP : ofP (M.ord q.p) n m lx ly := ⟨⟨by omega, by omega⟩, ⟨by omega, by omega⟩, by rw [HNm.out]; exact ht.1 rfl⟩
  have HP := Lib.hid hP
  have HX := Lib.hid (show Rd b w (i64s (fun i => ((toEl q (lx i)).val : Int))) A n from HA.out.congr (fun i hi => by simp only [i64s]; rw [toEl_val (hP.x hi)]))
  have HY := Lib.hid (show Rd b w (i64s (fun i => ((toEl q (ly i)).val : Int))) B m from HB.out.congr (fun i hi => by simp only [i64s]; rw [toEl_val (hP.y hi)]))
  have HNE := Lib.hid (show ∀ i, i < n → ∀ j, j < m → toEl q (lx i) ≠ toEl q (ly j) from fun i hi j hj e => hP.xy i j hi hj (toEl_inj (hP.x hi) (hP.y hj) e))
  have hmk := run_make_row' (P := Tryz.prog) TM TIs nilS 24 underM' infoRow rfl .i64 .i64 n (by omega) (by omega)
  have HS := Lib.hid (OfM.start (m := m) (n := n) (E := ofE q lx ly) HF3.out HB3.out)
  have hsz3 := HB3.out.size
  clear ht hb3 HAP hP
  go_wp2_with fail
  go_loopw [35] (fun s35 wr => OfAt q b wd n m w3.heap.size (ofE q lx ly) w s35 wr) (fun s35 _ => n - (intOf s35).toNat)
  case atStart => exact ⟨0, Nat.zero_le _, rfl, _, HS.out⟩
  case round =>
    clear HS
    obtain ⟨i, hi, rfl, gs, hM⟩ := hrel
    have HM := Lib.hid hM
    clear hM
    by_cases hlt : i < n
    · obtain ⟨ad, rfl, hcell⟩ := (HX.out.turned HM.out.turned).at_ hlt
      simp only [i64s] at hcell
      go_wp2_with fail
      refine (inverses25 q b wd m (toEl q (lx i)) (fun j => toEl q (ly j)) B cb (by omega) (fun j hj => HNE.out i hlt j hj) _ HM.out.fld (HY.out.turned HM.out.turned)).mono ?_
      rintro e w4 ⟨g4, rfl, hr4, hg4, hf4, ht4⟩
      have HS := Lib.hid (HM.out.step hbl (hr4.congr (fun j _ => rfl)) hg4 hf4 ht4)
      have ho := ht4.row HM.out.out (by omega)
      have c1 := ho.cell hlt
      have f1 := ho.frozen i
      rw [if_neg (by omega)] at c1
      clear ho hr4 hg4 hf4 ht4 HM
      go_wp2_with fail
      exact ⟨⟨i + 1, hlt, by go_num, _, HS.out⟩, by simp [intOf]; omega⟩
    · obtain rfl : i = n := by omega
      have HE := Lib.hid (show OfAny q b wd i m lx ly w (.returned (.tuple #[.slice (some ⟨w3.heap.size, 0, none⟩) i i, .int .i64 0])) wr from ⟨true, _, _, rfl, by simp [HP.out], Nat.le_refl _, HM.out.told hbl, HM.out.fld, HM.out.turned⟩)
      clear HM
      go_wp2_with fail
      go_ret2
      exact HE.out
end Go.Proofs.YtgdgimknnjbieaaGreatDoor

namespace Go.Proofs.YtgdgimknnjbieaaGreatDoor
open Go.RowKit

/-- what Orig and Isal tell, whatever they are asked -/
def CAny (q : FP) (b wd : Nat) (u : Bool) (n m : Nat) (E : Nat → Nat → El q) (w : World) (e : Ending) (w' : World) : Prop :=
  ∃ A c, e = .returned (.tuple #[.slice A (cond u n 0) c, .int .i64 (errOf u)]) ∧ cond u n 0 ≤ c ∧ Mx b w' (ivs E) (fun _ => m) A (cond u n 0) ∧ Fld q.p b wd w' ∧ Turned b w w'
theorem frm_apart {k m c : Nat} (hkm : k + m ≤ c) : apartP c (catL m (frm 0) (frm m)) (m + k) := fun i hi => by
  have h : ∀ j, catL m (frm 0) (frm m) j = (j : Int) := fun j => by
    unfold catL frm
    split <;> omega
  rw [h]
  exact ⟨by omega, fun j hj => by rw [h]; omega⟩
theorem frm_apart' {k m c : Nat} (hkm : k + m ≤ c) : apartP c (catL m (frm k) (frm 0)) (m + k) := fun i hi => by
  have h : ∀ j, catL m (frm k) (frm 0) j = if j < m then (k : Int) + j else (j : Int) - m := fun j => by
    unfold catL frm
    split <;> omega
  rw [h]
  refine ⟨by split <;> omega, fun j hj => ?_⟩
  rw [h]
  split <;> split <;> omega
theorem frm_in {a n : Nat} (ha : a ≤ 1000) (hn : n ≤ 100) : ∀ i, i < n → -9223372036854775808 ≤ frm a i ∧ frm a i ≤ 9223372036854775807 := fun i hi => by
  unfold frm
  omega

set_option maxRecDepth 100000 in
set_option maxHeartbeats 2000000 in
theorem orig_yes (q : FP) (b wd k m : Nat) (hk : 1 ≤ k) (hm : 1 ≤ m) (hkm : k + m ≤ 20) (w : World) (hf : Fld q.p b wd w) :
    Calls Tryz.prog 79 #[.pointer (some ⟨b, 0, none⟩), .int .i64 k, .int .i64 m] w (CAny q b wd true m k (ofE q (frm 0) (frm m)) w) := by
  have hbl := hf.lt
  have HF := Lib.hid hf
  have HFT := Lib.hid (show fitsI (k : Int) (m : Int) from ⟨⟨by omega, by omega⟩, ⟨by omega, by omega⟩, by omega⟩)
  have HP := Lib.hid (show ofP (M.ord q.p) m k (frm 0) (frm m) from ⟨⟨by omega, by omega⟩, ⟨by omega, by omega⟩, frm_apart (by have := hf.1.kind.bounds; omega)⟩)
  have H0 := Lib.hid (from29 0 m (by omega) (by omega))
  have H1 := Lib.hid (from29 m k (by omega) (by omega))
  have N0 := Lib.hid (frm_in (a := 0) (n := m) (by omega) (by omega))
  have N1 := Lib.hid (frm_in (a := m) (n := k) (by omega) (by omega))
  have hk20 : k ≤ 20 := by omega
  have hm20 : m ≤ 20 := by omega
  clear hf hkm
  go_enter Tryz.func79, Tryz.ntmps79
  go_wp2_with fail
  refine (ccode28 k m (by omega) _).mono ?_
  rintro e w' ⟨t, rfl, ht, rfl⟩
  obtain rfl : t = true := ht.2 HFT.out
  clear ht
  go_wp2_with fail
  refine (H0.out _).mono ?_
  rintro e w1 ⟨rfl, hr1, hb1⟩
  have R1 := Lib.hid hr1
  have B1 := Lib.hid hb1
  clear hr1 hb1
  go_wp2_with fail
  refine (H1.out _).mono ?_
  rintro e w2 ⟨rfl, hr2, hb2⟩
  have hs1 := B1.out.size
  have HA := Lib.hid (show Rd b w2 (i64s (frm 0)) (some ⟨w.heap.size, 0, none⟩) m from (Rd.of_row R1.out (by omega) (Nat.le_refl _)).below hb2)
  have HB := Lib.hid (show Rd b w2 (i64s (frm m)) (some ⟨w1.heap.size, 0, none⟩) k from Rd.of_row hr2 (by omega) (Nat.le_refl _))
  have B2 := Lib.hid (below_tr B1.out hb2)
  clear hr2 hb2 R1 B1
  go_wp2_with fail
  refine (of_any q b wd m k (frm 0) (frm m) _ _ m k N0.out N1.out _ (HF.out.of_below B2.out) HA.out HB.out).mono ?_
  rintro e w3 ⟨t, A, c, rfl, ht, hc, hx, hf3, ht3⟩
  obtain rfl : t = true := ht.2 HP.out
  have HE := Lib.hid (show CAny q b wd true m k (ofE q (frm 0) (frm m)) w (.returned (.tuple #[.slice A m c, .int .i64 0])) w3 from ⟨A, c, rfl, hc, hx, hf3, (Turned.of_below B2.out).trans ht3⟩)
  clear ht hc hx hf3 ht3
  go_wp2_with fail
  go_ret2
  exact HE.out

set_option maxRecDepth 100000 in
set_option maxHeartbeats 2000000 in
theorem cisal_yes (q : FP) (b wd k m : Nat) (hk : 1 ≤ k) (hm : 1 ≤ m) (hkm : k + m ≤ 20) (w : World) (hf : Fld q.p b wd w) :
    Calls Tryz.prog 81 #[.pointer (some ⟨b, 0, none⟩), .int .i64 k, .int .i64 m] w (CAny q b wd true m k (ofE q (frm k) (frm 0)) w) := by
  have hbl := hf.lt
  have HF := Lib.hid hf
  have HFT := Lib.hid (show fitsI (k : Int) (m : Int) from ⟨⟨by omega, by omega⟩, ⟨by omega, by omega⟩, by omega⟩)
  have HP := Lib.hid (show ofP (M.ord q.p) m k (frm k) (frm 0) from ⟨⟨by omega, by omega⟩, ⟨by omega, by omega⟩, frm_apart' (by have := hf.1.kind.bounds; omega)⟩)
  have H0 := Lib.hid (from29 k m (by omega) (by omega))
  have H1 := Lib.hid (from29 0 k (by omega) (by omega))
  have N0 := Lib.hid (frm_in (a := k) (n := m) (by omega) (by omega))
  have N1 := Lib.hid (frm_in (a := 0) (n := k) (by omega) (by omega))
  have hk20 : k ≤ 20 := by omega
  have hm20 : m ≤ 20 := by omega
  clear hf hkm
  go_enter Tryz.func81, Tryz.ntmps81
  go_wp2_with fail
  refine (ccode28 k m (by omega) _).mono ?_
  rintro e w' ⟨t, rfl, ht, rfl⟩
  obtain rfl : t = true := ht.2 HFT.out
  clear ht
  go_wp2_with fail
  refine (H0.out _).mono ?_
  rintro e w1 ⟨rfl, hr1, hb1⟩
  have R1 := Lib.hid hr1
  have B1 := Lib.hid hb1
  clear hr1 hb1
  go_wp2_with fail
  refine (H1.out _).mono ?_
  rintro e w2 ⟨rfl, hr2, hb2⟩
  have hs1 := B1.out.size
  have HA := Lib.hid (show Rd b w2 (i64s (frm k)) (some ⟨w.heap.size, 0, none⟩) m from (Rd.of_row R1.out (by omega) (Nat.le_refl _)).below hb2)
  have HB := Lib.hid (show Rd b w2 (i64s (frm 0)) (some ⟨w1.heap.size, 0, none⟩) k from Rd.of_row hr2 (by omega) (Nat.le_refl _))
  have B2 := Lib.hid (below_tr B1.out hb2)
  clear hr2 hb2 R1 B1
  go_wp2_with fail
  refine (of_any q b wd m k (frm k) (frm 0) _ _ m k N0.out N1.out _ (HF.out.of_below B2.out) HA.out HB.out).mono ?_
  rintro e w3 ⟨t, A, c, rfl, ht, hc, hx, hf3, ht3⟩
  obtain rfl : t = true := ht.2 HP.out
  have HE := Lib.hid (show CAny q b wd true m k (ofE q (frm k) (frm 0)) w (.returned (.tuple #[.slice A m c, .int .i64 0])) w3 from ⟨A, c, rfl, hc, hx, hf3, (Turned.of_below B2.out).trans ht3⟩)
  clear ht hc hx hf3 ht3
  go_wp2_with fail
  go_ret2
  exact HE.out

end Go.Proofs.YtgdgimknnjbieaaGreatDoor
