/- Jerasure's rows of powers: any k have an inverse; rows and columns that are scaled still have: plain mathematics. -/
import Derived.Test.YtgcochamjicjiaaGreatGxp
namespace Go.Proofs.YtgcochamjicjiaaGreat
open Go.RowKit

section
variable {q : FP}
/-- Jerasure's rows of powers, N of them, of k numbers each: the last one is that of infinity -/
def extE (q : FP) (k N i j : Nat) : El q := if i + 1 = N then dl (k - 1) j else rawE q i j
theorem ext_raw {k N i : Nat} (h : i + 1 ≠ N) (j : Nat) : extE q k N i j = rawE q i j := if_neg h
theorem ext_last {k N i : Nat} (h : i + 1 = N) (j : Nat) : extE q k N i j = dl (k - 1) j := if_pos h

theorem ext_any {k N : Nat} {l : Nat → Nat} (hN : (N : Int) ≤ M.ord q.p) (hl : ∀ i, i < k → l i < N) (hu : ∀ i j, i < k → j < k → l i = l j → i = j) : rk k (fun i j => extE q k N (l i) j) k = k := by
  by_cases hx : ∃ i0, i0 < k ∧ l i0 + 1 = N
  · obtain ⟨i0, hi0, e0⟩ := hx
    obtain ⟨n, rfl⟩ : ∃ n, k = n + 1 := ⟨k - 1, by omega⟩
    refine full_tr (full_of_free (fun c hc => ?_))
    have h0 : c n = 0 := by
      have h := hc i0 hi0
      rw [su_one (fun i => c i * extE q (n + 1) N (l i0) i) (show n < n + 1 by omega) (fun i _ hne => by rw [ext_last e0, Nat.add_sub_cancel, dl_ne (fun e => hne e.symm), El.mul_zero])] at h
      rw [ext_last e0, Nat.add_sub_cancel, dl_self, El.mul_one] at h
      exact h
    have hz := ev_roots n (fun i => toEl q ((l (if i = i0 then n else i) : Nat) : Int)) (fun i j hi hj h => by
      have hle : ∀ x, x < n + 1 → ((l x : Nat) : Int) ≤ M.ord q.p := fun x hx => by have := hl x hx; omega
      have h1 : (if i = i0 then n else i) < n + 1 := by split <;> omega
      have h2 : (if j = i0 then n else j) < n + 1 := by split <;> omega
      have h3 := toEl_inj ⟨by omega, hle _ h1⟩ ⟨by omega, hle _ h2⟩ h
      have h4 := hu _ _ h1 h2 (by omega)
      split at h4 <;> split at h4 <;> omega) c (fun i hi => by
      have h1 : (if i = i0 then n else i) < n + 1 := by split <;> omega
      have h2 := hc _ h1
      have h3 : (if i = i0 then n else i) ≠ i0 := by split <;> omega
      have h4 : l (if i = i0 then n else i) + 1 ≠ N := fun e => h3 (hu _ _ h1 hi0 (by omega))
      rw [su, h0, El.zero_mul, El.add_zero] at h2
      unfold ev
      rw [← h2]
      exact su_congr (fun j _ => by rw [ext_raw h4]; rfl))
    intro j hj
    by_cases e : j = n
    · rw [e]; exact h0
    · exact hz j (by omega)
  · rw [rk_congr (F := fun i j => rawE q (l i) j) (fun r hr j _ => ext_raw (fun e => hx ⟨r, hr, e⟩) j)]
    exact pick_full (fun i hi => by have := hl i hi; omega) hu

/-- rows and columns that are scaled by numbers but 0 -/
theorem scale_full {k : Nat} {F : Nat → Nat → El q} {s t : Nat → El q} (h : rk k F k = k) (hs : ∀ i, i < k → s i ≠ 0) (ht : ∀ j, j < k → t j ≠ 0) : rk k (fun i j => s i * (F i j * t j)) k = k := by
  refine full_of_free (fun c hc i hi => ?_)
  have h1 := free_of_full h (fun i => c i * s i) (fun j hj => by
    have e := hc j hj
    have e2 : su k (fun i => c i * (s i * (F i j * t j))) = t j * su k (fun i => c i * s i * F i j) := by
      rw [mul_su]
      exact su_congr (fun i _ => by ac_rfl)
    rw [e2] at e
    exact El.cancel (ht j hj) e) i hi
  exact El.cancel (hs i hi) (by rw [El.mul_comm]; exact h1)
theorem El.inv_ne {a : El q} (h : a ≠ 0) : a.inv ≠ 0 := fun e => by
  have h1 := El.mul_inv h
  rw [e, El.mul_zero] at h1
  exact El.one_ne h1.symm
theorem El.inv_one : (1 : El q).inv = 1 := by
  have h1 := El.mul_inv (El.one_ne (q := q))
  rwa [El.one_mul] at h1

/-- rows of powers, times the inverse of the first ones -/
def sysJ (q : FP) (k N : Nat) : Nat → Nat → El q := mm k (extE q k N) (ivm k (extE q k N))
theorem ext_full {k N : Nat} (hN : (N : Int) ≤ M.ord q.p) (hk : k ≤ N) : rk k (extE q k N) k = k := ext_any (l := fun i => i) hN (fun i hi => by omega) (fun i j _ _ h => h)
theorem sysJ_id {k N : Nat} (hN : (N : Int) ≤ M.ord q.p) (hk : k ≤ N) {r c : Nat} (hr : r < k) (hc : c < k) : sysJ q k N r c = dl r c := (ivm_inv (ext_full hN hk)).2 r hr c hc
theorem sysJ_any {k N : Nat} {l : Nat → Nat} (hN : (N : Int) ≤ M.ord q.p) (hk : k ≤ N) (hl : ∀ i, i < k → l i < N) (hu : ∀ i j, i < k → j < k → l i = l j → i = j) : rk k (fun i j => sysJ q k N (l i) j) k = k := by
  have e : (fun i j => sysJ q k N (l i) j) = mm k (fun i j => extE q k N (l i) j) (ivm k (extE q k N)) := rfl
  rw [e]
  exact full_mm.2 ⟨ext_any hN hl hu, full_of_right (ivm_inv (ext_full hN hk)).1⟩
theorem sysJ_ne {k N : Nat} (hN : (N : Int) ≤ M.ord q.p) {i j : Nat} (hi : k ≤ i) (hi2 : i < N) (hj : j < k) : sysJ q k N i j ≠ 0 := fun h0 => by
  have hf := sysJ_any (q := q) (k := k) (l := fun r => if r = j then i else r) hN (by omega) (fun r hr => by split <;> omega) (fun r s hr hs e => by
    split at e <;> split at e <;> omega)
  have h1 := (ivm_inv hf).1 j hj j hj
  rw [dl_self] at h1
  refine El.one_ne (h1.symm.trans (su_none (fun r hr => ?_)))
  dsimp only
  by_cases e : r = j
  · rw [if_pos e, h0, El.mul_zero]
  · rw [if_neg e, sysJ_id hN (by omega) hr hj, dl_ne e, El.mul_zero]

/-- the parity rows ahead of any division -/
def jG (q : FP) (k N i j : Nat) : El q := sysJ q k N (k + i) j
/-- each column divided by its number in the first row -/
def colE (G : Nat → Nat → El q) (i j : Nat) : El q := G i j * (G 0 j).inv
/-- and then each row by its number in the first column -/
def rowE (C : Nat → Nat → El q) (i j : Nat) : El q := C i j * (C i 0).inv
/-- the parity rows -/
def parE (q : FP) (k N : Nat) : Nat → Nat → El q := rowE (colE (jG q k N))

section
variable {G : Nat → Nat → El q} {i j : Nat}
theorem col_first (h : G 0 j ≠ 0) : colE G 0 j = 1 := El.mul_inv h
theorem col_ne (h : G i j ≠ 0) (h0 : G 0 j ≠ 0) : colE G i j ≠ 0 := El.mul_ne h (El.inv_ne h0)
theorem row_same (h : G 0 0 ≠ 0) : rowE (colE G) 0 j = colE G 0 j := by unfold rowE; rw [col_first h, El.inv_one, El.mul_one]
theorem row_first (h : G i 0 ≠ 0) (h0 : G 0 0 ≠ 0) : rowE (colE G) i 0 = 1 := El.mul_inv (col_ne h h0)
theorem row_ne (h : G i j ≠ 0) (h0 : G 0 j ≠ 0) (h1 : G i 0 ≠ 0) (h2 : G 0 0 ≠ 0) : rowE (colE G) i j ≠ 0 := El.mul_ne (col_ne h h0) (El.inv_ne (col_ne h1 h2))
/-- what the law of scaled rows says -/
theorem row_scaled (h0 : G 0 j ≠ 0) (h1 : G i 0 ≠ 0) (h2 : G 0 0 ≠ 0) : rowE (colE G) i j * (G 0 j * G i 0) = G i j * G 0 0 := by
  have e1 : G i 0 = colE G i 0 * G 0 0 := by
    unfold colE
    rw [El.mul_assoc, El.inv_mul h2, El.mul_one]
  have hx : colE G i 0 ≠ 0 := col_ne h1 h2
  unfold rowE
  rw [e1]
  obtain ⟨x, ex⟩ : ∃ x, colE G i 0 = x := ⟨_, rfl⟩
  rw [ex] at hx ⊢
  unfold colE
  have e2 : G i j * (G 0 j).inv * x.inv * (G 0 j * (x * G 0 0)) = G i j * G 0 0 * (((G 0 j).inv * G 0 j) * (x.inv * x)) := by ac_rfl
  rw [e2, El.inv_mul h0, El.inv_mul hx, El.mul_one, El.mul_one]
end

/-- any k rows of the identity and parity behind it -/
theorem par_any {k m : Nat} (hm : 1 ≤ m) (hN : ((k + m : Nat) : Int) ≤ M.ord q.p) (f : Nat → Nat) (hf : ∀ i, i < k → f i < k + m) (hu : ∀ i j, i < k → j < k → f i = f j → i = j) :
    rk k (fun i j => joinE k dl (parE q k (k + m)) (f i) j) k = k := by
  have hG : ∀ i, i < m → ∀ j, j < k → jG q k (k + m) i j ≠ 0 := fun i hi j hj => sysJ_ne hN (by omega) (by omega) hj
  have hs := scale_full (F := fun i j => sysJ q k (k + m) (f i) j) (s := fun i => if f i < k then jG q k (k + m) 0 (f i) else (colE (jG q k (k + m)) (f i - k) 0).inv) (t := fun j => (jG q k (k + m) 0 j).inv)
    (sysJ_any hN (by omega) hf hu) (fun i hi => by
      have h1 := hf i hi
      split
      · exact hG 0 (by omega) _ (by omega)
      · exact El.inv_ne (col_ne (hG _ (by omega) 0 (by omega)) (hG 0 (by omega) 0 (by omega)))) (fun j hj => El.inv_ne (hG 0 (by omega) j hj))
  refine Eq.trans (rk_congr (fun i hi j hj => ?_)) hs
  have h1 := hf i hi
  unfold joinE
  by_cases e : f i < k
  · rw [if_pos e, if_pos e, sysJ_id hN (by omega) e hj]
    by_cases e2 : f i = j
    · rw [e2, dl_self, El.one_mul, El.mul_inv (hG 0 (by omega) j hj)]
    · rw [dl_ne e2, El.zero_mul, El.mul_zero]
  · rw [if_neg e, if_neg e]
    show colE (jG q k (k + m)) (f i - k) j * (colE (jG q k (k + m)) (f i - k) 0).inv = _
    rw [El.mul_comm]
    congr 1
    unfold colE jG
    rw [show k + (f i - k) = f i by omega]
end
end Go.Proofs.YtgcochamjicjiaaGreat
