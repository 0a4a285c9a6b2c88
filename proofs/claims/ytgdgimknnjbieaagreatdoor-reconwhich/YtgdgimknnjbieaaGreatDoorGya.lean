/- Layer 11: products of rows of bytes, added: of sums of rows; of rows that differ in one alone: plain mathematics. Layer 11: a profile's parity rows: no number is 0; Jerasure's first row and ISA-L's are 1s: plain mathematics. Layer 11: what is parity, what is encoded, what is verified: plain mathematics. -/
import Derived.Test.YtgdgimknnjbieaaGreatDoorGye
import Derived.Test.YtgdgimknnjbieaaGreatDoorGxw
import Derived.Test.YtgdgimknnjbieaaGreatDoorGxr
import Derived.Test.YtgdgimknnjbieaaGreatDoorGxy

namespace Go.Proofs.YtgdgimknnjbieaaGreatDoor

section
variable {p wd n : Nat}
theorem mulB_congr (hw : Wide wd n (M.ord p)) {a : Int} {f g : Nat → Nat} {m : Nat} (h : ∀ j, j < n * m → f j = g j) {i : Nat} (hi : i < n * m) : mulB p n a f i = mulB p n a g i :=
  byt_congr hw (fun j hj => by rw [word_congr hw h hj]) hi

theorem dotB_two (cs : Nat → Int) (F : Nat → Nat → Nat) (N i : Nat) : dotB p n cs F (N + 2) i = dotB p n cs F (N + 1) i ^^^ mulB p n (cs (N + 1)) (F (N + 1)) i := dotB_succ p n cs F (Nat.succ_pos N) i

theorem dotB_congr (hw : Wide wd n (M.ord p)) {cs : Nat → Int} {F G : Nat → Nat → Nat} {m i : Nat} (hi : i < n * m) :
    ∀ N, 0 < N → (∀ r, r < N → ∀ j, j < n * m → F r j = G r j) → dotB p n cs F N i = dotB p n cs G N i
  | 0, h, _ => absurd h (Nat.lt_irrefl _)
  | 1, _, h => by rw [dotB_one, dotB_one]; exact mulB_congr hw (h 0 (by omega)) hi
  | N + 2, _, h => by
    rw [dotB_two, dotB_two, dotB_congr hw hi (N + 1) (by omega) (fun r hr => h r (by omega)), mulB_congr hw (h (N + 1) (by omega)) hi]

/-- rows alike -/
theorem dotB_rows {cs : Nat → Int} {F G : Nat → Nat → Nat} {i : Nat} : ∀ N, 0 < N → (∀ r, r < N → F r = G r) → dotB p n cs F N i = dotB p n cs G N i
  | 0, h, _ => absurd h (Nat.lt_irrefl _)
  | 1, _, h => by rw [dotB_one, dotB_one, h 0 (by omega)]
  | N + 2, _, h => by
    rw [dotB_two, dotB_two, dotB_rows (N + 1) (by omega) (fun r hr => h r (by omega)), h (N + 1) (by omega)]

/-- all numbers 1: rows are added -/
theorem dotB_ones (hg : Good p wd) (hw : Wide wd n (M.ord p)) {cs : Nat → Int} {F : Nat → Nat → Nat} (hF : ∀ r j, F r j < 256) (i : Nat) :
    ∀ N, 0 < N → (∀ r, r < N → cs r = 1) → dotB p n cs F N i = sumB (F 0) (fun r => F (1 + r)) (N - 1) i
  | 0, h, _ => absurd h (Nat.lt_irrefl _)
  | 1, _, h => by rw [dotB_one, h 0 (by omega)]; exact mulB_one hg hw (hF 0) i
  | N + 2, _, h => by
    rw [dotB_two, dotB_ones hg hw hF i (N + 1) (by omega) (fun r hr => h r (by omega)), h (N + 1) (by omega), mulB_one hg hw (hF (N + 1)) i]
    show _ = sumB (F 0) (fun r => F (1 + r)) N i ^^^ F (1 + N) i
    rw [Nat.add_sub_cancel, Nat.add_comm 1 N]

/-- rows that differ in row c alone: sums differ by its product's difference -/
theorem dotB_diff (hw : Wide wd n (M.ord p)) {cs : Nat → Int} {c : Nat} {F G : Nat → Nat → Nat} {m i : Nat} (hi : i < n * m) :
    ∀ N, c < N → (∀ r, r < N → r ≠ c → ∀ j, j < n * m → F r j = G r j) → dotB p n cs F N i ^^^ dotB p n cs G N i = mulB p n (cs c) (F c) i ^^^ mulB p n (cs c) (G c) i
  | 0, h, _ => absurd h (Nat.not_lt_zero _)
  | 1, h, _ => by
    obtain rfl : c = 0 := by omega
    rw [dotB_one, dotB_one]
  | N + 2, h, hs => by
    rw [dotB_two, dotB_two]
    have e : ∀ a b x y : Nat, (a ^^^ b) ^^^ (x ^^^ y) = (a ^^^ x) ^^^ (b ^^^ y) := fun a b x y => by ac_rfl
    rw [e]
    by_cases hc : c = N + 1
    · subst hc
      rw [dotB_congr hw hi (N + 1) (by omega) (fun r hr => hs r (by omega) (by omega)), Nat.xor_self, Nat.zero_xor]
    · rw [dotB_diff hw hi (N + 1) (by omega) (fun r hr => hs r (by omega)), mulB_congr hw (hs (N + 1) (by omega) (fun e => hc e.symm)) hi, Nat.xor_self, Nat.xor_zero]

end
end Go.Proofs.YtgdgimknnjbieaaGreatDoor

namespace Go.Proofs.YtgdgimknnjbieaaGreatDoor

theorem rows_ones_j {p : Int} {k m : Nat} (h : mayX p k m) (hp : p = 1) {j : Nat} (hj : j < k) : ivs (rowsE p k m) 0 j = 1 := by
  have HO := (goodP p).kind.bounds
  subst hp
  obtain ⟨h0, h1, h2, h3⟩ := h
  have h4 := (max_pos h0).2
  have hm : 1 ≤ m := by omega
  have hN : ((k + m : Nat) : Int) ≤ M.ord (qP 1).p := by omega
  have hG : ∀ i, i < m → ∀ j, j < k → jG (qP 1) k (k + m) i j ≠ 0 := fun i hi j hj => sysJ_ne hN (by omega) (by omega) hj
  have e : parE (qP 1) k (k + m) 0 j = 1 := (row_same (hG 0 (by omega) 0 (by omega))).trans (col_first (hG 0 (by omega) j hj))
  show ((parE (qP 1) k (k + m) 0 j).val : Int) = 1
  rw [e]
  rfl
theorem rows_ones_i {p : Int} {k m : Nat} (hp : p = 3) (j : Nat) : ivs (rowsE p k m) 0 j = 1 := by
  subst hp
  show ((ep (1 : El (qP 3)) j).val : Int) = 1
  have e : ∀ k, ep (1 : El (qP 3)) k = 1 := fun k => by
    induction k with
    | zero => rfl
    | succ k ih => rw [ep, ih, El.one_mul]
  rw [e]
  rfl
/-- Jerasure's first parity row, and ISA-L's, is 1s -/
theorem rows_ones {p : Int} {k m : Nat} (h : mayX p k m) (hp : p = 1 ∨ p = 3) {j : Nat} (hj : j < k) : ivs (rowsE p k m) 0 j = 1 := by
  rcases hp with hp | hp
  · exact rows_ones_j h hp hj
  · exact rows_ones_i hp j
end Go.Proofs.YtgdgimknnjbieaaGreatDoor

namespace Go.Proofs.YtgdgimknnjbieaaGreatDoor

/-- bytes a number, in a profile's field -/
def nP (p : Int) : Nat := if p = 2 then 2 else 1
theorem wideP (p : Int) : Wide (wdP p) (nP p) (M.ord (qP p).p) := by
  unfold wdP nP qP
  split
  · exact Or.inr ⟨rfl, rfl, rfl⟩
  · exact Or.inl ⟨rfl, rfl, rfl⟩

/-- are rows all as long, of whole numbers? -/
def evenP (p : Int) (N : Nat) (Ls : Nat → Nat) : Prop := ∀ r, r < N → Ls r = Ls 0 ∧ Ls r % nP p = 0
/-- is there parity of these rows? -/
def parP (p k m : Int) (N : Nat) (Ls : Nat → Nat) : Prop := mayX p k m ∧ (N : Int) = k ∧ evenP p N Ls
/-- byte j of parity row i -/
def parF (p : Int) (k m : Nat) (F : Nat → Nat → Nat) (i : Nat) : Nat → Nat := dotB (qP p).p (nP p) (fun c => ivs (rowsE p k m) i c) F k
theorem parF_lt {p : Int} {k m : Nat} {F : Nat → Nat → Nat} (i j : Nat) : parF p k m F i j < 256 := dotB_lt _ _ _ _ _ _
/-- are shards verified? -/
def verP (p k m : Int) (N : Nat) (Ls : Nat → Nat) (F : Nat → Nat → Nat) : Prop :=
  mayX p k m ∧ (N : Int) = k + m ∧ evenP p k.toNat Ls ∧ ∀ i, i < m.toNat → Ls (k.toNat + i) = Ls 0 ∧ ∀ j, j < Ls 0 → F (k.toNat + i) j = parF p k.toNat m.toNat F i j
/-- all shards of what is encoded -/
def encF (p : Int) (K m S n : Nat) (f : Nat → Nat) : Nat → Nat → Nat := fun r j => if r < K then splF p S n f r j else parF p K m (splF p S n f) (r - K) j

theorem parF_rows {p : Int} {k m i : Nat} {F G : Nat → Nat → Nat} (hk : 0 < k) (h : ∀ r, r < k → F r = G r) : parF p k m F i = parF p k m G i := funext fun _ => dotB_rows k hk h
/-- the first parity shard of profiles 1 and 3 -/
theorem parF_ones {p : Int} {k m : Nat} {F : Nat → Nat → Nat} (h : mayX p k m) (hp : p = 1 ∨ p = 3) (hF : ∀ r j, F r j < 256) (j : Nat) : parF p k m F 0 j = sumB (F 0) (fun r => F (1 + r)) (k - 1) j :=
  dotB_ones (goodP p) (wideP p) hF j k (by have := h.2.1; omega) (fun r hr => rows_ones h hp hr)

/-- a shard's size is of whole numbers -/
theorem sz_even {p k m : Int} {n : Nat} (h : szE p k m n = 0) : szN p k m n % nP p = 0 := by
  obtain ⟨K, rfl, k1, _, hn, hm⟩ := sz_ok h
  rw [(szE_ok hm hn).1]
  have h1 := (szU_ge (u := unitL (layI p)) (K := K) (m := aheadL (layI p) + n) (unitL_pos _).1 k1).2.2.1
  by_cases hp : p = 2
  · subst hp
    have e : unitL (layI 2) = 8 := rfl
    rw [e] at h1 ⊢
    show _ % 2 = 0
    omega
  · unfold nP
    rw [if_neg hp]
    exact Nat.mod_one _

theorem splF_lt {p : Int} {S n : Nat} {f : Nat → Nat} (hf : ∀ j, f j < 256) (r j : Nat) : splF p S n f r j < 256 := laidB_lt hf _
theorem encF_lt {p : Int} {K m S n : Nat} {f : Nat → Nat} (hf : ∀ j, f j < 256) (r j : Nat) : encF p K m S n f r j < 256 := by
  unfold encF
  split
  · exact splF_lt hf r j
  · exact parF_lt _ _
end Go.Proofs.YtgdgimknnjbieaaGreatDoor
