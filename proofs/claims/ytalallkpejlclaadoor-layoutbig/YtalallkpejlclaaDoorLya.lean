/- Layer 10, plain mathematics: how many bytes a shard has; what is laid of bytes; bytes as strings; what shards are of. -/
import Derived.Test.YtalallkpejlclaaDoorBsa
namespace Go.Proofs.YtalallkpejlclaaDoor
open Go.RowKit

/-- a layout's unit, and how many bytes it lays ahead -/
def unitL (l : Int) : Nat := if l = 106 then 8 else if l = 105 then 16 else 1
def aheadL (l : Int) : Nat := if l = 98 then 4 else 0
theorem unitL_pos (l : Int) : 1 ≤ unitL l ∧ unitL l ≤ 16 := by unfold unitL; split; omega; split <;> omega
theorem aheadL_le (l : Int) : aheadL l ≤ 4 := by unfold aheadL; split <;> omega

/-- the least multiple of u, one at least, of which K times are m or more -/
def szU (u K m : Nat) : Nat := u * max 1 ((m + K * u - 1) / (K * u))

theorem szU_least {u K m t : Nat} (hu : 1 ≤ u) (hK : 1 ≤ K) (ht : 1 ≤ t) (h1 : m ≤ K * (u * t)) (h2 : t = 1 ∨ K * (u * (t - 1)) < m) : szU u K m = u * t := by
  obtain ⟨q, hq⟩ : ∃ q, K * u = q := ⟨_, rfl⟩
  have hq1 : 1 ≤ q := by rw [← hq]; exact Nat.mul_pos hK hu
  rw [← Nat.mul_assoc, hq] at h1
  unfold szU
  rw [hq]
  congr 1
  obtain ⟨d, hd⟩ : ∃ d, (m + q - 1) / q = d := ⟨_, rfl⟩
  have h3 := Nat.div_add_mod (m + q - 1) q
  have h4 := Nat.mod_lt (m + q - 1) (show q > 0 by omega)
  rw [hd] at h3 ⊢
  have hle : d ≤ t := by
    refine Nat.le_of_lt_succ (Nat.lt_of_mul_lt_mul_left (a := q) ?_)
    rw [Nat.mul_succ]
    omega
  rcases h2 with rfl | h2
  · omega
  · rw [← Nat.mul_assoc, hq] at h2
    have hge : t - 1 < d := by
      refine Nat.lt_of_mul_lt_mul_left (a := q) ?_
      omega
    omega
theorem szU_parts (u K m : Nat) (hu : 1 ≤ u) (hK : 1 ≤ K) : ∃ t, 1 ≤ t ∧ szU u K m = u * t ∧ m ≤ K * (u * t) ∧ (t = 1 ∨ K * (u * (t - 1)) < m) := by
  obtain ⟨q, hq⟩ : ∃ q, K * u = q := ⟨_, rfl⟩
  have hq1 : 1 ≤ q := by rw [← hq]; exact Nat.mul_pos hK hu
  obtain ⟨d, hd⟩ : ∃ d, (m + q - 1) / q = d := ⟨_, rfl⟩
  have h3 := Nat.div_add_mod (m + q - 1) q
  have h4 := Nat.mod_lt (m + q - 1) (show q > 0 by omega)
  rw [hd] at h3
  refine ⟨max 1 d, by omega, by unfold szU; rw [hq, hd], ?_, ?_⟩
  · rw [← Nat.mul_assoc, hq]
    have : q * d ≤ q * max 1 d := Nat.mul_le_mul_left q (by omega)
    omega
  · by_cases h : d ≤ 1
    · exact Or.inl (by omega)
    · refine Or.inr ?_
      rw [← Nat.mul_assoc, hq, show max 1 d = d by omega]
      have : q * (d - 1) + q = q * d := by rw [← Nat.mul_succ]; congr 1; omega
      omega
theorem szU_ge {u K m : Nat} (hu : 1 ≤ u) (hK : 1 ≤ K) : m ≤ K * szU u K m ∧ u ≤ szU u K m ∧ szU u K m % u = 0 ∧ (szU u K m = u ∨ K * (szU u K m - u) < m) := by
  obtain ⟨t, h1, h2, h3, h4⟩ := szU_parts u K m hu hK
  rw [h2]
  refine ⟨h3, Nat.le_mul_of_pos_right u h1, Nat.mul_mod_right u t, ?_⟩
  rcases h4 with rfl | h4
  · exact Or.inl (Nat.mul_one u)
  · refine Or.inr ?_
    rwa [Nat.mul_sub, Nat.mul_one] at h4
theorem szU_mono {u K m m' : Nat} (h : m ≤ m') : szU u K m ≤ szU u K m' := by
  unfold szU
  refine Nat.mul_le_mul_left u ?_
  have : (m + K * u - 1) / (K * u) ≤ (m' + K * u - 1) / (K * u) := Nat.div_le_div_right (by omega)
  omega
/-- no more than room for all, and a unit -/
theorem szU_le {u K m : Nat} (hu : 1 ≤ u) (hK : 1 ≤ K) : szU u K m ≤ m + u := by
  obtain ⟨_, _, _, h⟩ := szU_ge (m := m) hu hK
  rcases h with h | h
  · omega
  · have : szU u K m - u ≤ K * (szU u K m - u) := Nat.le_mul_of_pos_left _ hK
    omega

/-- what is laid of the n bytes f: byte i; a bytes stand ahead -/
def laidB (a n : Nat) (f : Nat → Nat) (i : Nat) : Nat := if i < a then n / 256 ^ (3 - i) % 256 else if i - a < n then f (i - a) else 0
theorem laidB_lt {a n : Nat} {f : Nat → Nat} (hf : ∀ j, f j < 256) (i : Nat) : laidB a n f i < 256 := by
  unfold laidB
  split
  · exact Nat.mod_lt _ (by omega)
  · split
    · exact hf _
    · omega
theorem laidB_congr {a n : Nat} {f g : Nat → Nat} (h : ∀ j, j < n → f j = g j) (i : Nat) : laidB a n f i = laidB a n g i := by
  unfold laidB
  split
  · rfl
  · split
    · exact h _ ‹_›
    · rfl
theorem laidB_out {a n : Nat} {f : Nat → Nat} {i : Nat} (h : a + n ≤ i) : laidB a n f i = 0 := by
  unfold laidB
  rw [if_neg (by omega), if_neg (by omega)]
theorem laidB_at {a n : Nat} {f : Nat → Nat} {i : Nat} (h : i < n) : laidB a n f (a + i) = f i := by
  unfold laidB
  rw [if_neg (by omega), show a + i - a = i by omega, if_pos h]
theorem laidB_head {n : Nat} {f : Nat → Nat} : laidB 4 n f 0 = n / 16777216 % 256 ∧ laidB 4 n f 1 = n / 65536 % 256 ∧ laidB 4 n f 2 = n / 256 % 256 ∧ laidB 4 n f 3 = n % 256 := by
  refine ⟨?_, ?_, ?_, ?_⟩ <;> simp [laidB]

/-- the bytes of shards, one behind the other, each S long -/
def catF (S : Nat) (F : Nat → Nat → Nat) (i : Nat) : Nat := F (i / S) (i % S)
theorem catF_at {S r j : Nat} {F : Nat → Nat → Nat} (hj : j < S) : catF S F (r * S + j) = F r j := by
  unfold catF
  rw [Nat.mul_comm r S, Nat.mul_add_div (by omega), Nat.div_eq_of_lt hj, Nat.add_zero, Nat.mul_add_mod, Nat.mod_eq_of_lt hj]
theorem catF_split {S i : Nat} {G : Nat → Nat} : catF S (fun r j => G (r * S + j)) i = G i := by
  show G (i / S * S + i % S) = G i
  rw [Nat.mul_comm, Nat.div_add_mod]
theorem row_lt {K S i : Nat} (h : i < K * S) : i / S < K ∧ i % S < S := by
  have hS : 0 < S := by
    rcases Nat.eq_zero_or_pos S with h0 | h0
    · subst h0; simp at h
    · exact h0
  exact ⟨Nat.div_lt_of_lt_mul (by rwa [Nat.mul_comm] at h), Nat.mod_lt _ hS⟩
theorem at_lt {K S r j : Nat} (hr : r < K) (hj : j < S) : r * S + j < K * S := by
  have : (r + 1) * S ≤ K * S := Nat.mul_le_mul_right S hr
  rw [Nat.add_mul, Nat.one_mul] at this
  omega
/-- what the first four bytes say -/
def saysF (c : Nat → Nat) : Nat := ((c 0 * 256 + c 1) * 256 + c 2) * 256 + c 3
theorem saysF_lt {c : Nat → Nat} (h : ∀ j, c j < 256) : saysF c < 4294967296 := by
  have h0 := h 0
  have h1 := h 1
  have h2 := h 2
  have h3 := h 3
  unfold saysF
  omega
/-- how many bytes Join is to tell -/
def numJ (l n : Int) (c : Nat → Nat) : Int := if l = 98 then saysF c else n
/-- are the shards Split of some bytes? -/
def joinP (l : Int) (K S : Nat) (n : Int) (F : Nat → Nat → Nat) : Prop :=
  aheadL l ≤ K * S ∧ 0 ≤ numJ l n (catF S F) ∧ numJ l n (catF S F) ≤ 4096 ∧ szU (unitL l) K (aheadL l + (numJ l n (catF S F)).toNat) = S ∧
    ∀ r, r < K → ∀ j, j < S → laidB (aheadL l) (numJ l n (catF S F)).toNat (fun i => catF S F (aheadL l + i)) (r * S + j) = F r j

/-- what was split is joined -/
theorem join_split {l : Int} {K n : Nat} (hK : 1 ≤ K) (hn : n ≤ 4096) (f : Nat → Nat) :
    joinP l K (szU (unitL l) K (aheadL l + n)) n (fun r j => laidB (aheadL l) n f (r * szU (unitL l) K (aheadL l + n) + j)) ∧
    numJ l n (catF (szU (unitL l) K (aheadL l + n)) (fun r j => laidB (aheadL l) n f (r * szU (unitL l) K (aheadL l + n) + j))) = n ∧
    ∀ i, i < n → catF (szU (unitL l) K (aheadL l + n)) (fun r j => laidB (aheadL l) n f (r * szU (unitL l) K (aheadL l + n) + j)) (aheadL l + i) = f i := by
  obtain ⟨h1, h2, _, _⟩ := szU_ge (u := unitL l) (K := K) (m := aheadL l + n) (unitL_pos l).1 hK
  obtain ⟨S, hS⟩ : ∃ S, szU (unitL l) K (aheadL l + n) = S := ⟨_, rfl⟩
  rw [hS] at h1 h2 ⊢
  have hc : ∀ i, catF S (fun r j => laidB (aheadL l) n f (r * S + j)) i = laidB (aheadL l) n f i := fun i => catF_split (G := laidB (aheadL l) n f)
  have hn' : numJ l n (catF S (fun r j => laidB (aheadL l) n f (r * S + j))) = n := by
    unfold numJ
    split
    · rename_i hl
      subst hl
      unfold saysF
      rw [hc, hc, hc, hc]
      obtain ⟨e0, e1, e2, e3⟩ := laidB_head (n := n) (f := f)
      rw [show aheadL 98 = 4 from rfl, e0, e1, e2, e3]
      omega
    · rfl
  have hi : ∀ i, i < n → catF S (fun r j => laidB (aheadL l) n f (r * S + j)) (aheadL l + i) = f i := fun i hi => by rw [hc, laidB_at hi]
  refine ⟨⟨by omega, by rw [hn']; omega, by rw [hn']; omega, by rw [hn', Int.toNat_natCast]; exact hS, fun r _ j _ => ?_⟩, hn', hi⟩
  rw [hn', Int.toNat_natCast]
  exact laidB_congr hi _

/-- bytes are the same strings just if they are the same -/
theorem strF_inj {f g : Nat → Nat} {n m : Nat} (hf : ∀ j, f j < 256) (hg : ∀ j, g j < 256) : strF f n = strF g m ↔ n = m ∧ ∀ j, j < n → f j = g j := by
  constructor
  · intro h
    have h1 := congrArg ByteArray.size h
    unfold strF at h1
    rw [strOfNums_size, strOfNums_size] at h1
    simp at h1
    subst h1
    refine ⟨rfl, fun j hj => ?_⟩
    have h2 := congrArg (fun x : ByteArray => x.data.toList[j]?) h
    unfold strF at h2
    simp only [strOfNums_data] at h2
    simp [List.getElem?_map, List.getElem?_range hj] at h2
    have h3 := congrArg UInt8.toNat h2
    simp [UInt8.toNat_ofNat'] at h3
    have := hf j
    have := hg j
    omega
  · rintro ⟨rfl, h⟩
    exact strF_congr h
theorem str_beq (x y : ByteArray) : (x.toList == y.toList) = true ↔ x = y := by
  rw [ByteArray.toList_eq, ByteArray.toList_eq, beq_iff_eq]
  constructor
  · intro h
    obtain ⟨⟨a⟩⟩ := x
    obtain ⟨⟨b⟩⟩ := y
    simp at h
    rw [h]
  · rintro rfl
    rfl
/-- two rows of bytes, compared as strings -/
theorem beq_rows {f g : Nat → Nat} {n m : Nat} (hf : ∀ j, f j < 256) (hg : ∀ j, g j < 256) : ((strF f n).toList == (strF g m).toList) = true ↔ n = m ∧ ∀ j, j < n → f j = g j := (str_beq _ _).trans (strF_inj hf hg)
theorem strF_lit {f : Nat → Nat} {n : Nat} {s : ByteArray} (h : s.size = n) (he : ∀ j, j < n → UInt8.ofNat (f j) = s.data.getD j 0) : strF f n = s := by
  obtain ⟨⟨l⟩⟩ := s
  have hl : l.length = n := h
  unfold strF strOfNums
  congr 2
  apply List.ext_getElem
  · simp [hl]
  · intro i h1 h2
    have h3 := he i (by omega)
    simp [h2] at h3 ⊢
    exact h3
end Go.Proofs.YtalallkpejlclaaDoor
