/- Layer 10, plain mathematics: how many bytes a shard has; what is laid of bytes; bytes as strings; what shards are of. Layer 10: contracts of unitOf, aheadOf, layoutOf and Size, and of the document's unit, layout and Size. Rows of bytes that are read; contracts of bytes.Equal, slices.EqualFunc over it, areAsLong, and of the document's Same and Few. Layer 10: contracts of headOf, headIn and says, of slices.Grow of nothing, and of slices.Concat of rows of bytes. What came in, as it is read: bytes, and rows of bytes, with what nil ones are. -/
import Derived.Test.YtbhpfdikkknijaaDoorBsa
import Derived.Test.YtbhpfdikkknijaaDoorGxv
import Derived.Lib.AppendZeros
import Derived.Deep.Matrix
import Derived.ChangeSlices

namespace Go.Proofs.YtbhpfdikkknijaaDoor
open Go.RowKit

/-- a layout's unit, and how many bytes it lays ahead -/
def unitL (l : Int) : Nat := if l = 106 then 8 else if l = 105 then 16 else 1
def aheadL (l : Int) : Nat := if l = 98 then 4 else 0
theorem unitL_pos (l : Int) : 1 ≤ unitL l ∧ unitL l ≤ 16 := by unfold unitL; split; omega; split <;> omega
theorem aheadL_le (l : Int) : aheadL l ≤ 4 := by unfold aheadL; split <;> omega

/-- the least multiple of u, one at least, of which K times are m or more -/
def szU (u K m : Nat) : Nat := u * max 1 ((m + K * u - 1) / (K * u))

theorem szU_least {u K m t : Nat} (hu : 1 ≤ u) (hK : 1 ≤ K) (ht : 1 ≤ t) (h1 : m ≤ K * (u * t)) (h2 : t = 1 ∨ K * (u * (t - 1)) < m) : szU u K m = u * t := by
  obtain ⟨q, hq⟩ : ∃ q, K * u = q := ⟨_, rfl⟩
  have hq1 : 1 ≤ q := by rw [← hq]; exact Nat.mul_pos hK hu
  rw [← Nat.mul_assoc, hq] at h1
  unfold szU
  rw [hq]
  congr 1
  obtain ⟨d, hd⟩ : ∃ d, (m + q - 1) / q = d := ⟨_, rfl⟩
  have h3 := Nat.div_add_mod (m + q - 1) q
  have h4 := Nat.mod_lt (m + q - 1) (show q > 0 by omega)
  rw [hd] at h3 ⊢
  have hle : d ≤ t := by
    refine Nat.le_of_lt_succ (Nat.lt_of_mul_lt_mul_left (a := q) ?_)
    rw [Nat.mul_succ]
    omega
  rcases h2 with rfl | h2
  · omega
  · rw [← Nat.mul_assoc, hq] at h2
    have hge : t - 1 < d := by
      refine Nat.lt_of_mul_lt_mul_left (a := q) ?_
      omega
    omega
theorem szU_parts (u K m : Nat) (hu : 1 ≤ u) (hK : 1 ≤ K) : ∃ t, 1 ≤ t ∧ szU u K m = u * t ∧ m ≤ K * (u * t) ∧ (t = 1 ∨ K * (u * (t - 1)) < m) := by
  obtain ⟨q, hq⟩ : ∃ q, K * u = q := ⟨_, rfl⟩
  have hq1 : 1 ≤ q := by rw [← hq]; exact Nat.mul_pos hK hu
  obtain ⟨d, hd⟩ : ∃ d, (m + q - 1) / q = d := ⟨_, rfl⟩
  have h3 := Nat.div_add_mod (m + q - 1) q
  have h4 := Nat.mod_lt (m + q - 1) (show q > 0 by omega)
  rw [hd] at h3
  refine ⟨max 1 d, by omega, by unfold szU; rw [hq, hd], ?_, ?_⟩
  · rw [← Nat.mul_assoc, hq]
    have : q * d ≤ q * max 1 d := Nat.mul_le_mul_left q (by omega)
    omega
  · by_cases h : d ≤ 1
    · exact Or.inl (by omega)
    · refine Or.inr ?_
      rw [← Nat.mul_assoc, hq, show max 1 d = d by omega]
      have : q * (d - 1) + q = q * d := by rw [← Nat.mul_succ]; congr 1; omega
      omega
theorem szU_ge {u K m : Nat} (hu : 1 ≤ u) (hK : 1 ≤ K) : m ≤ K * szU u K m ∧ u ≤ szU u K m ∧ szU u K m % u = 0 ∧ (szU u K m = u ∨ K * (szU u K m - u) < m) := by
  obtain ⟨t, h1, h2, h3, h4⟩ := szU_parts u K m hu hK
  rw [h2]
  refine ⟨h3, Nat.le_mul_of_pos_right u h1, Nat.mul_mod_right u t, ?_⟩
  rcases h4 with rfl | h4
  · exact Or.inl (Nat.mul_one u)
  · refine Or.inr ?_
    rwa [Nat.mul_sub, Nat.mul_one] at h4
theorem szU_mono {u K m m' : Nat} (h : m ≤ m') : szU u K m ≤ szU u K m' := by
  unfold szU
  refine Nat.mul_le_mul_left u ?_
  have : (m + K * u - 1) / (K * u) ≤ (m' + K * u - 1) / (K * u) := Nat.div_le_div_right (by omega)
  omega
/-- no more than room for all, and a unit -/
theorem szU_le {u K m : Nat} (hu : 1 ≤ u) (hK : 1 ≤ K) : szU u K m ≤ m + u := by
  obtain ⟨_, _, _, h⟩ := szU_ge (m := m) hu hK
  rcases h with h | h
  · omega
  · have : szU u K m - u ≤ K * (szU u K m - u) := Nat.le_mul_of_pos_left _ hK
    omega

/-- what is laid of the n bytes f: byte i; a bytes stand ahead -/
def laidB (a n : Nat) (f : Nat → Nat) (i : Nat) : Nat := if i < a then n / 256 ^ (3 - i) % 256 else if i - a < n then f (i - a) else 0
theorem laidB_lt {a n : Nat} {f : Nat → Nat} (hf : ∀ j, f j < 256) (i : Nat) : laidB a n f i < 256 := by
  unfold laidB
  split
  · exact Nat.mod_lt _ (by omega)
  · split
    · exact hf _
    · omega
theorem laidB_congr {a n : Nat} {f g : Nat → Nat} (h : ∀ j, j < n → f j = g j) (i : Nat) : laidB a n f i = laidB a n g i := by
  unfold laidB
  split
  · rfl
  · split
    · exact h _ ‹_›
    · rfl
theorem laidB_out {a n : Nat} {f : Nat → Nat} {i : Nat} (h : a + n ≤ i) : laidB a n f i = 0 := by
  unfold laidB
  rw [if_neg (by omega), if_neg (by omega)]
theorem laidB_at {a n : Nat} {f : Nat → Nat} {i : Nat} (h : i < n) : laidB a n f (a + i) = f i := by
  unfold laidB
  rw [if_neg (by omega), show a + i - a = i by omega, if_pos h]
theorem laidB_head {n : Nat} {f : Nat → Nat} : laidB 4 n f 0 = n / 16777216 % 256 ∧ laidB 4 n f 1 = n / 65536 % 256 ∧ laidB 4 n f 2 = n / 256 % 256 ∧ laidB 4 n f 3 = n % 256 := by
  refine ⟨?_, ?_, ?_, ?_⟩ <;> simp [laidB]

/-- the bytes of shards, one behind the other, each S long -/
def catF (S : Nat) (F : Nat → Nat → Nat) (i : Nat) : Nat := F (i / S) (i % S)
theorem catF_at {S r j : Nat} {F : Nat → Nat → Nat} (hj : j < S) : catF S F (r * S + j) = F r j := by
  unfold catF
  rw [Nat.mul_comm r S, Nat.mul_add_div (by omega), Nat.div_eq_of_lt hj, Nat.add_zero, Nat.mul_add_mod, Nat.mod_eq_of_lt hj]
theorem catF_split {S i : Nat} {G : Nat → Nat} : catF S (fun r j => G (r * S + j)) i = G i := by
  show G (i / S * S + i % S) = G i
  rw [Nat.mul_comm, Nat.div_add_mod]
theorem row_lt {K S i : Nat} (h : i < K * S) : i / S < K ∧ i % S < S := by
  have hS : 0 < S := by
    rcases Nat.eq_zero_or_pos S with h0 | h0
    · subst h0; simp at h
    · exact h0
  exact ⟨Nat.div_lt_of_lt_mul (by rwa [Nat.mul_comm] at h), Nat.mod_lt _ hS⟩
theorem at_lt {K S r j : Nat} (hr : r < K) (hj : j < S) : r * S + j < K * S := by
  have : (r + 1) * S ≤ K * S := Nat.mul_le_mul_right S hr
  rw [Nat.add_mul, Nat.one_mul] at this
  omega
/-- what the first four bytes say -/
def saysF (c : Nat → Nat) : Nat := ((c 0 * 256 + c 1) * 256 + c 2) * 256 + c 3
theorem saysF_lt {c : Nat → Nat} (h : ∀ j, c j < 256) : saysF c < 4294967296 := by
  have h0 := h 0
  have h1 := h 1
  have h2 := h 2
  have h3 := h 3
  unfold saysF
  omega
/-- how many bytes Join is to tell -/
def numJ (l n : Int) (c : Nat → Nat) : Int := if l = 98 then saysF c else n
/-- are the shards Split of some bytes? -/
def joinsP (l : Int) (K S : Nat) (n : Int) (F : Nat → Nat → Nat) : Prop :=
  aheadL l ≤ K * S ∧ 0 ≤ numJ l n (catF S F) ∧ numJ l n (catF S F) ≤ 4096 ∧ szU (unitL l) K (aheadL l + (numJ l n (catF S F)).toNat) = S ∧
    ∀ r, r < K → ∀ j, j < S → laidB (aheadL l) (numJ l n (catF S F)).toNat (fun i => catF S F (aheadL l + i)) (r * S + j) = F r j

/-- what was split is joined -/
theorem join_split {l : Int} {K n : Nat} (hK : 1 ≤ K) (hn : n ≤ 4096) (f : Nat → Nat) :
    joinsP l K (szU (unitL l) K (aheadL l + n)) n (fun r j => laidB (aheadL l) n f (r * szU (unitL l) K (aheadL l + n) + j)) ∧
    numJ l n (catF (szU (unitL l) K (aheadL l + n)) (fun r j => laidB (aheadL l) n f (r * szU (unitL l) K (aheadL l + n) + j))) = n ∧
    ∀ i, i < n → catF (szU (unitL l) K (aheadL l + n)) (fun r j => laidB (aheadL l) n f (r * szU (unitL l) K (aheadL l + n) + j)) (aheadL l + i) = f i := by
  obtain ⟨h1, h2, _, _⟩ := szU_ge (u := unitL l) (K := K) (m := aheadL l + n) (unitL_pos l).1 hK
  obtain ⟨S, hS⟩ : ∃ S, szU (unitL l) K (aheadL l + n) = S := ⟨_, rfl⟩
  rw [hS] at h1 h2 ⊢
  have hc : ∀ i, catF S (fun r j => laidB (aheadL l) n f (r * S + j)) i = laidB (aheadL l) n f i := fun i => catF_split (G := laidB (aheadL l) n f)
  have hn' : numJ l n (catF S (fun r j => laidB (aheadL l) n f (r * S + j))) = n := by
    unfold numJ
    split
    · rename_i hl
      subst hl
      unfold saysF
      rw [hc, hc, hc, hc]
      obtain ⟨e0, e1, e2, e3⟩ := laidB_head (n := n) (f := f)
      rw [show aheadL 98 = 4 from rfl, e0, e1, e2, e3]
      omega
    · rfl
  have hi : ∀ i, i < n → catF S (fun r j => laidB (aheadL l) n f (r * S + j)) (aheadL l + i) = f i := fun i hi => by rw [hc, laidB_at hi]
  refine ⟨⟨by omega, by rw [hn']; omega, by rw [hn']; omega, by rw [hn', Int.toNat_natCast]; exact hS, fun r _ j _ => ?_⟩, hn', hi⟩
  rw [hn', Int.toNat_natCast]
  exact laidB_congr hi _

/-- bytes are the same strings just if they are the same -/
theorem strF_inj {f g : Nat → Nat} {n m : Nat} (hf : ∀ j, f j < 256) (hg : ∀ j, g j < 256) : strF f n = strF g m ↔ n = m ∧ ∀ j, j < n → f j = g j := by
  constructor
  · intro h
    have h1 := congrArg ByteArray.size h
    unfold strF at h1
    rw [strOfNums_size, strOfNums_size] at h1
    simp at h1
    subst h1
    refine ⟨rfl, fun j hj => ?_⟩
    have h2 := congrArg (fun x : ByteArray => x.data.toList[j]?) h
    unfold strF at h2
    simp only [strOfNums_data] at h2
    simp [List.getElem?_map, List.getElem?_range hj] at h2
    have h3 := congrArg UInt8.toNat h2
    simp [UInt8.toNat_ofNat'] at h3
    have := hf j
    have := hg j
    omega
  · rintro ⟨rfl, h⟩
    exact strF_congr h
theorem str_beq (x y : ByteArray) : (x.toList == y.toList) = true ↔ x = y := by
  rw [ByteArray.toList_eq, ByteArray.toList_eq, beq_iff_eq]
  constructor
  · intro h
    obtain ⟨⟨a⟩⟩ := x
    obtain ⟨⟨b⟩⟩ := y
    simp at h
    rw [h]
  · rintro rfl
    rfl
/-- two rows of bytes, compared as strings -/
theorem beq_rows {f g : Nat → Nat} {n m : Nat} (hf : ∀ j, f j < 256) (hg : ∀ j, g j < 256) : ((strF f n).toList == (strF g m).toList) = true ↔ n = m ∧ ∀ j, j < n → f j = g j := (str_beq _ _).trans (strF_inj hf hg)
theorem strF_lit {f : Nat → Nat} {n : Nat} {s : ByteArray} (h : s.size = n) (he : ∀ j, j < n → UInt8.ofNat (f j) = s.data.getD j 0) : strF f n = s := by
  obtain ⟨⟨l⟩⟩ := s
  have hl : l.length = n := h
  unfold strF strOfNums
  congr 2
  apply List.ext_getElem
  · simp [hl]
  · intro i h1 h2
    have h3 := he i (by omega)
    simp [h2] at h3 ⊢
    exact h3
end Go.Proofs.YtbhpfdikkknijaaDoor

namespace Go.Proofs.YtbhpfdikkknijaaDoor
open Go.RowKit

theorem wrap64_n (q : Nat) (h : q ≤ 1000000000) : wrap64 (q : Int) = (q : Int) := by unfold wrap64; omega

/-- in the loop of the document's Size -/
def RSizeAt (u K M : Nat) (v : World) (s6 : Value) (wr : World) : Prop := ∃ t : Nat, 1 ≤ t ∧ u * t ≤ 5000 ∧ s6 = .int .i64 (u * t : Nat) ∧ (t = 1 ∨ K * (u * (t - 1)) < M) ∧ Below v.heap.size v wr
end Go.Proofs.YtbhpfdikkknijaaDoor

namespace Go.Proofs.YtbhpfdikkknijaaDoor
open Go.RowKit

/-- rows of bytes at A, n of them -/
def Bx (b : Nat) (w : World) (F : Nat → Nat → Nat) (Ls : Nat → Nat) (A : Option Addr) (n : Nat) : Prop :=
  ∃ (As : Nat → Option Addr) (Cs : Nat → Nat), Rd b w (slis As Ls Cs) A n ∧ ∀ r, r < n → Rd b w (u8s (F r)) (As r) (Ls r)
theorem Bx.zero {b : Nat} {w : World} {F : Nat → Nat → Nat} {Ls : Nat → Nat} {A : Option Addr} : Bx b w F Ls A 0 := ⟨fun _ => none, fun _ => 0, Rd.zero, fun r hr => absurd hr (by omega)⟩
theorem Bx.below {b : Nat} {w w' : World} {F : Nat → Nat → Nat} {Ls : Nat → Nat} {A : Option Addr} {n : Nat} (h : Bx b w F Ls A n) (hb : Below w.heap.size w w') : Bx b w' F Ls A n := by
  obtain ⟨As, Cs, h1, h2⟩ := h
  exact ⟨As, Cs, h1.below hb, fun r hr => (h2 r hr).below hb⟩
theorem Bx.congr {b : Nat} {w : World} {F G : Nat → Nat → Nat} {Ls Ms : Nat → Nat} {A : Option Addr} {n : Nat} (h : Bx b w F Ls A n) (hl : ∀ r, r < n → Ls r = Ms r) (he : ∀ r, r < n → ∀ j, j < Ls r → F r j = G r j) : Bx b w G Ms A n := by
  obtain ⟨As, Cs, h1, h2⟩ := h
  refine ⟨As, Cs, h1.congr (fun j hj => by simp only [slis]; rw [hl j hj]), fun r hr => ?_⟩
  rw [← hl r hr]
  exact (h2 r hr).congr (fun j hj => by simp only [u8s]; rw [he r hr j hj])
/-- rows that are told -/
def RowsTold (n : Nat) (F : Nat → Nat → Nat) (Ls : Nat → Nat) (w : World) (v : Value) (w' : World) : Prop := ∃ A c, v = .slice A n c ∧ n ≤ c ∧ (∀ b, b < w.heap.size → Bx b w' F Ls A n) ∧ Below w.heap.size w w'
theorem RowsTold.nil {F : Nat → Nat → Nat} {Ls : Nat → Nat} {w w' : World} (h : Below w.heap.size w w') : RowsTold 0 F Ls w nilS w' := ⟨none, 0, rfl, Nat.le_refl _, fun _ _ => Bx.zero, h⟩
theorem RowsTold.from {n : Nat} {F : Nat → Nat → Nat} {Ls : Nat → Nat} {w w1 w' : World} {v : Value} (hb : Below w.heap.size w w1) (h : RowsTold n F Ls w1 v w') : RowsTold n F Ls w v w' := by
  obtain ⟨A, c, h1, h2, h3, h4⟩ := h
  exact ⟨A, c, h1, h2, fun b hb' => h3 b (Nat.lt_of_lt_of_le hb' hb.size), below_tr hb h4⟩
/-- the rows in a list have room for all their bytes -/
def Caps (w : World) (A : Option Addr) (n : Nat) : Prop := ∀ r, r < n → ∀ ad, A = some ad → ∃ B l c, w.cell? (ad.add r) = some (.slice B l c) ∧ l ≤ c
theorem Caps.zero (w : World) (A : Option Addr) : Caps w A 0 := fun _ h => absurd h (Nat.not_lt_zero _)
theorem Caps.of_rd {b n : Nat} {w : World} {As : Nat → Option Addr} {Ls Cs : Nat → Nat} {A : Option Addr} (h : Rd b w (slis As Ls Cs) A n) (hc : ∀ r, r < n → Ls r ≤ Cs r) : Caps w A n := fun r hr ad e => by
  obtain ⟨ad', e', h1⟩ := h.at_ hr
  rw [e] at e'
  injection e' with e'
  subst e'
  exact ⟨_, _, _, h1, hc r hr⟩
theorem Caps.room {b n : Nat} {w : World} {As : Nat → Option Addr} {Ls Cs : Nat → Nat} {A : Option Addr} (h : Caps w A n) (hr : Rd b w (slis As Ls Cs) A n) {r : Nat} (hrn : r < n) : Ls r ≤ Cs r := by
  obtain ⟨ad, e, h1⟩ := hr.at_ hrn
  obtain ⟨B, l, c, h2, h3⟩ := h r hrn ad e
  rw [h1] at h2
  injection h2 with h2
  injection h2 with _ h4 h5
  omega
/-- the list that is told first is such -/
def OutCaps (e : Ending) (w' : World) : Prop := ∀ A n c x, e = .returned (.tuple #[.slice A n c, x]) → Caps w' A n
theorem OutCaps.of {w' : World} {A : Option Addr} {n c : Nat} {x : Value} (h : Caps w' A n) : OutCaps (.returned (.tuple #[.slice A n c, x])) w' := fun A' n' c' x' e => by
  injection e with e
  injection e with e
  injection e with e
  injection e with e _
  injection e with e1 e2 _
  subst e1 e2
  exact h
/-- bytes that are told, apart from all that lay there -/
def BytesOut (n : Nat) (k : Nat → Nat) (w : World) (v : Value) (w' : World) : Prop := ∃ A c, v = .slice A n c ∧ n ≤ c ∧ (∀ b, b < w.heap.size → Rd b w' (u8s k) A n) ∧ Below w.heap.size w w'
theorem BytesOut.nil {k : Nat → Nat} {w w' : World} (h : Below w.heap.size w w') : BytesOut 0 k w nilS w' := ⟨none, 0, rfl, Nat.le_refl _, fun _ _ => Rd.zero, h⟩
theorem BytesOut.from {n : Nat} {k : Nat → Nat} {w w1 w' : World} {v : Value} (hb : Below w.heap.size w w1) (h : BytesOut n k w1 v w') : BytesOut n k w v w' := by
  obtain ⟨A, c, h1, h2, h3, h4⟩ := h
  exact ⟨A, c, h1, h2, fun b hb' => h3 b (Nat.lt_of_lt_of_le hb' hb.size), below_tr hb h4⟩

/-- are two lists of rows the same? -/
def sameP (n m : Nat) (Ls Ms : Nat → Nat) (F G : Nat → Nat → Nat) : Prop := n = m ∧ ∀ r, r < n → Ls r = Ms r ∧ ∀ j, j < Ls r → F r j = G r j
def SameSaid (n m : Nat) (Ls Ms : Nat → Nat) (F G : Nat → Nat → Nat) (w : World) (e : Ending) (w' : World) : Prop := ∃ t, e = .returned (.bool t) ∧ (t = true ↔ sameP n m Ls Ms F G) ∧ Below w.heap.size w w'

/-- in the loops that ask whether rows are the same -/
def SameAt (n : Nat) (Ls Ms : Nat → Nat) (F G : Nat → Nat → Nat) (w : World) (s : Value) (wr : World) : Prop :=
  ∃ k : Nat, k ≤ n ∧ s = .int .i64 k ∧ (∀ r, r < k → Ls r = Ms r ∧ ∀ j, j < Ls r → F r j = G r j) ∧ Below w.heap.size w wr
theorem SameSaid.no {n m : Nat} {Ls Ms : Nat → Nat} {F G : Nat → Nat → Nat} {w w' : World} (h : ¬ sameP n m Ls Ms F G) (hb : Below w.heap.size w w') : SameSaid n m Ls Ms F G w (.returned (.bool false)) w' := ⟨false, rfl, by simp [h], hb⟩
theorem SameSaid.yes {n m : Nat} {Ls Ms : Nat → Nat} {F G : Nat → Nat → Nat} {w w' : World} (h : sameP n m Ls Ms F G) (hb : Below w.heap.size w w') : SameSaid n m Ls Ms F G w (.returned (.bool true)) w' := ⟨true, rfl, by simp [h], hb⟩

/-- what Few tells -/
def FewSaid10 (N : Nat) (Ls : Nat → Nat) (w : World) (e : Ending) (w' : World) : Prop := ∃ t, e = .returned (.bool t) ∧ (t = true → N ≤ 12 ∧ ∀ r, r < N → Ls r ≤ 300) ∧ w = w'
end Go.Proofs.YtbhpfdikkknijaaDoor

namespace Go.Proofs.YtbhpfdikkknijaaDoor
open Go.RowKit

/-- four bytes, put together -/
theorem or_four (a b c d : Nat) (ha : a < 256) (hb : b < 256) (hc : c < 256) (hd : d < 256) :
    bits .or .i64 (bits .or .i64 (bits .or .i64 ((a : Int) * 16777216) ((b : Int) * 65536)) ((c : Int) * 256)) (d : Int) = ((((a * 256 + b) * 256 + c) * 256 + d : Nat) : Int) := by
  have e1 : a * 16777216 ||| b * 65536 = (a * 256 + b) * 65536 := by
    have := Nat.two_pow_add_eq_or_of_lt (i := 24) (b := b * 65536) (by omega) a
    rw [show a * 16777216 = 2 ^ 24 * a by omega, ← this]
    omega
  have e2 : (a * 256 + b) * 65536 ||| c * 256 = ((a * 256 + b) * 256 + c) * 256 := by
    have := Nat.two_pow_add_eq_or_of_lt (i := 16) (b := c * 256) (by omega) (a * 256 + b)
    rw [show (a * 256 + b) * 65536 = 2 ^ 16 * (a * 256 + b) by omega, ← this]
    omega
  have e3 : ((a * 256 + b) * 256 + c) * 256 ||| d = ((a * 256 + b) * 256 + c) * 256 + d := by
    have := Nat.two_pow_add_eq_or_of_lt (i := 8) (b := d) (by omega) ((a * 256 + b) * 256 + c)
    rw [show ((a * 256 + b) * 256 + c) * 256 = 2 ^ 8 * ((a * 256 + b) * 256 + c) by omega, ← this]
  rw [show (a : Int) * 16777216 = ((a * 16777216 : Nat) : Int) by omega, show (b : Int) * 65536 = ((b * 65536 : Nat) : Int) by omega, show (c : Int) * 256 = ((c * 256 : Nat) : Int) by omega,
    i64_or_nat _ _ (by omega) (by omega), e1, i64_or_nat _ _ (by omega) (by omega), e2, i64_or_nat _ _ (by omega) (by omega), e3]

theorem underB : Tryd.prog.underlying TBs = some (.slice TB) := Tryd.underlying23

theorem range_cat (f : Nat → Value) (n m : Nat) : (List.range (n + m)).map f = (List.range n).map f ++ (List.range m).map (fun j => f (n + j)) := by
  rw [List.range_add, List.map_append, List.map_map]
  rfl
theorem cat_step (F : Nat → Nat → Nat) (k S : Nat) : (List.range (k * S + S)).map (u8s (catF S F)) = (List.range (k * S)).map (u8s (catF S F)) ++ (List.range S).map (u8s (F k)) := by
  rw [range_cat]
  congr 1
  exact range_congr (fun j hj => by simp only [u8s]; rw [catF_at hj])
theorem one_u8s (f : Nat → Nat) (j : Nat) : (u8s f j).oneCell' = true := rfl

/-- in Concat's second loop -/
def LyConAt (F : Nat → Nat → Nat) (S N : Nat) (w : World) (s6 s27 : Value) (wr : World) : Prop :=
  ∃ k : Nat, k ≤ N ∧ s27 = .int .i64 k ∧ App w TB (u8s (catF S F)) (k * S) s6 wr
end Go.Proofs.YtbhpfdikkknijaaDoor

namespace Go.Proofs.YtbhpfdikkknijaaDoor
open Go.RowKit Go.ChangeShapes

/-- bytes that came in: nil ones have no room -/
def IsBytesN (w : World) (a : Option Addr) (len cap : Nat) : Prop := ∃ f : Nat → Nat, (∀ j, f j < 256) ∧ len ≤ cap ∧ (a = none → cap = 0) ∧ ∀ b, w.heap.size ≤ b → Rd b w (u8s f) a len
/-- rows of bytes that came in -/
def IsRowsN (w : World) (a : Option Addr) (len cap : Nat) : Prop :=
  ∃ (As : Nat → Option Addr) (Ls Cs : Nat → Nat) (F : Nat → Nat → Nat), (∀ r j, F r j < 256) ∧ len ≤ cap ∧ (∀ r, r < len → As r = none → Cs r = 0) ∧ (∀ b, w.heap.size ≤ b → Rd b w (slis As Ls Cs) a len) ∧ ∀ r, r < len → ∀ b, w.heap.size ≤ b → Rd b w (u8s (F r)) (As r) (Ls r)

theorem bytesn_in {H : Type} {enc : TypeId × Value → H} {W : World} {base : Nat} {held : Bool} {fuel : Nat} {a : Option Addr} {len cap : Nat} {x : DataW H × List MemPlace}
    (h : DataW.trod enc Tryd.prog W base (fun _ => true) held fuel 23 [.slice a len cap] = some x) : IsBytesN W a len cap := by
  have h2 := bytes_in h
  obtain ⟨f, hf, hl, hr⟩ := h2
  refine ⟨f, hf, hl, fun ha => ?_, hr⟩
  rcases open_ints Tryd.underlying23 Tryd.underlying5 (by kernel_rfl) h with ⟨hcs, _⟩ | ⟨ad, l, c, zs, hcs, _⟩
  · simp at hcs
    exact hcs.2.2
  · simp at hcs
    rw [hcs.1] at ha
    cases ha
end Go.Proofs.YtbhpfdikkknijaaDoor
