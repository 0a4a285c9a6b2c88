/- Layer 10, plain mathematics: how many bytes a shard has; what is laid of bytes; bytes as strings; what shards are of. Layer 10: contracts of unitOf, aheadOf, layoutOf and Size, and of the document's unit, layout and Size. Rows of bytes that are read; contracts of bytes.Equal, slices.EqualFunc over it, areAsLong, and of the document's Same and Few. Layer 10: contracts of headOf, headIn and says, of slices.Grow of nothing, and of slices.Concat of rows of bytes. What came in, as it is read: bytes, and rows of bytes, with what nil ones are. -/
import Derived.Test.YtgdgimknnjbieaaGreatDoorBsa
import Derived.Test.YtgdgimknnjbieaaGreatDoorGxv
import Derived.Lib.AppendZeros
import Derived.Deep.Matrix
import Derived.ChangeSlices

namespace Go.Proofs.YtgdgimknnjbieaaGreatDoor
open Go.RowKit

/-- a layout's unit, and how many bytes it lays ahead -/
def unitL (l : Int) : Nat := if l = 106 then 8 else if l = 105 then 16 else 1
def aheadL (l : Int) : Nat := if l = 98 then 4 else 0
theorem unitL_pos (l : Int) : 1 ≤ unitL l ∧ unitL l ≤ 16 := by unfold unitL; split; omega; split <;> omega
theorem aheadL_le (l : Int) : aheadL l ≤ 4 := by unfold aheadL; split <;> omega

/-- the least multiple of u, one at least, of which K times are m or more -/
def szU (u K m : Nat) : Nat := u * max 1 ((m + K * u - 1) / (K * u))

theorem szU_least {u K m t : Nat} (hu : 1 ≤ u) (hK : 1 ≤ K) (ht : 1 ≤ t) (h1 : m ≤ K * (u * t)) (h2 : t = 1 ∨ K * (u * (t - 1)) < m) : szU u K m = u * t := by
  obtain ⟨q, hq⟩ : ∃ q, K * u = q := ⟨_, rfl⟩
  have hq1 : 1 ≤ q := by rw [← hq]; exact Nat.mul_pos hK hu
  rw [← Nat.mul_assoc, hq] at h1
  unfold szU
  rw [hq]
  congr 1
  obtain ⟨d, hd⟩ : ∃ d, (m + q - 1) / q = d := ⟨_, rfl⟩
  have h3 := Nat.div_add_mod (m + q - 1) q
  have h4 := Nat.mod_lt (m + q - 1) (show q > 0 by omega)
  rw [hd] at h3 ⊢
  have hle : d ≤ t := by
    refine Nat.le_of_lt_succ (Nat.lt_of_mul_lt_mul_left (a := q) ?_)
    rw [Nat.mul_succ]
    omega
  rcases h2 with rfl | h2
  · omega
  · rw [← Nat.mul_assoc, hq] at h2
    have hge : t - 1 < d := by
      refine Nat.lt_of_mul_lt_mul_left (a := q) ?_
      omega
    omega
theorem szU_parts (u K m : Nat) (hu : 1 ≤ u) (hK : 1 ≤ K) : ∃ t, 1 ≤ t ∧ szU u K m = u * t ∧ m ≤ K * (u * t) ∧ (t = 1 ∨ K * (u * (t - 1)) < m) := by
  obtain ⟨q, hq⟩ : ∃ q, K * u = q := ⟨_, rfl⟩
  have hq1 : 1 ≤ q := by rw [← hq]; exact Nat.mul_pos hK hu
  obtain ⟨d, hd⟩ : ∃ d, (m + q - 1) / q = d := ⟨_, rfl⟩
  have h3 := Nat.div_add_mod (m + q - 1) q
  have h4 := Nat.mod_lt (m + q - 1) (show q > 0 by omega)
  rw [hd] at h3
  refine ⟨max 1 d, by omega, by unfold szU; rw [hq, hd], ?_, ?_⟩
  · rw [← Nat.mul_assoc, hq]
    have : q * d ≤ q * max 1 d := Nat.mul_le_mul_left q (by omega)
    omega
  · by_cases h : d ≤ 1
    · exact Or.inl (by omega)
    · refine Or.inr ?_
      rw [← Nat.mul_assoc, hq, show max 1 d = d by omega]
      have : q * (d - 1) + q = q * d := by rw [← Nat.mul_succ]; congr 1; omega
      omega
theorem szU_ge {u K m : Nat} (hu : 1 ≤ u) (hK : 1 ≤ K) : m ≤ K * szU u K m ∧ u ≤ szU u K m ∧ szU u K m % u = 0 ∧ (szU u K m = u ∨ K * (szU u K m - u) < m) := by
  obtain ⟨t, h1, h2, h3, h4⟩ := szU_parts u K m hu hK
  rw [h2]
  refine ⟨h3, Nat.le_mul_of_pos_right u h1, Nat.mul_mod_right u t, ?_⟩
  rcases h4 with rfl | h4
  · exact Or.inl (Nat.mul_one u)
  · refine Or.inr ?_
    rwa [Nat.mul_sub, Nat.mul_one] at h4
/-- no more than room for all, and a unit -/
theorem szU_le {u K m : Nat} (hu : 1 ≤ u) (hK : 1 ≤ K) : szU u K m ≤ m + u := by
  obtain ⟨_, _, _, h⟩ := szU_ge (m := m) hu hK
  rcases h with h | h
  · omega
  · have : szU u K m - u ≤ K * (szU u K m - u) := Nat.le_mul_of_pos_left _ hK
    omega

/-- what is laid of the n bytes f: byte i; a bytes stand ahead -/
def laidB (a n : Nat) (f : Nat → Nat) (i : Nat) : Nat := if i < a then n / 256 ^ (3 - i) % 256 else if i - a < n then f (i - a) else 0
theorem laidB_lt {a n : Nat} {f : Nat → Nat} (hf : ∀ j, f j < 256) (i : Nat) : laidB a n f i < 256 := by
  unfold laidB
  split
  · exact Nat.mod_lt _ (by omega)
  · split
    · exact hf _
    · omega
theorem laidB_out {a n : Nat} {f : Nat → Nat} {i : Nat} (h : a + n ≤ i) : laidB a n f i = 0 := by
  unfold laidB
  rw [if_neg (by omega), if_neg (by omega)]
theorem laidB_at {a n : Nat} {f : Nat → Nat} {i : Nat} (h : i < n) : laidB a n f (a + i) = f i := by
  unfold laidB
  rw [if_neg (by omega), show a + i - a = i by omega, if_pos h]
theorem laidB_head {n : Nat} {f : Nat → Nat} : laidB 4 n f 0 = n / 16777216 % 256 ∧ laidB 4 n f 1 = n / 65536 % 256 ∧ laidB 4 n f 2 = n / 256 % 256 ∧ laidB 4 n f 3 = n % 256 := by
  refine ⟨?_, ?_, ?_, ?_⟩ <;> simp [laidB]

theorem row_lt {K S i : Nat} (h : i < K * S) : i / S < K ∧ i % S < S := by
  have hS : 0 < S := by
    rcases Nat.eq_zero_or_pos S with h0 | h0
    · subst h0; simp at h
    · exact h0
  exact ⟨Nat.div_lt_of_lt_mul (by rwa [Nat.mul_comm] at h), Nat.mod_lt _ hS⟩

/-- bytes are the same strings just if they are the same -/
theorem strF_inj {f g : Nat → Nat} {n m : Nat} (hf : ∀ j, f j < 256) (hg : ∀ j, g j < 256) : strF f n = strF g m ↔ n = m ∧ ∀ j, j < n → f j = g j := by
  constructor
  · intro h
    have h1 := congrArg ByteArray.size h
    unfold strF at h1
    rw [strOfNums_size, strOfNums_size] at h1
    simp at h1
    subst h1
    refine ⟨rfl, fun j hj => ?_⟩
    have h2 := congrArg (fun x : ByteArray => x.data.toList[j]?) h
    unfold strF at h2
    simp only [strOfNums_data] at h2
    simp [List.getElem?_map, List.getElem?_range hj] at h2
    have h3 := congrArg UInt8.toNat h2
    simp [UInt8.toNat_ofNat'] at h3
    have := hf j
    have := hg j
    omega
  · rintro ⟨rfl, h⟩
    exact strF_congr h
theorem str_beq (x y : ByteArray) : (x.toList == y.toList) = true ↔ x = y := by
  rw [ByteArray.toList_eq, ByteArray.toList_eq, beq_iff_eq]
  constructor
  · intro h
    obtain ⟨⟨a⟩⟩ := x
    obtain ⟨⟨b⟩⟩ := y
    simp at h
    rw [h]
  · rintro rfl
    rfl
/-- two rows of bytes, compared as strings -/
theorem beq_rows {f g : Nat → Nat} {n m : Nat} (hf : ∀ j, f j < 256) (hg : ∀ j, g j < 256) : ((strF f n).toList == (strF g m).toList) = true ↔ n = m ∧ ∀ j, j < n → f j = g j := (str_beq _ _).trans (strF_inj hf hg)
end Go.Proofs.YtgdgimknnjbieaaGreatDoor

namespace Go.Proofs.YtgdgimknnjbieaaGreatDoor
open Go.RowKit

theorem wrap64_n (q : Nat) (h : q ≤ 1000000000) : wrap64 (q : Int) = (q : Int) := by unfold wrap64; omega

set_option maxRecDepth 100000 in
theorem unit23 (l : Int) (w : World) : Calls Tryz.prog 138 #[.int .u8 l] w fun e w' => e = .returned (.int .i64 (unitL l)) ∧ w = w' := by
  by_cases h1 : l = 106
  · subst h1
    go_enter Tryz.func138, Tryz.ntmps138
    go_wp2_with fail
    go_ret
    exact ⟨rfl, rfl⟩
  · have n1 : (l == 106) = false := by simp [h1]
    by_cases h2 : l = 105
    · subst h2
      go_enter Tryz.func138, Tryz.ntmps138
      go_wp2_with fail
      go_ret
      exact ⟨rfl, rfl⟩
    · have n2 : (l == 105) = false := by simp [h2]
      have HE := Lib.hid (show unitL l = 1 by unfold unitL; rw [if_neg h1, if_neg h2])
      go_enter Tryz.func138, Tryz.ntmps138
      go_wp2_with fail
      go_ret
      exact ⟨by rw [HE.out]; rfl, rfl⟩

set_option maxRecDepth 100000 in
theorem runit26 (l : Int) (w : World) : Calls Tryz.prog 143 #[.int .u8 l] w fun e w' => e = .returned (.int .i64 (unitL l)) ∧ w = w' := by
  by_cases h1 : l = 106
  · subst h1
    go_enter Tryz.func143, Tryz.ntmps143
    go_wp2_with fail
    go_ret
    exact ⟨rfl, rfl⟩
  · have n1 : (l == 106) = false := by simp [h1]
    by_cases h2 : l = 105
    · subst h2
      go_enter Tryz.func143, Tryz.ntmps143
      go_wp2_with fail
      go_ret
      exact ⟨rfl, rfl⟩
    · have n2 : (l == 105) = false := by simp [h2]
      have HE := Lib.hid (show unitL l = 1 by unfold unitL; rw [if_neg h1, if_neg h2])
      go_enter Tryz.func143, Tryz.ntmps143
      go_wp2_with fail
      go_ret
      exact ⟨by rw [HE.out]; rfl, rfl⟩

set_option maxRecDepth 100000 in
theorem ahead24 (l : Int) (w : World) : Calls Tryz.prog 139 #[.int .u8 l] w fun e w' => e = .returned (.int .i64 (aheadL l)) ∧ w = w' := by
  by_cases h1 : l = 98
  · subst h1
    go_enter Tryz.func139, Tryz.ntmps139
    go_wp2_with fail
    go_ret
    exact ⟨rfl, rfl⟩
  · have n1 : (l == 98) = false := by simp [h1]
    have HE := Lib.hid (show aheadL l = 0 by unfold aheadL; rw [if_neg h1])
    go_enter Tryz.func139, Tryz.ntmps139
    go_wp2_with fail
    go_ret
    exact ⟨by rw [HE.out]; rfl, rfl⟩

set_option maxRecDepth 100000 in
theorem layout22 (p k m : Int) (w : World) (hT : Tab w) : Calls Tryz.prog 93 #[.agg (parA p k m)] w fun e w' => e = .returned (.int .u8 (layI p)) ∧ Below w.heap.size w w' := by
  have hb0 := below_alloc w (.cells (parA p k m) TPa)
  have HT := Lib.hid (hT.below hb0)
  have H0 := Lib.hid hb0
  clear hT hb0
  go_enter Tryz.func93, Tryz.ntmps93
  go_wp2_with fail
  refine (of8 p _ HT.out).mono ?_
  rintro e w1 ⟨rfl, hb1⟩
  have HB := Lib.hid (below_tr (below_tr H0.out hb1) (below_alloc w1 (.cells (rowA p) TPr)))
  obtain ⟨x, hx⟩ : ∃ x, layI p = x := ⟨_, rfl⟩
  simp only [rowA, hx] at HB ⊢
  have HX := Lib.hid hx
  clear hb1 HT H0 hx
  go_wp2_with fail
  go_ret
  exact ⟨by rw [HX.out]; rfl, HB.out⟩

set_option maxRecDepth 100000 in
theorem rlayout25 (p k m : Int) (w : World) : Calls Tryz.prog 142 #[.agg (parA p k m)] w fun e w' => e = .returned (.int .u8 (layI p)) ∧ Below w.heap.size w w' := by
  have hb0 := below_alloc w (.cells (parA p k m) TPa)
  have H0 := Lib.hid hb0
  clear hb0
  go_enter Tryz.func142, Tryz.ntmps142
  go_wp2_with fail
  refine (rof9 p _).mono ?_
  rintro e w1 ⟨rfl, hb1⟩
  have HB := Lib.hid (below_tr (below_tr H0.out hb1) (below_alloc w1 (.cells (rowA p) TRw)))
  obtain ⟨x, hx⟩ : ∃ x, layI p = x := ⟨_, rfl⟩
  simp only [rowA, hx] at HB ⊢
  have HX := Lib.hid hx
  clear hb1 H0 hx
  go_wp2_with fail
  go_ret
  exact ⟨by rw [HX.out]; rfl, HB.out⟩

instance (p k m : Int) : Decidable (mayX p k m) := by unfold mayX; infer_instance
/-- what Size tells -/
def szE (p k m n : Int) : Int := if mayX p k m ∧ 0 ≤ n then (if n ≤ 4096 then 0 else 11) else 1
def szN (p k m n : Int) : Nat := if mayX p k m ∧ 0 ≤ n ∧ n ≤ 4096 then szU (unitL (layI p)) k.toNat (aheadL (layI p) + n.toNat) else 0
def SizeSaid (p k m n : Int) (w : World) (e : Ending) (w' : World) : Prop := e = .returned (.tuple #[.int .i64 (szN p k m n), .int .i64 (szE p k m n)]) ∧ Below w.heap.size w w'
theorem szE_arg {p k m n : Int} (h : ¬ (mayX p k m ∧ 0 ≤ n)) : szN p k m n = 0 ∧ szE p k m n = 1 := ⟨if_neg (fun h' => h ⟨h'.1, h'.2.1⟩), if_neg h⟩
theorem szE_big {p k m n : Int} (h1 : mayX p k m) (h2 : 4096 < n) : szN p k m n = 0 ∧ szE p k m n = 11 := ⟨if_neg (by omega), (if_pos ⟨h1, by omega⟩).trans (if_neg (by omega))⟩
theorem szE_ok {p : Int} {K N : Nat} {m : Int} (h1 : mayX p K m) (h2 : N ≤ 4096) : szN p K m N = szU (unitL (layI p)) K (aheadL (layI p) + N) ∧ szE p K m N = 0 := ⟨if_pos ⟨h1, by omega, by omega⟩, (if_pos ⟨h1, by omega⟩).trans (if_pos (by omega))⟩
theorem size_arg {p k m n : Int} (h : ¬ (mayX p k m ∧ 0 ≤ n)) {w w' : World} (hb : Below w.heap.size w w') : SizeSaid p k m n w (.returned (.tuple #[.int .i64 0, .int .i64 1])) w' :=
  ⟨by rw [(szE_arg h).1, (szE_arg h).2]; rfl, hb⟩
theorem size_big {p k m n : Int} (h1 : mayX p k m) (h2 : 4096 < n) {w w' : World} (hb : Below w.heap.size w w') : SizeSaid p k m n w (.returned (.tuple #[.int .i64 0, .int .i64 11])) w' :=
  ⟨by rw [(szE_big h1 h2).1, (szE_big h1 h2).2]; rfl, hb⟩
theorem size_ok {p : Int} {K N : Nat} {m : Int} (h1 : mayX p K m) (h2 : N ≤ 4096) {w w' : World} (hb : Below w.heap.size w w') : SizeSaid p K m N w (.returned (.tuple #[.int .i64 (szU (unitL (layI p)) K (aheadL (layI p) + N)), .int .i64 0])) w' :=
  ⟨by rw [(szE_ok h1 h2).1, (szE_ok h1 h2).2], hb⟩

set_option maxRecDepth 100000 in
set_option maxHeartbeats 2000000 in
theorem size10 (p k m n : Int) (w : World) (hT : Tab w) : Calls Tryz.prog 91 #[.agg (parA p k m), .int .i64 n] w (SizeSaid p k m n w) := by
  obtain ⟨v, hv⟩ : ∃ v, w.alloc (.cells #[.int .i64 p, .int .i64 k, .int .i64 m] TPa) = v := ⟨_, rfl⟩
  obtain ⟨_, e0, hbv⟩ := one_box hv
  have E0 := Lib.hid e0
  have HV := Lib.hid hbv
  have HT := Lib.hid (hT.below hbv)
  clear e0 hbv hT
  go_enter Tryz.func91, Tryz.ntmps91
  obtain ⟨d0, d1, d2⟩ := box_three E0.out
  go_wp2_with fail
  refine (may15 p k m _ HT.out).mono ?_
  rintro e w1 ⟨t, rfl, ht, hb1⟩
  have H1 := Lib.hid (below_tr HV.out hb1)
  have HT1 := Lib.hid (HT.out.below hb1)
  have E1 := Lib.hid (kept_box E0.out hb1)
  have HM := Lib.hid ht
  clear ht hb1 d0 d1 d2 HT
  cases t
  · have HE := Lib.hid (size_arg (p := p) (k := k) (m := m) (n := n) (fun h => by have := HM.out.2 h.1; cases this) H1.out)
    go_wp2_with fail
    go_ret2
    exact HE.out
  by_cases hn : n < 0
  · have HE := Lib.hid (size_arg (p := p) (k := k) (m := m) (n := n) (fun h => by omega) H1.out)
    go_wp2_with fail
    go_ret2
    exact HE.out
  by_cases hn2 : 4096 < n
  · have HE := Lib.hid (size_big (p := p) (k := k) (m := m) (n := n) (HM.out.1 rfl) hn2 H1.out)
    go_wp2_with fail
    go_ret2
    exact HE.out
  obtain ⟨N, rfl⟩ : ∃ N : Nat, n = (N : Int) := ⟨n.toNat, by omega⟩
  have hm := HM.out.1 rfl
  obtain ⟨K, rfl⟩ : ∃ K : Nat, k = (K : Int) := ⟨k.toNat, by have := hm.2.1; omega⟩
  have HE := Lib.hid (fun w' (h : Below w.heap.size w w') => size_ok (p := p) (K := K) (m := m) (N := N) hm (by omega) h)
  have hk1 := hm.2.1.1
  have hk2 := hm.2.1.2
  have hN : N ≤ 4096 := by omega
  clear hm HM hn hn2
  obtain ⟨d0, d1, d2⟩ := box_three E1.out
  go_wp2_with fail
  refine (layout22 p K m _ HT1.out).mono ?_
  rintro e w2 ⟨rfl, hb2⟩
  have H2 := Lib.hid (below_tr H1.out hb2)
  have E2 := Lib.hid (kept_box E1.out hb2)
  clear hb2 d0 d1 d2 HT1 H1 E1
  obtain ⟨l, hl⟩ : ∃ l, layI p = l := ⟨_, rfl⟩
  rw [hl] at HE ⊢
  clear hl
  go_wp2_with fail
  refine (unit23 l _).mono ?_
  rintro e w' ⟨rfl, rfl⟩
  obtain ⟨d0, d1, d2⟩ := box_three E2.out
  obtain ⟨u, hu⟩ : ∃ u, unitL l = u := ⟨_, rfl⟩
  have hu1 := unitL_pos l
  rw [hu] at HE hu1 ⊢
  clear hu
  obtain ⟨q, hq⟩ : ∃ q : Nat, K * u = q := ⟨_, rfl⟩
  have hq1 : 1 ≤ q ∧ q ≤ 128 := by
    rw [← hq]
    exact ⟨Nat.mul_pos (by omega) hu1.1, Nat.mul_le_mul (show K ≤ 8 by omega) hu1.2⟩
  have hwq : wrap64 ((K : Int) * (u : Int)) = (q : Int) := by
    rw [← Int.natCast_mul, hq]
    exact wrap64_n q (by omega)
  have HQ := Lib.hid hq
  clear hq
  go_wp2_with fail
  refine (ahead24 l _).mono ?_
  rintro e w' ⟨rfl, rfl⟩
  obtain ⟨a, ha⟩ : ∃ a, aheadL l = a := ⟨_, rfl⟩
  have ha4 := aheadL_le l
  rw [ha] at HE ha4 ⊢
  clear ha
  have hq0 : ¬ (q : Int) = 0 := by omega
  obtain ⟨d, hd⟩ : ∃ d : Nat, (a + N + q - 1) / q = d := ⟨_, rfl⟩
  have hd' : ((a : Int) + (N : Int) + (q : Int) - 1) / (q : Int) = (d : Int) := by
    rw [← hd, Int.natCast_ediv]
    congr 1
    omega
  have hdl : d ≤ 5000 := by
    rw [← hd]
    exact Nat.le_trans (Nat.div_le_self _ _) (by omega)
  have hdu : d * u ≤ 100000 := Nat.le_trans (Nat.mul_le_mul hdl hu1.2) (by omega)
  have hw1 : wrap64 (u : Int) = (u : Int) := wrap64_n u (by omega)
  have hw2 : wrap64 ((d : Int) * (u : Int)) = ((d * u : Nat) : Int) := by
    rw [← Int.natCast_mul]
    exact wrap64_n _ (by omega)
  have HS := Lib.hid (show szU u K (a + N) = u * max 1 d by unfold szU; rw [HQ.out, hd])
  clear hd hu1 hdl hdu
  go_wp2_with fail
  all_goals
    go_ret2
    refine cast (congrArg (fun x => SizeSaid _ _ _ _ _ (.returned (.tuple #[.int .i64 x, .int .i64 0])) _) ?_) (HE.out _ H2.out)
    rw [HS.out]
    first
      | (rw [show max 1 d = 1 by omega, Nat.mul_one])
      | (rw [show max 1 d = d by omega, Nat.mul_comm, Int.natCast_mul])

/-- in the loop of the document's Size -/
def RSizeAt (u K M : Nat) (v : World) (s6 : Value) (wr : World) : Prop := ∃ t : Nat, 1 ≤ t ∧ u * t ≤ 5000 ∧ s6 = .int .i64 (u * t : Nat) ∧ (t = 1 ∨ K * (u * (t - 1)) < M) ∧ Below v.heap.size v wr

set_option maxRecDepth 100000 in
set_option maxHeartbeats 2000000 in
theorem rsize11 (p k m n : Int) (w : World) : Calls Tryz.prog 95 #[.agg (parA p k m), .int .i64 n] w (SizeSaid p k m n w) := by
  obtain ⟨v, hv⟩ : ∃ v, w.alloc (.cells #[.int .i64 p, .int .i64 k, .int .i64 m] TPa) = v := ⟨_, rfl⟩
  obtain ⟨_, e0, hbv⟩ := one_box hv
  have E0 := Lib.hid e0
  have HV := Lib.hid hbv
  clear e0 hbv
  go_enter Tryz.func95, Tryz.ntmps95
  obtain ⟨d0, d1, d2⟩ := box_three E0.out
  go_wp2_with fail
  refine (rmay16 p k m _).mono ?_
  rintro e w1 ⟨t, rfl, ht, hb1⟩
  have H1 := Lib.hid (below_tr HV.out hb1)
  have E1 := Lib.hid (kept_box E0.out hb1)
  have HM := Lib.hid ht
  clear ht hb1 d0 d1 d2
  cases t
  · have HE := Lib.hid (size_arg (p := p) (k := k) (m := m) (n := n) (fun h => by have := HM.out.2 h.1; cases this) H1.out)
    go_wp2_with fail
    go_ret2
    exact HE.out
  by_cases hn : n < 0
  · have HE := Lib.hid (size_arg (p := p) (k := k) (m := m) (n := n) (fun h => by omega) H1.out)
    go_wp2_with fail
    go_ret2
    exact HE.out
  by_cases hn2 : 4096 < n
  · have HE := Lib.hid (size_big (p := p) (k := k) (m := m) (n := n) (HM.out.1 rfl) hn2 H1.out)
    go_wp2_with fail
    go_ret2
    exact HE.out
  obtain ⟨N, rfl⟩ : ∃ N : Nat, n = (N : Int) := ⟨n.toNat, by omega⟩
  have hm := HM.out.1 rfl
  obtain ⟨K, rfl⟩ : ∃ K : Nat, k = (K : Int) := ⟨k.toNat, by have := hm.2.1; omega⟩
  have HE := Lib.hid (fun w' (h : Below w.heap.size w w') => size_ok (p := p) (K := K) (m := m) (N := N) hm (by omega) h)
  have hk1 := hm.2.1.1
  have hk2 := hm.2.1.2
  have hN : N ≤ 4096 := by omega
  clear hm HM hn hn2
  obtain ⟨d0, d1, d2⟩ := box_three E1.out
  go_wp2_with fail
  refine (rlayout25 p K m _).mono ?_
  rintro e w2 ⟨rfl, hb2⟩
  have H2 := Lib.hid (below_tr H1.out hb2)
  have E2 := Lib.hid (kept_box E1.out hb2)
  clear hb2 d0 d1 d2 H1 E1
  obtain ⟨l, hl⟩ : ∃ l, layI p = l := ⟨_, rfl⟩
  have HL := Lib.hid hl
  rw [hl] at HE ⊢
  clear hl
  have hcase : (l == 98) = true ∧ aheadL l = 4 ∨ (l == 98) = false ∧ aheadL l = 0 := by
    unfold aheadL
    by_cases h : l = 98
    · exact Or.inl ⟨by simp [h], if_pos h⟩
    · exact Or.inr ⟨by simp [h], if_neg h⟩
  obtain ⟨M, hM⟩ : ∃ M, aheadL l + N = M := ⟨_, rfl⟩
  rw [hM] at HE
  rcases hcase with ⟨h98, ha⟩ | ⟨h98, ha⟩
  all_goals
    rw [ha] at hM
    clear ha
    have hM2 : M ≤ 4100 := by omega
    have hM3 := Nat.le_of_eq hM
    have hM4 := Nat.le_of_eq hM.symm
    clear hM
    obtain ⟨d0, d1, d2⟩ := box_three E2.out
    go_wp2_with fail
    refine (rlayout25 p K m _).mono ?_
    rintro e w3 ⟨rfl, hb3⟩
    have H3 := Lib.hid (below_tr H2.out hb3)
    have E3 := Lib.hid (kept_box E2.out hb3)
    rw [HL.out]
    clear hb3 d0 d1 d2
    go_wp2_with fail
    refine (runit26 l _).mono ?_
    rintro e w' ⟨rfl, rfl⟩
    have HU := Lib.hid (unitL_pos l)
    have hu1 := unitL_pos l
    obtain ⟨u, hu⟩ : ∃ u, unitL l = u := ⟨_, rfl⟩
    have HUU := Lib.hid hu
    rw [hu] at HE hu1 ⊢
    clear hu
    go_wp2_with fail
    go_loopw [6] (fun s6 wr => RSizeAt u K M w3 s6 wr) (fun s6 _ => 6000 - (intOf s6).toNat)
    case atStart => exact ⟨1, Nat.le_refl _, by omega, by rw [Nat.mul_one], Or.inl rfl, Below.refl _ _⟩
    case round =>
      obtain ⟨t, ht, hut, rfl, hl, hb⟩ := hrel
      obtain ⟨s, hs⟩ : ∃ s, u * t = s := ⟨_, rfl⟩
      have HS := Lib.hid hs
      have HLS := Lib.hid hl
      rw [hs] at hut ⊢
      obtain ⟨d0, d1, d2⟩ := box_three (kept_box E3.out hb)
      obtain ⟨x, hx⟩ : ∃ x, s * K = x := ⟨_, rfl⟩
      have hx4 : x ≤ 40000 := by rw [← hx]; exact Nat.le_trans (Nat.mul_le_mul hut (show K ≤ 8 by omega)) (by omega)
      have hwx : wrap64 ((s : Int) * (K : Int)) = (x : Int) := by
        rw [← Int.natCast_mul, hx]
        exact wrap64_n _ (by omega)
      have HX := Lib.hid hx
      have HB := Lib.hid hb
      clear hs hl hb hx
      by_cases hlt : x < M
      · have hsx : s ≤ x := by rw [← HX.out]; exact Nat.le_mul_of_pos_right s (by omega)
        go_wp2_with fail
        refine (rlayout25 p K m _).mono ?_
        rintro e w4 ⟨rfl, hb4⟩
        have H4 := Lib.hid (below_tr HB.out hb4)
        rw [HL.out]
        clear hb4 d0 d1 d2
        go_wp2_with fail
        refine (runit26 l _).mono ?_
        rintro e w' ⟨rfl, rfl⟩
        rw [HUU.out]
        go_wp2_with fail
        refine ⟨⟨t + 1, by omega, by rw [Nat.mul_succ, HS.out]; omega, by rw [Nat.mul_succ, HS.out]; go_num, Or.inr ?_, H4.out⟩, by simp [intOf]; omega⟩
        rw [Nat.add_sub_cancel, HS.out, Nat.mul_comm, HX.out]
        exact hlt
      · have hR : szU u K M = s := by
          rw [← HS.out]
          exact szU_least hu1.1 (by omega) ht (by rw [HS.out, Nat.mul_comm, HX.out]; omega) HLS.out
        rw [hR] at HE
        clear hR
        go_wp2_with fail
        go_ret2
        exact HE.out _ (below_tr H3.out HB.out)
end Go.Proofs.YtgdgimknnjbieaaGreatDoor

namespace Go.Proofs.YtgdgimknnjbieaaGreatDoor
open Go.RowKit

/-- rows of bytes at A, n of them -/
def Bx (b : Nat) (w : World) (F : Nat → Nat → Nat) (Ls : Nat → Nat) (A : Option Addr) (n : Nat) : Prop :=
  ∃ (As : Nat → Option Addr) (Cs : Nat → Nat), Rd b w (slis As Ls Cs) A n ∧ ∀ r, r < n → Rd b w (u8s (F r)) (As r) (Ls r)
theorem Bx.zero {b : Nat} {w : World} {F : Nat → Nat → Nat} {Ls : Nat → Nat} {A : Option Addr} : Bx b w F Ls A 0 := ⟨fun _ => none, fun _ => 0, Rd.zero, fun r hr => absurd hr (by omega)⟩
theorem Bx.below {b : Nat} {w w' : World} {F : Nat → Nat → Nat} {Ls : Nat → Nat} {A : Option Addr} {n : Nat} (h : Bx b w F Ls A n) (hb : Below w.heap.size w w') : Bx b w' F Ls A n := by
  obtain ⟨As, Cs, h1, h2⟩ := h
  exact ⟨As, Cs, h1.below hb, fun r hr => (h2 r hr).below hb⟩
theorem Bx.congr {b : Nat} {w : World} {F G : Nat → Nat → Nat} {Ls Ms : Nat → Nat} {A : Option Addr} {n : Nat} (h : Bx b w F Ls A n) (hl : ∀ r, r < n → Ls r = Ms r) (he : ∀ r, r < n → ∀ j, j < Ls r → F r j = G r j) : Bx b w G Ms A n := by
  obtain ⟨As, Cs, h1, h2⟩ := h
  refine ⟨As, Cs, h1.congr (fun j hj => by simp only [slis]; rw [hl j hj]), fun r hr => ?_⟩
  rw [← hl r hr]
  exact (h2 r hr).congr (fun j hj => by simp only [u8s]; rw [he r hr j hj])
/-- rows that are told -/
def RowsTold (n : Nat) (F : Nat → Nat → Nat) (Ls : Nat → Nat) (w : World) (v : Value) (w' : World) : Prop := ∃ A c, v = .slice A n c ∧ n ≤ c ∧ (∀ b, b < w.heap.size → Bx b w' F Ls A n) ∧ Below w.heap.size w w'
theorem RowsTold.nil {F : Nat → Nat → Nat} {Ls : Nat → Nat} {w w' : World} (h : Below w.heap.size w w') : RowsTold 0 F Ls w nilS w' := ⟨none, 0, rfl, Nat.le_refl _, fun _ _ => Bx.zero, h⟩
theorem RowsTold.from {n : Nat} {F : Nat → Nat → Nat} {Ls : Nat → Nat} {w w1 w' : World} {v : Value} (hb : Below w.heap.size w w1) (h : RowsTold n F Ls w1 v w') : RowsTold n F Ls w v w' := by
  obtain ⟨A, c, h1, h2, h3, h4⟩ := h
  exact ⟨A, c, h1, h2, fun b hb' => h3 b (Nat.lt_of_lt_of_le hb' hb.size), below_tr hb h4⟩
/-- the rows in a list have room for all their bytes -/
def Caps (w : World) (A : Option Addr) (n : Nat) : Prop := ∀ r, r < n → ∀ ad, A = some ad → ∃ B l c, w.cell? (ad.add r) = some (.slice B l c) ∧ l ≤ c
theorem Caps.zero (w : World) (A : Option Addr) : Caps w A 0 := fun _ h => absurd h (Nat.not_lt_zero _)
theorem Caps.of_rd {b n : Nat} {w : World} {As : Nat → Option Addr} {Ls Cs : Nat → Nat} {A : Option Addr} (h : Rd b w (slis As Ls Cs) A n) (hc : ∀ r, r < n → Ls r ≤ Cs r) : Caps w A n := fun r hr ad e => by
  obtain ⟨ad', e', h1⟩ := h.at_ hr
  rw [e] at e'
  injection e' with e'
  subst e'
  exact ⟨_, _, _, h1, hc r hr⟩
theorem Caps.room {b n : Nat} {w : World} {As : Nat → Option Addr} {Ls Cs : Nat → Nat} {A : Option Addr} (h : Caps w A n) (hr : Rd b w (slis As Ls Cs) A n) {r : Nat} (hrn : r < n) : Ls r ≤ Cs r := by
  obtain ⟨ad, e, h1⟩ := hr.at_ hrn
  obtain ⟨B, l, c, h2, h3⟩ := h r hrn ad e
  rw [h1] at h2
  injection h2 with h2
  injection h2 with _ h4 h5
  omega
/-- the list that is told first is such -/
def OutCaps (e : Ending) (w' : World) : Prop := ∀ A n c x, e = .returned (.tuple #[.slice A n c, x]) → Caps w' A n
theorem OutCaps.of {w' : World} {A : Option Addr} {n c : Nat} {x : Value} (h : Caps w' A n) : OutCaps (.returned (.tuple #[.slice A n c, x])) w' := fun A' n' c' x' e => by
  injection e with e
  injection e with e
  injection e with e
  injection e with e _
  injection e with e1 e2 _
  subst e1 e2
  exact h
/-- bytes that are told, apart from all that lay there -/
def BytesOut (n : Nat) (k : Nat → Nat) (w : World) (v : Value) (w' : World) : Prop := ∃ A c, v = .slice A n c ∧ n ≤ c ∧ (∀ b, b < w.heap.size → Rd b w' (u8s k) A n) ∧ Below w.heap.size w w'
theorem BytesOut.nil {k : Nat → Nat} {w w' : World} (h : Below w.heap.size w w') : BytesOut 0 k w nilS w' := ⟨none, 0, rfl, Nat.le_refl _, fun _ _ => Rd.zero, h⟩
theorem BytesOut.from {n : Nat} {k : Nat → Nat} {w w1 w' : World} {v : Value} (hb : Below w.heap.size w w1) (h : BytesOut n k w1 v w') : BytesOut n k w v w' := by
  obtain ⟨A, c, h1, h2, h3, h4⟩ := h
  exact ⟨A, c, h1, h2, fun b hb' => h3 b (Nat.lt_of_lt_of_le hb' hb.size), below_tr hb h4⟩

/-- are two lists of rows the same? -/
def sameP (n m : Nat) (Ls Ms : Nat → Nat) (F G : Nat → Nat → Nat) : Prop := n = m ∧ ∀ r, r < n → Ls r = Ms r ∧ ∀ j, j < Ls r → F r j = G r j
def SameSaid (n m : Nat) (Ls Ms : Nat → Nat) (F G : Nat → Nat → Nat) (w : World) (e : Ending) (w' : World) : Prop := ∃ t, e = .returned (.bool t) ∧ (t = true ↔ sameP n m Ls Ms F G) ∧ Below w.heap.size w w'

/-- in the loops that ask whether rows are the same -/
def SameAt (n : Nat) (Ls Ms : Nat → Nat) (F G : Nat → Nat → Nat) (w : World) (s : Value) (wr : World) : Prop :=
  ∃ k : Nat, k ≤ n ∧ s = .int .i64 k ∧ (∀ r, r < k → Ls r = Ms r ∧ ∀ j, j < Ls r → F r j = G r j) ∧ Below w.heap.size w wr
theorem SameSaid.no {n m : Nat} {Ls Ms : Nat → Nat} {F G : Nat → Nat → Nat} {w w' : World} (h : ¬ sameP n m Ls Ms F G) (hb : Below w.heap.size w w') : SameSaid n m Ls Ms F G w (.returned (.bool false)) w' := ⟨false, rfl, by simp [h], hb⟩
theorem SameSaid.yes {n m : Nat} {Ls Ms : Nat → Nat} {F G : Nat → Nat → Nat} {w w' : World} (h : sameP n m Ls Ms F G) (hb : Below w.heap.size w w') : SameSaid n m Ls Ms F G w (.returned (.bool true)) w' := ⟨true, rfl, by simp [h], hb⟩

set_option maxRecDepth 100000 in
set_option maxHeartbeats 1000000 in
theorem rsame14 (b b' : Nat) (F G : Nat → Nat → Nat) (hF : ∀ r j, F r j < 256) (hG : ∀ r j, G r j < 256) (Ls Ms : Nat → Nat) (A B : Option Addr) (n m ca cb : Nat) (hn : n ≤ 100000) (w : World) (ha : Bx b w F Ls A n) (hb : Bx b' w G Ms B m) :
    Calls Tryz.prog 15 #[.slice A n ca, .slice B m cb] w (SameSaid n m Ls Ms F G w) := by
  obtain ⟨As, Cs, ha1, ha2⟩ := ha
  obtain ⟨Bs, Ds, hb1, hb2⟩ := hb
  have HA := Lib.hid ha1
  have HA2 := Lib.hid ha2
  have HB := Lib.hid hb1
  have HB2 := Lib.hid hb2
  have HF := Lib.hid hF
  have HG := Lib.hid hG
  clear ha1 ha2 hb1 hb2 hF hG
  by_cases hnm : n = m
  · subst hnm
    go_enter Tryz.func15, Tryz.ntmps15
    go_wp2_with fail
    go_loopw [5] (fun s5 wr => SameAt n Ls Ms F G w s5 wr) (fun s5 _ => n - (intOf s5).toNat)
    case atStart => exact ⟨0, Nat.zero_le _, rfl, fun r hr => absurd hr (by omega), Below.refl _ _⟩
    case round =>
      obtain ⟨k, hk, rfl, hall, hbl⟩ := hrel
      by_cases hlt : k < n
      · obtain ⟨ad, rfl, c1⟩ := (HA.out.below hbl.drew).at_ hlt
        obtain ⟨ad', rfl, c2⟩ := (HB.out.below hbl.drew).at_ hlt
        have v1 := conv_rd (Cs k) ((HA2.out k hlt).below hbl.drew)
        have v2 := conv_rd (Ds k) ((HB2.out k hlt).below hbl.drew)
        have hi := beq_rows (f := F k) (g := G k) (n := Ls k) (m := Ms k) (HF.out k) (HG.out k)
        simp only [slis] at c1 c2
        have HALL := Lib.hid hall
        have HBL := Lib.hid hbl
        clear hall hbl
        obtain ⟨x, hx⟩ : ∃ x, strF (F k) (Ls k) = x := ⟨_, rfl⟩
        obtain ⟨y, hy⟩ : ∃ y, strF (G k) (Ms k) = y := ⟨_, rfl⟩
        rw [hx] at v1 hi
        rw [hy] at v2 hi
        obtain ⟨t, ht⟩ : ∃ t, (x.toList == y.toList) = t := ⟨_, rfl⟩
        rw [ht] at hi
        have HI := Lib.hid hi
        clear hx hy hi
        cases t
        · have HS := Lib.hid (SameSaid.no (n := n) (m := n) (fun h => by have := HI.out.2 (h.2 k hlt); cases this) HBL.out.drew)
          go_wp2_with fail
          go_region
          all_goals
            go_wp2_with fail
            go_ret
            exact HS.out
        · have HS := Lib.hid (show SameAt n Ls Ms F G w (.int .i64 ((k + 1 : Nat) : Int)) wr.drew from ⟨k + 1, hlt, rfl, fun r hr => (Nat.lt_succ_iff_lt_or_eq.1 hr).elim (fun h => HALL.out r h) (fun h => by rw [h]; exact HI.out.1 rfl), HBL.out.drew⟩)
          go_wp2_with fail
          go_region
          all_goals
            go_wp2_with fail
            exact ⟨HS.out, by simp [intOf]; omega⟩
      · obtain rfl : k = n := by omega
        have HS := Lib.hid (SameSaid.yes (n := k) (m := k) ⟨rfl, hall⟩ hbl)
        clear hall
        go_wp2_with fail
        go_ret
        exact HS.out
  · have hne : ((n : Int) != (m : Int)) = true := by simp; omega
    have HS := Lib.hid (SameSaid.no (Ls := Ls) (Ms := Ms) (F := F) (G := G) (n := n) (m := m) (w := w) (w' := w) (fun h => hnm h.1) (Below.refl _ _))
    clear hnm
    go_enter Tryz.func15, Tryz.ntmps15
    go_wp2_with fail
    go_ret
    exact HS.out

set_option maxRecDepth 100000 in
theorem beq34 (b b' : Nat) (f g : Nat → Nat) (hf : ∀ j, f j < 256) (hg : ∀ j, g j < 256) (A B : Option Addr) (n m ca cb : Nat) (w : World) (ha : Rd b w (u8s f) A n) (hb : Rd b' w (u8s g) B m) :
    Calls Tryz.prog 55 #[.slice A n ca, .slice B m cb] w fun e w' => (∃ t, e = .returned (.bool t) ∧ (t = true ↔ n = m ∧ ∀ j, j < n → f j = g j)) ∧ w = w' := by
  have v1 := conv_rd ca ha
  have v2 := conv_rd cb hb
  have hi := beq_rows (f := f) (g := g) (n := n) (m := m) hf hg
  obtain ⟨x, hx⟩ : ∃ x, strF f n = x := ⟨_, rfl⟩
  obtain ⟨y, hy⟩ : ∃ y, strF g m = y := ⟨_, rfl⟩
  rw [hx] at v1 hi
  rw [hy] at v2 hi
  obtain ⟨t, ht⟩ : ∃ t, (x.toList == y.toList) = t := ⟨_, rfl⟩
  rw [ht] at hi
  have HI := Lib.hid hi
  clear hx hy hi ha hb hf hg
  go_enter Tryz.func55, Tryz.ntmps55
  go_wp2_with fail
  go_ret
  exact ⟨⟨t, rfl, HI.out⟩, rfl⟩

set_option maxRecDepth 100000 in
set_option maxHeartbeats 1000000 in
theorem equal33 (b b' : Nat) (F G : Nat → Nat → Nat) (hF : ∀ r j, F r j < 256) (hG : ∀ r j, G r j < 256) (Ls Ms : Nat → Nat) (A B : Option Addr) (n m ca cb : Nat) (hn : n ≤ 100000) (w : World) (ha : Bx b w F Ls A n) (hb : Bx b' w G Ms B m) :
    Calls Tryz.prog 54 #[.slice A n ca, .slice B m cb, .func (.func 55) #[] #[]] w (SameSaid n m Ls Ms F G w) := by
  obtain ⟨As, Cs, ha1, ha2⟩ := ha
  obtain ⟨Bs, Ds, hb1, hb2⟩ := hb
  have HA := Lib.hid ha1
  have HA2 := Lib.hid ha2
  have HB := Lib.hid hb1
  have HB2 := Lib.hid hb2
  have HF := Lib.hid hF
  have HG := Lib.hid hG
  clear ha1 ha2 hb1 hb2 hF hG
  by_cases hnm : n = m
  · subst hnm
    go_enter Tryz.func54, Tryz.ntmps54
    go_wp2_with fail
    go_loopw [17] (fun s17 wr => SameAt n Ls Ms F G w s17 wr) (fun s17 _ => n - (intOf s17).toNat)
    case atStart => exact ⟨0, Nat.zero_le _, rfl, fun r hr => absurd hr (by omega), Below.refl _ _⟩
    case round =>
      obtain ⟨k, hk, rfl, hall, hbl⟩ := hrel
      by_cases hlt : k < n
      · obtain ⟨ad, rfl, c1⟩ := (HA.out.below hbl).at_ hlt
        obtain ⟨ad', rfl, c2⟩ := (HB.out.below hbl).at_ hlt
        simp only [slis] at c1 c2
        have HALL := Lib.hid hall
        have HBL := Lib.hid hbl
        have HQ := Lib.hid (beq34 b b' (F k) (G k) (HF.out k) (HG.out k) (As k) (Bs k) (Ls k) (Ms k) (Cs k) (Ds k) wr ((HA2.out k hlt).below hbl) ((HB2.out k hlt).below hbl))
        clear hall hbl
        go_wp2_with fail
        refine HQ.out.mono ?_
        rintro e w' ⟨⟨t, rfl, ht⟩, rfl⟩
        have HT := Lib.hid ht
        clear ht
        cases t
        · have HS := Lib.hid (SameSaid.no (n := n) (m := n) (fun h => by have := HT.out.2 (h.2 k hlt); cases this) HBL.out)
          go_wp2_with fail
          go_ret
          exact HS.out
        · have HS := Lib.hid (show SameAt n Ls Ms F G w (.int .i64 ((k + 1 : Nat) : Int)) wr from ⟨k + 1, hlt, rfl, fun r hr => (Nat.lt_succ_iff_lt_or_eq.1 hr).elim (fun h => HALL.out r h) (fun h => by rw [h]; exact HT.out.1 rfl), HBL.out⟩)
          go_wp2_with fail
          exact ⟨HS.out, by simp [intOf]; omega⟩
      · obtain rfl : k = n := by omega
        have HS := Lib.hid (SameSaid.yes (n := k) (m := k) ⟨rfl, hall⟩ hbl)
        clear hall
        go_wp2_with fail
        go_ret
        exact HS.out
  · have hne : ((n : Int) != (m : Int)) = true := by simp; omega
    have HS := Lib.hid (SameSaid.no (Ls := Ls) (Ms := Ms) (F := F) (G := G) (n := n) (m := m) (w := w) (w' := w) (fun h => hnm h.1) (Below.refl _ _))
    clear hnm
    go_enter Tryz.func54, Tryz.ntmps54
    go_wp2_with fail
    go_ret
    exact HS.out

/-- what Few tells -/
def FewSaid10 (N : Nat) (Ls : Nat → Nat) (w : World) (e : Ending) (w' : World) : Prop := ∃ t, e = .returned (.bool t) ∧ (t = true → N ≤ 12 ∧ ∀ r, r < N → Ls r ≤ 300) ∧ w = w'

set_option maxRecDepth 100000 in
set_option maxHeartbeats 1000000 in
theorem few15 (b : Nat) (As : Nat → Option Addr) (Ls Cs : Nat → Nat) (A : Option Addr) (N c : Nat) (w : World) (hr : Rd b w (slis As Ls Cs) A N) :
    Calls Tryz.prog 10 #[.slice A N c] w (FewSaid10 N Ls w) := by
  have HR := Lib.hid hr
  clear hr
  go_enter Tryz.func10, Tryz.ntmps10
  go_wp2_with fail
  go_loop [3] (fun s3 => ∃ k : Nat, k ≤ N ∧ k ≤ 13 ∧ s3 = .int .i64 k ∧ Hid (∀ j, j < k → Ls j ≤ 300)) (fun s3 => 13 - (intOf s3).toNat)
  case atStart => exact ⟨0, Nat.zero_le _, Nat.zero_le _, rfl, Lib.hid (fun j hj => absurd hj (by omega))⟩
  case round =>
    obtain ⟨k, hk, hk2, rfl, hall⟩ := hrel
    by_cases hlt : k < N
    · by_cases hlt2 : k < 13
      · obtain ⟨ad, rfl, hcell⟩ := HR.out.at_ hlt
        simp only [slis] at hcell
        by_cases hL : 300 < Ls k
        · have HX := Lib.hid (show FewSaid10 N Ls w (.returned (.bool false)) w from ⟨false, rfl, fun h => (by cases h), rfl⟩)
          go_wp2_with fail
          go_ret
          exact HX.out
        · have HX := Lib.hid (show ∀ j, j < k + 1 → Ls j ≤ 300 from fun j hj => (Nat.lt_succ_iff_lt_or_eq.1 hj).elim (fun h => hall.out j h) (fun h => by rw [h]; omega))
          have hL' : ((Ls k : Nat) : Int) ≤ 300 := by omega
          go_wp2_with fail
          exact ⟨⟨k + 1, hlt, hlt2, by go_num, HX⟩, by simp [intOf]; omega⟩
      · have hd : decide (((N : Nat) : Int) ≤ 12) = false := by simp; omega
        have HX := Lib.hid (show FewSaid10 N Ls w (.returned (.bool false)) w from ⟨false, rfl, fun h => (by cases h), rfl⟩)
        go_wp2_with fail
        go_ret
        exact HX.out
    · obtain rfl : k = N := by omega
      by_cases h10 : k ≤ 12
      · have HX := Lib.hid (show FewSaid10 k Ls w (.returned (.bool true)) w from ⟨true, rfl, fun _ => ⟨h10, hall.out⟩, rfl⟩)
        have hd : decide (((k : Nat) : Int) ≤ 12) = true := by simp; omega
        go_wp2_with fail
        go_ret
        exact HX.out
      · have hd : decide (((k : Nat) : Int) ≤ 12) = false := by simp; omega
        have HX := Lib.hid (show FewSaid10 k Ls w (.returned (.bool false)) w from ⟨false, rfl, fun h => (by cases h), rfl⟩)
        go_wp2_with fail
        go_ret
        exact HX.out
end Go.Proofs.YtgdgimknnjbieaaGreatDoor

namespace Go.Proofs.YtgdgimknnjbieaaGreatDoor
open Go.RowKit

abbrev THd : Nat := 186
theorem size4 : (Tryz.prog.info? THd).map (·.size) = some (4 : Nat) := by kernel_rfl
/-- a head: four bytes -/
abbrev hd4 (a b c d : Nat) : Array Value := #[.int .u8 a, .int .u8 b, .int .u8 c, .int .u8 d]

set_option maxRecDepth 100000 in
theorem headOf37 (n : Nat) (hn : n ≤ 1000000) (w : World) : Calls Tryz.prog 141 #[.int .i64 n] w fun e w' => e = .returned (.agg (hd4 (n / 16777216 % 256) (n / 65536 % 256) (n / 256 % 256) (n % 256))) ∧ Below w.heap.size w w' := by
  go_enter Tryz.func141, Tryz.ntmps141
  go_wp2_with fail
  refine bodyPost_ret (results_cell_row rfl _ _ w.heap.size THd _ (0, 0) _ rfl (World.alloc_heap_new w _) Tryz.underlying186 rfl size4) rfl ?_
  refine ⟨?_, below_alloc w _⟩
  rw [show (n : Int) / 16777216 = ((n / 16777216 % 256 : Nat) : Int) by omega, show (n : Int) / 65536 = ((n / 65536 % 256 : Nat) : Int) by omega, show (n : Int) / 256 % 256 = ((n / 256 % 256 : Nat) : Int) by omega, show (n : Int) % 256 = ((n % 256 : Nat) : Int) by omega]

theorem underB : Tryz.prog.underlying TBs = some (.slice TB) := Tryz.underlying35

theorem range_cat (f : Nat → Value) (n m : Nat) : (List.range (n + m)).map f = (List.range n).map f ++ (List.range m).map (fun j => f (n + j)) := by
  rw [List.range_add, List.map_append, List.map_map]
  rfl
theorem one_u8s (f : Nat → Nat) (j : Nat) : (u8s f j).oneCell' = true := rfl
end Go.Proofs.YtgdgimknnjbieaaGreatDoor

namespace Go.Proofs.YtgdgimknnjbieaaGreatDoor
open Go.RowKit Go.ChangeShapes

/-- bytes that came in: nil ones have no room -/
def IsBytesN (w : World) (a : Option Addr) (len cap : Nat) : Prop := ∃ f : Nat → Nat, (∀ j, f j < 256) ∧ len ≤ cap ∧ (a = none → cap = 0) ∧ ∀ b, w.heap.size ≤ b → Rd b w (u8s f) a len
/-- rows of bytes that came in -/
def IsRowsN (w : World) (a : Option Addr) (len cap : Nat) : Prop :=
  ∃ (As : Nat → Option Addr) (Ls Cs : Nat → Nat) (F : Nat → Nat → Nat), (∀ r j, F r j < 256) ∧ len ≤ cap ∧ (∀ r, r < len → As r = none → Cs r = 0) ∧ (∀ b, w.heap.size ≤ b → Rd b w (slis As Ls Cs) a len) ∧ ∀ r, r < len → ∀ b, w.heap.size ≤ b → Rd b w (u8s (F r)) (As r) (Ls r)

theorem bytesn_in {H : Type} {enc : TypeId × Value → H} {W : World} {base : Nat} {held : Bool} {fuel : Nat} {a : Option Addr} {len cap : Nat} {x : DataW H × List MemPlace}
    (h : DataW.trod enc Tryz.prog W base (fun _ => true) held fuel 35 [.slice a len cap] = some x) : IsBytesN W a len cap := by
  have h2 := bytes_in h
  obtain ⟨f, hf, hl, hr⟩ := h2
  refine ⟨f, hf, hl, fun ha => ?_, hr⟩
  rcases open_ints Tryz.underlying35 Tryz.underlying5 (by kernel_rfl) h with ⟨hcs, _⟩ | ⟨ad, l, c, zs, hcs, _⟩
  · simp at hcs
    exact hcs.2.2
  · simp at hcs
    rw [hcs.1] at ha
    cases ha

theorem rowsn_in {H : Type} {enc : TypeId × Value → H} {W : World} {base : Nat} {held : Bool} {fuel : Nat} {a : Option Addr} {len cap : Nat} {x : DataW H × List MemPlace}
    (h : DataW.trod enc Tryz.prog W base (fun _ => true) held fuel 24 [.slice a len cap] = some x) : IsRowsN W a len cap := by
  rcases Deep.open_int_rows Tryz.underlying24 Tryz.underlying35 Tryz.underlying5 (by kernel_rfl) (by kernel_rfl) h with ⟨hcs, _⟩ | ⟨ad, len', cap', A, L, C, Z, hcs, _, hl, hm, _, hrows⟩
  · simp at hcs
    obtain ⟨rfl, rfl, rfl⟩ := hcs
    exact ⟨fun _ => none, fun _ => 0, fun _ => 0, fun _ _ => 0, fun _ _ => Nat.zero_lt_succ _, Nat.le_refl _, fun r hr => absurd hr (by omega), fun _ _ => Rd.zero, fun r hr => absurd hr (by omega)⟩
  · simp at hcs
    obtain ⟨rfl, rfl, rfl⟩ := hcs
    refine ⟨A, L, C, fun r j => ((Z r).getD j 0).toNat % 256, fun r j => Nat.mod_lt _ (by omega), hl, fun r hr => (hrows r (by omega)).2.2.2.2.2.1, fun b hb hn => ⟨ad, rfl, ?_, ?_, fun j hj => (hrows j (by omega)).1⟩, fun r hr b hb hn => ?_⟩
    · have := lt_of_cell (hrows 0 (by omega)).1
      rw [block_of_add] at this
      omega
    · have := lt_of_cell (hrows 0 (by omega)).1
      rwa [block_of_add] at this
    · obtain ⟨_, h2, _, h3, h4, h5, h6⟩ := hrows r (by omega)
      rcases hA : A r with _ | a'
      · have := h5 hA
        omega
      · have hc := (h6 a' hA).2
        have hlt := lt_of_cell (hc 0 (by omega))
        rw [block_of_add] at hlt
        refine ⟨a', rfl, by omega, hlt, fun j hj => ?_⟩
        rw [hc j (by omega)]
        have := range_u8 h4 j
        simp only [u8s, List.getD_eq_getElem?_getD]
        congr 2
        omega
end Go.Proofs.YtgdgimknnjbieaaGreatDoor
