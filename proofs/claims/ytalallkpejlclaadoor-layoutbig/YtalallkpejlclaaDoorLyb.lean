/- Layer 10: contracts of unitOf, aheadOf, layoutOf and Size, and of the document's unit, layout and Size. -/
import Derived.Test.YtalallkpejlclaaDoorLya
import Derived.Test.YtalallkpejlclaaDoorGxv
namespace Go.Proofs.YtalallkpejlclaaDoor
open Go.RowKit

theorem wrap64_n (q : Nat) (h : q ≤ 1000000000) : wrap64 (q : Int) = (q : Int) := by unfold wrap64; omega

set_option maxRecDepth 100000 in
theorem unit23 (l : Int) (w : World) : Calls Tryd.prog 23 #[.int .u8 l] w fun e w' => e = .returned (.int .i64 (unitL l)) ∧ w = w' := by
  by_cases h1 : l = 106
  · subst h1
    go_enter Tryd.func23, Tryd.ntmps23
    go_wp2_with fail
    go_ret
    exact ⟨rfl, rfl⟩
  · have n1 : (l == 106) = false := by simp [h1]
    by_cases h2 : l = 105
    · subst h2
      go_enter Tryd.func23, Tryd.ntmps23
      go_wp2_with fail
      go_ret
      exact ⟨rfl, rfl⟩
    · have n2 : (l == 105) = false := by simp [h2]
      have HE := Lib.hid (show unitL l = 1 by unfold unitL; rw [if_neg h1, if_neg h2])
      go_enter Tryd.func23, Tryd.ntmps23
      go_wp2_with fail
      go_ret
      exact ⟨by rw [HE.out]; rfl, rfl⟩

set_option maxRecDepth 100000 in
theorem runit26 (l : Int) (w : World) : Calls Tryd.prog 26 #[.int .u8 l] w fun e w' => e = .returned (.int .i64 (unitL l)) ∧ w = w' := by
  by_cases h1 : l = 106
  · subst h1
    go_enter Tryd.func26, Tryd.ntmps26
    go_wp2_with fail
    go_ret
    exact ⟨rfl, rfl⟩
  · have n1 : (l == 106) = false := by simp [h1]
    by_cases h2 : l = 105
    · subst h2
      go_enter Tryd.func26, Tryd.ntmps26
      go_wp2_with fail
      go_ret
      exact ⟨rfl, rfl⟩
    · have n2 : (l == 105) = false := by simp [h2]
      have HE := Lib.hid (show unitL l = 1 by unfold unitL; rw [if_neg h1, if_neg h2])
      go_enter Tryd.func26, Tryd.ntmps26
      go_wp2_with fail
      go_ret
      exact ⟨by rw [HE.out]; rfl, rfl⟩

set_option maxRecDepth 100000 in
theorem ahead24 (l : Int) (w : World) : Calls Tryd.prog 24 #[.int .u8 l] w fun e w' => e = .returned (.int .i64 (aheadL l)) ∧ w = w' := by
  by_cases h1 : l = 98
  · subst h1
    go_enter Tryd.func24, Tryd.ntmps24
    go_wp2_with fail
    go_ret
    exact ⟨rfl, rfl⟩
  · have n1 : (l == 98) = false := by simp [h1]
    have HE := Lib.hid (show aheadL l = 0 by unfold aheadL; rw [if_neg h1])
    go_enter Tryd.func24, Tryd.ntmps24
    go_wp2_with fail
    go_ret
    exact ⟨by rw [HE.out]; rfl, rfl⟩

set_option maxRecDepth 100000 in
theorem layout22 (p k m : Int) (w : World) (hT : Tab w) : Calls Tryd.prog 22 #[.agg (parA p k m)] w fun e w' => e = .returned (.int .u8 (layI p)) ∧ Below w.heap.size w w' := by
  have hb0 := below_alloc w (.cells (parA p k m) TPa)
  have HT := Lib.hid (hT.below hb0)
  have H0 := Lib.hid hb0
  clear hT hb0
  go_enter Tryd.func22, Tryd.ntmps22
  go_wp2_with fail
  refine (of8 p _ HT.out).mono ?_
  rintro e w1 ⟨rfl, hb1⟩
  have HB := Lib.hid (below_tr (below_tr H0.out hb1) (below_alloc w1 (.cells (rowA p) TPr)))
  obtain ⟨x, hx⟩ : ∃ x, layI p = x := ⟨_, rfl⟩
  simp only [rowA, hx] at HB ⊢
  have HX := Lib.hid hx
  clear hb1 HT H0 hx
  go_wp2_with fail
  go_ret
  exact ⟨by rw [HX.out]; rfl, HB.out⟩

set_option maxRecDepth 100000 in
theorem rlayout25 (p k m : Int) (w : World) : Calls Tryd.prog 25 #[.agg (parA p k m)] w fun e w' => e = .returned (.int .u8 (layI p)) ∧ Below w.heap.size w w' := by
  have hb0 := below_alloc w (.cells (parA p k m) TPa)
  have H0 := Lib.hid hb0
  clear hb0
  go_enter Tryd.func25, Tryd.ntmps25
  go_wp2_with fail
  refine (rof9 p _).mono ?_
  rintro e w1 ⟨rfl, hb1⟩
  have HB := Lib.hid (below_tr (below_tr H0.out hb1) (below_alloc w1 (.cells (rowA p) TRw)))
  obtain ⟨x, hx⟩ : ∃ x, layI p = x := ⟨_, rfl⟩
  simp only [rowA, hx] at HB ⊢
  have HX := Lib.hid hx
  clear hb1 H0 hx
  go_wp2_with fail
  go_ret
  exact ⟨by rw [HX.out]; rfl, HB.out⟩

instance (p k m : Int) : Decidable (mayX p k m) := by unfold mayX; infer_instance
/-- what Size tells -/
def szE (p k m n : Int) : Int := if mayX p k m ∧ 0 ≤ n then (if n ≤ 4096 then 0 else 11) else 1
def szN (p k m n : Int) : Nat := if mayX p k m ∧ 0 ≤ n ∧ n ≤ 4096 then szU (unitL (layI p)) k.toNat (aheadL (layI p) + n.toNat) else 0
def SizeSaid (p k m n : Int) (w : World) (e : Ending) (w' : World) : Prop := e = .returned (.tuple #[.int .i64 (szN p k m n), .int .i64 (szE p k m n)]) ∧ Below w.heap.size w w'
theorem szE_arg {p k m n : Int} (h : ¬ (mayX p k m ∧ 0 ≤ n)) : szN p k m n = 0 ∧ szE p k m n = 1 := ⟨if_neg (fun h' => h ⟨h'.1, h'.2.1⟩), if_neg h⟩
theorem szE_big {p k m n : Int} (h1 : mayX p k m) (h2 : 4096 < n) : szN p k m n = 0 ∧ szE p k m n = 11 := ⟨if_neg (by omega), (if_pos ⟨h1, by omega⟩).trans (if_neg (by omega))⟩
theorem szE_ok {p : Int} {K N : Nat} {m : Int} (h1 : mayX p K m) (h2 : N ≤ 4096) : szN p K m N = szU (unitL (layI p)) K (aheadL (layI p) + N) ∧ szE p K m N = 0 := ⟨if_pos ⟨h1, by omega, by omega⟩, (if_pos ⟨h1, by omega⟩).trans (if_pos (by omega))⟩
theorem size_arg {p k m n : Int} (h : ¬ (mayX p k m ∧ 0 ≤ n)) {w w' : World} (hb : Below w.heap.size w w') : SizeSaid p k m n w (.returned (.tuple #[.int .i64 0, .int .i64 1])) w' :=
  ⟨by rw [(szE_arg h).1, (szE_arg h).2]; rfl, hb⟩
theorem size_big {p k m n : Int} (h1 : mayX p k m) (h2 : 4096 < n) {w w' : World} (hb : Below w.heap.size w w') : SizeSaid p k m n w (.returned (.tuple #[.int .i64 0, .int .i64 11])) w' :=
  ⟨by rw [(szE_big h1 h2).1, (szE_big h1 h2).2]; rfl, hb⟩
theorem size_ok {p : Int} {K N : Nat} {m : Int} (h1 : mayX p K m) (h2 : N ≤ 4096) {w w' : World} (hb : Below w.heap.size w w') : SizeSaid p K m N w (.returned (.tuple #[.int .i64 (szU (unitL (layI p)) K (aheadL (layI p) + N)), .int .i64 0])) w' :=
  ⟨by rw [(szE_ok h1 h2).1, (szE_ok h1 h2).2], hb⟩

set_option maxRecDepth 100000 in
set_option maxHeartbeats 2000000 in
theorem size10 (p k m n : Int) (w : World) (hT : Tab w) : Calls Tryd.prog 10 #[.agg (parA p k m), .int .i64 n] w (SizeSaid p k m n w) := by
  obtain ⟨v, hv⟩ : ∃ v, w.alloc (.cells #[.int .i64 p, .int .i64 k, .int .i64 m] TPa) = v := ⟨_, rfl⟩
  obtain ⟨_, e0, hbv⟩ := one_box hv
  have E0 := Lib.hid e0
  have HV := Lib.hid hbv
  have HT := Lib.hid (hT.below hbv)
  clear e0 hbv hT
  go_enter Tryd.func10, Tryd.ntmps10
  obtain ⟨d0, d1, d2⟩ := box_three E0.out
  go_wp2_with fail
  refine (may15 p k m _ HT.out).mono ?_
  rintro e w1 ⟨t, rfl, ht, hb1⟩
  have H1 := Lib.hid (below_tr HV.out hb1)
  have HT1 := Lib.hid (HT.out.below hb1)
  have E1 := Lib.hid (kept_box E0.out hb1)
  have HM := Lib.hid ht
  clear ht hb1 d0 d1 d2 HT
  cases t
  · have HE := Lib.hid (size_arg (p := p) (k := k) (m := m) (n := n) (fun h => by have := HM.out.2 h.1; cases this) H1.out)
    go_wp2_with fail
    go_ret2
    exact HE.out
  by_cases hn : n < 0
  · have HE := Lib.hid (size_arg (p := p) (k := k) (m := m) (n := n) (fun h => by omega) H1.out)
    go_wp2_with fail
    go_ret2
    exact HE.out
  by_cases hn2 : 4096 < n
  · have HE := Lib.hid (size_big (p := p) (k := k) (m := m) (n := n) (HM.out.1 rfl) hn2 H1.out)
    go_wp2_with fail
    go_ret2
    exact HE.out
  obtain ⟨N, rfl⟩ : ∃ N : Nat, n = (N : Int) := ⟨n.toNat, by omega⟩
  have hm := HM.out.1 rfl
  obtain ⟨K, rfl⟩ : ∃ K : Nat, k = (K : Int) := ⟨k.toNat, by have := hm.2.1; omega⟩
  have HE := Lib.hid (fun w' (h : Below w.heap.size w w') => size_ok (p := p) (K := K) (m := m) (N := N) hm (by omega) h)
  have hk1 := hm.2.1.1
  have hk2 := hm.2.1.2
  have hN : N ≤ 4096 := by omega
  clear hm HM hn hn2
  obtain ⟨d0, d1, d2⟩ := box_three E1.out
  go_wp2_with fail
  refine (layout22 p K m _ HT1.out).mono ?_
  rintro e w2 ⟨rfl, hb2⟩
  have H2 := Lib.hid (below_tr H1.out hb2)
  have E2 := Lib.hid (kept_box E1.out hb2)
  clear hb2 d0 d1 d2 HT1 H1 E1
  obtain ⟨l, hl⟩ : ∃ l, layI p = l := ⟨_, rfl⟩
  rw [hl] at HE ⊢
  clear hl
  go_wp2_with fail
  refine (unit23 l _).mono ?_
  rintro e w' ⟨rfl, rfl⟩
  obtain ⟨d0, d1, d2⟩ := box_three E2.out
  obtain ⟨u, hu⟩ : ∃ u, unitL l = u := ⟨_, rfl⟩
  have hu1 := unitL_pos l
  rw [hu] at HE hu1 ⊢
  clear hu
  obtain ⟨q, hq⟩ : ∃ q : Nat, K * u = q := ⟨_, rfl⟩
  have hq1 : 1 ≤ q ∧ q ≤ 128 := by
    rw [← hq]
    exact ⟨Nat.mul_pos (by omega) hu1.1, Nat.mul_le_mul (show K ≤ 8 by omega) hu1.2⟩
  have hwq : wrap64 ((K : Int) * (u : Int)) = (q : Int) := by
    rw [← Int.natCast_mul, hq]
    exact wrap64_n q (by omega)
  have HQ := Lib.hid hq
  clear hq
  go_wp2_with fail
  refine (ahead24 l _).mono ?_
  rintro e w' ⟨rfl, rfl⟩
  obtain ⟨a, ha⟩ : ∃ a, aheadL l = a := ⟨_, rfl⟩
  have ha4 := aheadL_le l
  rw [ha] at HE ha4 ⊢
  clear ha
  have hq0 : ¬ (q : Int) = 0 := by omega
  obtain ⟨d, hd⟩ : ∃ d : Nat, (a + N + q - 1) / q = d := ⟨_, rfl⟩
  have hd' : ((a : Int) + (N : Int) + (q : Int) - 1) / (q : Int) = (d : Int) := by
    rw [← hd, Int.natCast_ediv]
    congr 1
    omega
  have hdl : d ≤ 5000 := by
    rw [← hd]
    exact Nat.le_trans (Nat.div_le_self _ _) (by omega)
  have hdu : d * u ≤ 100000 := Nat.le_trans (Nat.mul_le_mul hdl hu1.2) (by omega)
  have hw1 : wrap64 (u : Int) = (u : Int) := wrap64_n u (by omega)
  have hw2 : wrap64 ((d : Int) * (u : Int)) = ((d * u : Nat) : Int) := by
    rw [← Int.natCast_mul]
    exact wrap64_n _ (by omega)
  have HS := Lib.hid (show szU u K (a + N) = u * max 1 d by unfold szU; rw [HQ.out, hd])
  clear hd hu1 hdl hdu
  go_wp2_with fail
  all_goals
    go_ret2
    refine cast (congrArg (fun x => SizeSaid _ _ _ _ _ (.returned (.tuple #[.int .i64 x, .int .i64 0])) _) ?_) (HE.out _ H2.out)
    rw [HS.out]
    first
      | (rw [show max 1 d = 1 by omega, Nat.mul_one])
      | (rw [show max 1 d = d by omega, Nat.mul_comm, Int.natCast_mul])

/-- in the loop of the document's Size -/
def RSizeAt (u K M : Nat) (v : World) (s6 : Value) (wr : World) : Prop := ∃ t : Nat, 1 ≤ t ∧ u * t ≤ 5000 ∧ s6 = .int .i64 (u * t : Nat) ∧ (t = 1 ∨ K * (u * (t - 1)) < M) ∧ Below v.heap.size v wr

set_option maxRecDepth 100000 in
set_option maxHeartbeats 2000000 in
theorem rsize11 (p k m n : Int) (w : World) : Calls Tryd.prog 11 #[.agg (parA p k m), .int .i64 n] w (SizeSaid p k m n w) := by
  obtain ⟨v, hv⟩ : ∃ v, w.alloc (.cells #[.int .i64 p, .int .i64 k, .int .i64 m] TPa) = v := ⟨_, rfl⟩
  obtain ⟨_, e0, hbv⟩ := one_box hv
  have E0 := Lib.hid e0
  have HV := Lib.hid hbv
  clear e0 hbv
  go_enter Tryd.func11, Tryd.ntmps11
  obtain ⟨d0, d1, d2⟩ := box_three E0.out
  go_wp2_with fail
  refine (rmay16 p k m _).mono ?_
  rintro e w1 ⟨t, rfl, ht, hb1⟩
  have H1 := Lib.hid (below_tr HV.out hb1)
  have E1 := Lib.hid (kept_box E0.out hb1)
  have HM := Lib.hid ht
  clear ht hb1 d0 d1 d2
  cases t
  · have HE := Lib.hid (size_arg (p := p) (k := k) (m := m) (n := n) (fun h => by have := HM.out.2 h.1; cases this) H1.out)
    go_wp2_with fail
    go_ret2
    exact HE.out
  by_cases hn : n < 0
  · have HE := Lib.hid (size_arg (p := p) (k := k) (m := m) (n := n) (fun h => by omega) H1.out)
    go_wp2_with fail
    go_ret2
    exact HE.out
  by_cases hn2 : 4096 < n
  · have HE := Lib.hid (size_big (p := p) (k := k) (m := m) (n := n) (HM.out.1 rfl) hn2 H1.out)
    go_wp2_with fail
    go_ret2
    exact HE.out
  obtain ⟨N, rfl⟩ : ∃ N : Nat, n = (N : Int) := ⟨n.toNat, by omega⟩
  have hm := HM.out.1 rfl
  obtain ⟨K, rfl⟩ : ∃ K : Nat, k = (K : Int) := ⟨k.toNat, by have := hm.2.1; omega⟩
  have HE := Lib.hid (fun w' (h : Below w.heap.size w w') => size_ok (p := p) (K := K) (m := m) (N := N) hm (by omega) h)
  have hk1 := hm.2.1.1
  have hk2 := hm.2.1.2
  have hN : N ≤ 4096 := by omega
  clear hm HM hn hn2
  obtain ⟨d0, d1, d2⟩ := box_three E1.out
  go_wp2_with fail
  refine (rlayout25 p K m _).mono ?_
  rintro e w2 ⟨rfl, hb2⟩
  have H2 := Lib.hid (below_tr H1.out hb2)
  have E2 := Lib.hid (kept_box E1.out hb2)
  clear hb2 d0 d1 d2 H1 E1
  obtain ⟨l, hl⟩ : ∃ l, layI p = l := ⟨_, rfl⟩
  have HL := Lib.hid hl
  rw [hl] at HE ⊢
  clear hl
  have hcase : (l == 98) = true ∧ aheadL l = 4 ∨ (l == 98) = false ∧ aheadL l = 0 := by
    unfold aheadL
    by_cases h : l = 98
    · exact Or.inl ⟨by simp [h], if_pos h⟩
    · exact Or.inr ⟨by simp [h], if_neg h⟩
  obtain ⟨M, hM⟩ : ∃ M, aheadL l + N = M := ⟨_, rfl⟩
  rw [hM] at HE
  rcases hcase with ⟨h98, ha⟩ | ⟨h98, ha⟩
  all_goals
    rw [ha] at hM
    clear ha
    have hM2 : M ≤ 4100 := by omega
    have hM3 := Nat.le_of_eq hM
    have hM4 := Nat.le_of_eq hM.symm
    clear hM
    obtain ⟨d0, d1, d2⟩ := box_three E2.out
    go_wp2_with fail
    refine (rlayout25 p K m _).mono ?_
    rintro e w3 ⟨rfl, hb3⟩
    have H3 := Lib.hid (below_tr H2.out hb3)
    have E3 := Lib.hid (kept_box E2.out hb3)
    rw [HL.out]
    clear hb3 d0 d1 d2
    go_wp2_with fail
    refine (runit26 l _).mono ?_
    rintro e w' ⟨rfl, rfl⟩
    have HU := Lib.hid (unitL_pos l)
    have hu1 := unitL_pos l
    obtain ⟨u, hu⟩ : ∃ u, unitL l = u := ⟨_, rfl⟩
    have HUU := Lib.hid hu
    rw [hu] at HE hu1 ⊢
    clear hu
    go_wp2_with fail
    go_loopw [6] (fun s6 wr => RSizeAt u K M w3 s6 wr) (fun s6 _ => 6000 - (intOf s6).toNat)
    case atStart => exact ⟨1, Nat.le_refl _, by omega, by rw [Nat.mul_one], Or.inl rfl, Below.refl _ _⟩
    case round =>
      obtain ⟨t, ht, hut, rfl, hl, hb⟩ := hrel
      obtain ⟨s, hs⟩ : ∃ s, u * t = s := ⟨_, rfl⟩
      have HS := Lib.hid hs
      have HLS := Lib.hid hl
      rw [hs] at hut ⊢
      obtain ⟨d0, d1, d2⟩ := box_three (kept_box E3.out hb)
      obtain ⟨x, hx⟩ : ∃ x, s * K = x := ⟨_, rfl⟩
      have hx4 : x ≤ 40000 := by rw [← hx]; exact Nat.le_trans (Nat.mul_le_mul hut (show K ≤ 8 by omega)) (by omega)
      have hwx : wrap64 ((s : Int) * (K : Int)) = (x : Int) := by
        rw [← Int.natCast_mul, hx]
        exact wrap64_n _ (by omega)
      have HX := Lib.hid hx
      have HB := Lib.hid hb
      clear hs hl hb hx
      by_cases hlt : x < M
      · have hsx : s ≤ x := by rw [← HX.out]; exact Nat.le_mul_of_pos_right s (by omega)
        go_wp2_with fail
        refine (rlayout25 p K m _).mono ?_
        rintro e w4 ⟨rfl, hb4⟩
        have H4 := Lib.hid (below_tr HB.out hb4)
        rw [HL.out]
        clear hb4 d0 d1 d2
        go_wp2_with fail
        refine (runit26 l _).mono ?_
        rintro e w' ⟨rfl, rfl⟩
        rw [HUU.out]
        go_wp2_with fail
        refine ⟨⟨t + 1, by omega, by rw [Nat.mul_succ, HS.out]; omega, by rw [Nat.mul_succ, HS.out]; go_num, Or.inr ?_, H4.out⟩, by simp [intOf]; omega⟩
        rw [Nat.add_sub_cancel, HS.out, Nat.mul_comm, HX.out]
        exact hlt
      · have hR : szU u K M = s := by
          rw [← HS.out]
          exact szU_least hu1.1 (by omega) ht (by rw [HS.out, Nat.mul_comm, HX.out]; omega) HLS.out
        rw [hR] at HE
        clear hR
        go_wp2_with fail
        go_ret2
        exact HE.out _ (below_tr H3.out HB.out)
end Go.Proofs.YtalallkpejlclaaDoor
