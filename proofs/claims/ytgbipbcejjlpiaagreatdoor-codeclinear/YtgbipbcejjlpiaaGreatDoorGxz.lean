/- Layer 10: the contract of Join. Layer 10: what is split is joined; layer 10's own first test. -/
import Derived.Test.YtgbipbcejjlpiaaGreatDoorGxy
import Derived.Deep.RegionHeld3
import Derived.Lib.SlBytesConst

namespace Go.Proofs.YtgbipbcejjlpiaaGreatDoor
open Go.RowKit

/-- may these shards be joined at all? -/
def okJ (p k m : Int) (N : Nat) (Ls : Nat → Nat) : Prop := mayX p k m ∧ (N : Int) = k ∧ alikeR N Ls
def err3 (s t : Bool) : Int := if s then (if t then 0 else 3) else 1
/-- what Join tells -/
def JoinSaid (p k m : Int) (N : Nat) (Ls : Nat → Nat) (F : Nat → Nat → Nat) (n : Int) (w : World) (e : Ending) (w' : World) : Prop :=
  ∃ s t v, e = .returned (.tuple #[v, .int .i64 (err3 s t)]) ∧ (s = true ↔ okJ p k m N Ls) ∧ (t = true ↔ s = true ∧ joinsP (layI p) N (Ls 0) n F) ∧
    BytesOut (cond t (numJ (layI p) n (catF (Ls 0) F)).toNat 0) (fun i => catF (Ls 0) F (aheadL (layI p) + i)) w v w'
theorem JoinSaid.arg {p k m : Int} {N : Nat} {Ls : Nat → Nat} {F : Nat → Nat → Nat} {n : Int} {w w' : World} (h : ¬ okJ p k m N Ls) (hb : Below w.heap.size w w') : JoinSaid p k m N Ls F n w (.returned (.tuple #[nilS, .int .i64 1])) w' :=
  ⟨false, false, _, rfl, by simp [h], by simp, BytesOut.nil hb⟩
theorem JoinSaid.form {p k m : Int} {N : Nat} {Ls : Nat → Nat} {F : Nat → Nat → Nat} {n : Int} {w w' : World} (h : okJ p k m N Ls) (h2 : ¬ joinsP (layI p) N (Ls 0) n F) (hb : Below w.heap.size w w') : JoinSaid p k m N Ls F n w (.returned (.tuple #[nilS, .int .i64 3])) w' :=
  ⟨true, false, _, rfl, by simp [h], by simp [h2], BytesOut.nil hb⟩
theorem JoinSaid.ok {p k m : Int} {N : Nat} {Ls : Nat → Nat} {F : Nat → Nat → Nat} {n : Int} {w w' : World} {v : Value} (h : okJ p k m N Ls) (h2 : joinsP (layI p) N (Ls 0) n F) (hb : BytesOut (numJ (layI p) n (catF (Ls 0) F)).toNat (fun i => catF (Ls 0) F (aheadL (layI p) + i)) w v w') :
    JoinSaid p k m N Ls F n w (.returned (.tuple #[v, .int .i64 0])) w' :=
  ⟨true, true, _, rfl, by simp [h], by simp [h2], hb⟩

/-- where 's[a:]' begins -/
def cutA (a : Nat) (A : Option Addr) (c : Nat) : Option Addr := if c = a then A else A.map (·.add a)
theorem sizeTBs (w : World) : (sizeOf (Tryz.prog.elem TBs)).run Tryz.prog w = .ok 1 w := by
  obtain ⟨i0, hi, _, hz1, _⟩ := info_parts infoB
  rw [show Tryz.prog.elem TBs = TB by kernel_rfl]
  simp [sizeOf, typeInfo, hi, hz1]
theorem run_cutB (A : Option Addr) (q c a M : Nat) (h : a + M ≤ c) (w : World) : (Instr.slice TBs (.slice A q c) (some (.int .i64 (a : Int))) (some (.int .i64 ((a : Int) + (M : Int)))) none).run Tryz.prog w = .ok (.slice (cutA a A c) M (c - a)) w := by
  have hu : Tryz.prog.underlying TBs = some (.slice (Tryz.prog.elem TBs)) := by rw [show Tryz.prog.elem TBs = TB by kernel_rfl]; exact Tryz.underlying34
  rw [run_slice_lh w TBs A q c hu .i64 .i64 (a : Int) ((a : Int) + (M : Int)) (by omega) (by omega) (by omega), sizeTBs]
  have e : ((a : Int) + (M : Int)).toNat - a = M := by omega
  simp [Result.andThen, sliced, cutA, e]
theorem run_cutAtB (A : Option Addr) (q c a M : Nat) (h : a + M ≤ c) (w : World) : (Instr.sliceAt TBs (.slice A q c) (some (.int .i64 (a : Int))) (some (.int .i64 ((a : Int) + (M : Int)))) none).run Tryz.prog w = .ok (.slice (cutA a A c) M (c - a)) w := by
  have hu : Tryz.prog.underlying TBs = some (.slice (Tryz.prog.elem TBs)) := by rw [show Tryz.prog.elem TBs = TB by kernel_rfl]; exact Tryz.underlying34
  rw [run_sliceAt_slice w TBs _ _ _ _ hu, run_cutB A q c a M h]
/-- Split of what is told is the shards, just if they are of it -/
theorem same_join {p l n : Int} {N S M a : Nat} {F : Nat → Nat → Nat} {Ls : Nat → Nat} (hl : layI p = l) (ha : aheadL l = a) (hn : numJ l n (catF S F) = (M : Int)) (hM : M ≤ 4096) (hS : S = szU (unitL (layI p)) N (aheadL (layI p) + M)) (haM : a + M ≤ N * S) (hL : ∀ r, r < N → Ls r = S) :
    sameP N N (fun _ => S) Ls (splF p S M (fun i => catF S F (a + i))) F ↔ joinsP l N S n F := by
  subst hl ha
  unfold joinsP
  rw [hn, Int.toNat_natCast]
  constructor
  · rintro ⟨_, h⟩
    exact ⟨by omega, by omega, by omega, hS.symm, fun r hr j hj => (h r hr).2 j hj⟩
  · rintro ⟨_, _, _, _, h⟩
    exact ⟨rfl, fun r hr => ⟨(hL r hr).symm, fun j hj => h r hr j hj⟩⟩
theorem rd_cutB {b : Nat} {w : World} {k : Nat → Value} {A : Option Addr} {q c a M : Nat} (h : Rd b w k A q) (hc : q ≤ c) (hM : a + M ≤ q) : Rd b w (fun j => k (a + j)) (cutA a A c) M := (h.cut (i := a) (by omega) hc).take (by omega)

set_option maxRecDepth 100000 in
set_option maxHeartbeats 2000000 in
theorem join_arg (b : Nat) (p k m : Int) (F : Nat → Nat → Nat) (Ls : Nat → Nat) (A : Option Addr) (N ca : Nat) (hN : N ≤ 1000000000) (n : Int) (w : World) (hT : Tab w) (hr : Bx b w F Ls A N) (hno : ¬ okJ p k m N Ls) :
    Calls Tryz.prog 19 #[.agg (parA p k m), .slice A N ca, .int .i64 n] w (JoinSaid p k m N Ls F n w) := by
  obtain ⟨v, hv⟩ : ∃ v, w.alloc (.cells #[.int .i64 p, .int .i64 k, .int .i64 m] TPa) = v := ⟨_, rfl⟩
  obtain ⟨_, e0, hbv⟩ := one_box hv
  have E0 := Lib.hid e0
  have HV := Lib.hid hbv
  have HM := Lib.hid (may15 p k m v (hT.below hbv))
  have HE := Lib.hid (fun w' (h : Below w.heap.size w w') => JoinSaid.arg (F := F) (n := n) hno h)
  have HNO := Lib.hid hno
  obtain ⟨As, Cs, hr1, _⟩ := hr
  have HR := Lib.hid hr1
  clear e0 hbv hT hno hr1
  obtain ⟨d0, d1, d2⟩ := box_three E0.out
  go_enter Tryz.func19, Tryz.ntmps19
  go_wp2_with fail
  refine HM.out.mono ?_
  rintro e w1 ⟨t, rfl, ht, hb1⟩
  have H1 := Lib.hid (below_tr HV.out hb1)
  have E1 := Lib.hid (kept_box E0.out hb1)
  have HT := Lib.hid ht
  clear ht hb1 d0 d1 d2 HM
  cases t
  · go_wp2_with fail
    go_ret2
    exact HE.out _ H1.out
  obtain ⟨d0, d1, d2⟩ := box_three E1.out
  have HMY := Lib.hid (HT.out.1 rfl)
  clear HT
  by_cases hk : (N : Int) = k
  · have hne : ((N : Int) != k) = false := by simp [hk]
    have HK := Lib.hid hk
    clear hk
    go_wp2_with fail
    refine (alike29 b As Ls Cs A N ca hN _ (HR.out.below H1.out)).mono ?_
    rintro e w' ⟨t, rfl, ht, rfl⟩
    obtain rfl : t = false := by
      cases t
      · rfl
      · exact absurd (show okJ p k m N Ls from ⟨HMY.out, HK.out, ht.1 rfl⟩) HNO.out
    clear ht
    go_wp2_with fail
    go_ret2
    exact HE.out _ H1.out
  · have hne : ((N : Int) != k) = true := by simp [hk]
    clear hk
    go_wp2_with fail
    go_ret2
    exact HE.out _ H1.out

set_option maxRecDepth 100000 in
set_option maxHeartbeats 4000000 in
theorem join_go (b : Nat) (p m : Int) (F : Nat → Nat → Nat) (hF : ∀ r j, F r j < 256) (Ls : Nat → Nat) (A : Option Addr) (N ca S : Nat) (hS : Ls 0 = S) (hS2 : S ≤ 100000000) (n : Int) (w : World) (hT : Tab w) (hr : Bx b w F Ls A N) (hok : okJ p N m N Ls) :
    Calls Tryz.prog 19 #[.agg (parA p N m), .slice A N ca, .int .i64 n] w (JoinSaid p N m N Ls F n w) := by
  obtain ⟨v, hv⟩ : ∃ v, w.alloc (.cells #[.int .i64 p, .int .i64 (N : Int), .int .i64 m] TPa) = v := ⟨_, rfl⟩
  obtain ⟨_, e0, hbv⟩ := one_box hv
  have E0 := Lib.hid e0
  have HV := Lib.hid hbv
  have HT0 := Lib.hid (hT.below hbv)
  have HBX := Lib.hid hr
  have HOK := Lib.hid hok
  have n1 : 1 ≤ N := by have := hok.1.2.1; omega
  have n8 : N ≤ 8 := by have := hok.1.2.1; omega
  have HL := Lib.hid (show ∀ r, r < N → Ls r = S from fun r hr => by rw [hok.2.2 r hr, hS])
  obtain ⟨As, Cs, hr1, hr2⟩ := hr
  obtain ⟨ad, rfl, c0⟩ := hr1.at_ (show 0 < N by omega)
  rw [show ad.add 0 = ad by simp [Addr.add]] at c0
  simp only [slis, hS] at c0
  have HC0 := Lib.hid c0
  have HR := Lib.hid hr1
  have HM := Lib.hid (may15 p N m v HT0.out)
  have HEF := Lib.hid (fun w' (h1 : ¬ joinsP (layI p) N S n F) (h : Below w.heap.size w w') => JoinSaid.form (w' := w') hok (by rw [hS]; exact h1) h)
  have HEO := Lib.hid (fun v w' (h1 : joinsP (layI p) N S n F) (h : BytesOut (numJ (layI p) n (catF S F)).toNat (fun i => catF S F (aheadL (layI p) + i)) w v w') => JoinSaid.ok (w' := w') (v := v) hok (by rw [hS]; exact h1) (by rw [hS]; exact h))
  have hlc := lt_of_cell c0
  clear e0 hbv hT hr1 hr2 hok c0 hS
  obtain ⟨d0, d1, d2⟩ := box_three E0.out
  go_enter Tryz.func19, Tryz.ntmps19
  go_wp2_with fail
  refine HM.out.mono ?_
  rintro e w1 ⟨t, rfl, ht, hb1⟩
  obtain rfl : t = true := ht.2 HOK.out.1
  have H1 := Lib.hid (below_tr HV.out hb1)
  have E1 := Lib.hid (kept_box E0.out hb1)
  have HT1 := Lib.hid (HT0.out.below hb1)
  clear ht hb1 d0 d1 d2 HM HT0
  obtain ⟨d0, d1, d2⟩ := box_three E1.out
  go_wp2_with fail
  refine (alike29 b As Ls Cs _ N ca (by omega) _ (HR.out.below H1.out)).mono ?_
  rintro e w' ⟨t, rfl, ht, rfl⟩
  obtain rfl : t = true := ht.2 HOK.out.2.2
  clear ht
  have c1 := (H1.out.cell hlc).trans HC0.out
  have KS := Lib.hid (show ∀ w', Below w1.heap.size w1 w' → w'.cell? ⟨w.heap.size, 0, none⟩ = some (.int .i64 p) ∧ w'.cell? ⟨w.heap.size, 1, none⟩ = some (.int .i64 (N : Int)) ∧ w'.cell? ⟨w.heap.size, 2, none⟩ = some (.int .i64 m) ∧ w'.cell? ad = some (.slice (As 0) S (Cs 0)) ∧ Below w1.heap.size w1 w' from
    fun w' h => ⟨(h.cell (lt_of_cell d0)).trans d0, (h.cell (lt_of_cell d1)).trans d1, (h.cell (lt_of_cell d2)).trans d2, (h.cell (lt_of_cell c1)).trans c1, h⟩)
  have hn0 : (0 : Int) < (N : Int) := by omega
  have hn0' : 0 < N := by omega
  obtain ⟨l, hl⟩ : ∃ l, layI p = l := ⟨_, rfl⟩
  have HLY := Lib.hid hl
  rw [hl] at HEF HEO
  clear hl
  go_wp2_with fail
  clear c1 d0 d1 d2
  have hst : Below w1.heap.size w1 w1.drew := (Below.refl _ w1).drew
  go_region_held3 (fun w' => w'.cell? ⟨w.heap.size, 0, none⟩ = some (.int .i64 p) ∧ w'.cell? ⟨w.heap.size, 1, none⟩ = some (.int .i64 (N : Int)) ∧ w'.cell? ⟨w.heap.size, 2, none⟩ = some (.int .i64 m) ∧ w'.cell? ad = some (.slice (As 0) S (Cs 0)) ∧ Below w1.heap.size w1 w')
    (first | exact KS.out _ hst | exact KS.out _ (below_tr hst hb2) | assumption)
    (first | (go_at_call 35; refine (layout22 p N m _ (HT1.out.below hst)).mono ?_; rintro e w2 ⟨rfl, hb2⟩; rw [HLY.out]))
  all_goals
    have hb12 := below_tr hst hb2
    have H2 := Lib.hid (below_tr H1.out hb12)
    have E2 := Lib.hid (kept_box E1.out hb12)
    have HT2 := Lib.hid (HT1.out.below hb12)
    clear hst hb2 hb12 KS H1 E1 HT1 HC0
    go_wp2_with fail
    refine (ahead24 l _).mono ?_
    rintro e w' ⟨rfl, rfl⟩
    have ha4 := aheadL_le l
    obtain ⟨a, ha⟩ : ∃ a, aheadL l = a := ⟨_, rfl⟩
    have HA := Lib.hid ha
    rw [ha] at ha4 ⊢
    clear ha
    obtain ⟨d0, d1, d2⟩ := box_three E2.out
    obtain ⟨q, hq⟩ : ∃ q, N * S = q := ⟨_, rfl⟩
    have hq8 : q ≤ 800000000 := by rw [← hq]; exact Nat.le_trans (Nat.mul_le_mul n8 hS2) (by omega)
    have hwq : wrap64 ((N : Int) * (S : Int)) = (q : Int) := by
      rw [← Int.natCast_mul, hq]
      exact wrap64_n _ (by omega)
    have HQ := Lib.hid hq
    clear hq
    by_cases hqa : q < a
    · have HR3 := Lib.hid (HEF.out w2 (fun h => by have := h.1; rw [HA.out, HQ.out] at this; omega) H2.out)
      go_wp2_with fail
      go_ret2
      exact HR3.out
    obtain ⟨nn, hnn⟩ : ∃ nn, numJ l n (catF S F) = nn := ⟨_, rfl⟩
    have HNN := Lib.hid hnn
    have hcase : ((l == 98) = true ∧ 4 ≤ q ∧ ((((catF S F 0 * 256 + catF S F 1) * 256 + catF S F 2) * 256 + catF S F 3 : Nat) : Int) = nn) ∨ ((l == 98) = false ∧ n = nn) := by
      by_cases h : l = 98
      · refine Or.inl ⟨by simp [h], ?_, ?_⟩
        · have := HA.out
          rw [h, show aheadL 98 = 4 from rfl] at this
          omega
        · rw [← hnn]
          unfold numJ saysF
          rw [if_pos h]
      · refine Or.inr ⟨by simp [h], ?_⟩
        rw [← hnn]
        unfold numJ
        rw [if_neg h]
    clear hnn
    rcases hcase with ⟨h98, h4, hnn⟩ | ⟨h98, hnn⟩
    · have HH := Lib.hid (headIn30 b F hF Ls (some ad) N ca S (by rw [HQ.out]; exact h4) (by omega) (by omega) w2 (HBX.out.below H2.out) HL.out)
      have HSY := Lib.hid (fun w => says31 (catF S F 0) (catF S F 1) (catF S F 2) (catF S F 3) (hF _ _) (hF _ _) (hF _ _) (hF _ _) w)
      rw [hnn] at HSY
      clear hnn
      go_wp2_with fail
      refine HH.out.mono ?_
      rintro e w3 ⟨rfl, hb3⟩
      have H3 := Lib.hid (below_tr H2.out hb3)
      have E3 := Lib.hid (kept_box E2.out hb3)
      have HT3 := Lib.hid (HT2.out.below hb3)
      clear hb3 d0 d1 d2
      go_wp2_with fail
      refine (HSY.out _).mono ?_
      rintro e w4 ⟨rfl, hb4⟩
      have H4 := Lib.hid (below_tr H3.out hb4)
      have E4 := Lib.hid (kept_box E3.out hb4)
      have HT4 := Lib.hid (HT3.out.below hb4)
      clear hb4 H2 E2 HT2 H3 E3 HT3 HH HSY
      obtain ⟨d0, d1, d2⟩ := box_three E4.out
      go_wp2_with fail
      refine (size10 p N m nn w4 HT4.out).mono ?_
      clear d0 d1 d2
      rintro e w5 ⟨rfl, hb5⟩
      have H5 := Lib.hid (below_tr H4.out hb5)
      have E5 := Lib.hid (kept_box E4.out hb5)
      have HT5 := Lib.hid (HT4.out.below hb5)
      have hm := HOK.out.1
      clear hb5 H4 E4 HT4
      by_cases hE : szE p N m nn = 0
      · obtain ⟨M, hM, hM2⟩ : ∃ M : Nat, nn = (M : Int) ∧ M ≤ 4096 := by
          unfold szE at hE
          split at hE
          · split at hE
            · exact ⟨nn.toNat, by omega, by omega⟩
            · omega
          · omega
        subst hM
        have hS' := (szE_ok hm hM2).1
        have HN := Lib.hid (show splN p N m M = N from (if_pos hE).trans (Int.toNat_natCast N))
        rw [hE]
        obtain ⟨S', hSS'⟩ : ∃ S', szN p N m M = S' := ⟨_, rfl⟩
        rw [hSS'] at hS' ⊢
        have HS' := Lib.hid hS'
        have HSN := Lib.hid hSS'
        clear hSS' hS' hE hm
        by_cases hSS : S' = S
        · subst hSS
          have hsg := szU_ge (u := unitL (layI p)) (K := N) (m := aheadL (layI p) + M) (unitL_pos _).1 n1
          have hsl := szU_le (u := unitL (layI p)) (K := N) (m := aheadL (layI p) + M) (unitL_pos _).1 n1
          have hu := unitL_pos (layI p)
          rw [← HS'.out, HLY.out, HA.out] at hsg hsl
          rw [HLY.out] at hu
          have s1 : 1 ≤ S' := by omega
          have s2 : S' ≤ 5000 := by omega
          have haM : a + M ≤ q := by rw [← HQ.out]; exact hsg.1
          have hq5 : q ≤ 40000 := by rw [← HQ.out]; exact Nat.le_trans (Nat.mul_le_mul n8 s2) (by omega)
          have HCC := Lib.hid (concat32 b F Ls (some ad) N ca S' n1 (by omega) s1 (by omega) w5 (HBX.out.below H5.out) HL.out)
          rw [HQ.out] at HCC
          have hw0 : 0 < w.heap.size := by omega
          clear hsg hsl hu
          go_wp2_with fail
          refine HCC.out.mono ?_
          rintro e w6 ⟨v6, rfl, happ⟩
          have H6 := Lib.hid (below_tr H5.out happ.2)
          have E6 := Lib.hid (kept_box E5.out happ.2)
          have HT6 := Lib.hid (HT5.out.below happ.2)
          have hlow := H5.out.size
          obtain ⟨A6, c6, rfl, hc6, _⟩ := happ.rd (show 0 < w5.heap.size by omega)
          have HAPP := Lib.hid happ
          clear happ HCC H5 E5 HT5
          obtain ⟨d0, d1, d2⟩ := box_three E6.out
          have hcut := run_cutB A6 q c6 a M (by omega)
          have hcut2 := run_cutAtB A6 q c6 a M (by omega)
          have hrd7 : ∀ g, g < w.heap.size → Rd g w6 (u8s fun i => catF S' F (a + i)) (cutA a A6 c6) M := fun g hg => by
            obtain ⟨A9, c9, e9, _, h9⟩ := HAPP.out.rd (show g < w5.heap.size by omega)
            injection e9 with e9
            subst e9
            exact rd_cutB h9 hc6 haM
          obtain ⟨A7, hA7⟩ : ∃ A7, cutA a A6 c6 = A7 := ⟨_, rfl⟩
          rw [hA7] at hrd7 hcut hcut2
          have HR7 := Lib.hid hrd7
          clear hrd7 hA7
          go_wp2_with fail
          refine (split12 0 p N m (fun i => catF S' F (a + i)) A7 M (c6 - a) w6 HT6.out (HR7.out 0 hw0)).mono ?_
          rintro e w8 ⟨v8, rfl, hv8⟩
          obtain ⟨A8, c8, rfl, _, hx8, hb8⟩ := hv8
          have H8 := Lib.hid (below_tr H6.out hb8)
          have HR8 := Lib.hid (fun g (hg : g < w.heap.size) => (HR7.out g hg).below hb8)
          have hlow6 := H6.out.size
          have hx8' := hx8 0 (by omega)
          rw [HN.out, HSN.out] at hx8'
          have HX8 := Lib.hid hx8'
          rw [HN.out]
          have HSJ := Lib.hid (same_join (S := S') HLY.out HA.out HNN.out hM2 HS'.out (by rw [HQ.out]; exact haM) HL.out)
          clear hx8'
          have HEQ := Lib.hid (equal33 0 b _ F (fun r j => laidB_lt (fun i => hF _ _) _) hF (fun _ => S') Ls A8 (some ad) N N c8 ca (by omega) w8 HX8.out (HBX.out.below H8.out))
          clear hcut hcut2 hx8 hb8 d0 d1 d2 H6 E6 HT6 HAPP HR7
          go_wp2_with fail
          refine HEQ.out.mono ?_
          rintro e w9 ⟨t, rfl, ht, hb9⟩
          have ht' := ht.trans HSJ.out
          have H9 := Lib.hid (below_tr H8.out hb9)
          have HR9 := Lib.hid (fun g (hg : g < w.heap.size) => (HR8.out g hg).below hb9)
          have hNN := HNN.out
          have hAA := HA.out
          clear ht hb9 HEQ H8 HR8 HX8
          cases t
          · have HR3 := Lib.hid (HEF.out w9 (fun h => by have := ht'.2 h; cases this) H9.out)
            clear ht'
            go_wp2_with fail
            go_ret2
            exact HR3.out
          · have HR3 := Lib.hid (HEO.out (.slice A7 M (c6 - a)) w9 (ht'.1 rfl) (by
              rw [hNN, hAA, Int.toNat_natCast]
              exact ⟨A7, c6 - a, rfl, by omega, HR9.out, H9.out⟩))
            clear ht'
            go_wp2_with fail
            go_ret2
            exact HR3.out
        · have hne : ((S' : Int) != (S : Int)) = true := by simp; omega
          have HR3 := Lib.hid (HEF.out w5 (fun h => by
            have h4 := h.2.2.2.1
            rw [HNN.out, Int.toNat_natCast, ← HLY.out, ← HS'.out] at h4
            exact hSS h4) H5.out)
          clear hSS
          go_wp2_with fail
          go_ret2
          exact HR3.out
      · have HR3 := Lib.hid (HEF.out w5 (fun h => by
          have h2 := h.2.1
          have h3 := h.2.2.1
          rw [HNN.out] at h2 h3
          exact hE ((if_pos ⟨hm, h2⟩).trans (if_pos h3))) H5.out)
        obtain ⟨x, hx⟩ : ∃ x, szE p N m nn = x := ⟨_, rfl⟩
        rw [hx] at hE ⊢
        have hne : (x != 0) = true := by simp [hE]
        clear hx hE
        go_wp2_with fail
        go_ret2
        exact HR3.out
    · have E4 := E2
      have HT4 := HT2
      have H4 := H2
      clear E2 HT2 H2
      go_wp2_with fail
      clear hnn
      refine (size10 p N m nn w2 HT4.out).mono ?_
      clear d0 d1 d2
      rintro e w5 ⟨rfl, hb5⟩
      have H5 := Lib.hid (below_tr H4.out hb5)
      have E5 := Lib.hid (kept_box E4.out hb5)
      have HT5 := Lib.hid (HT4.out.below hb5)
      have hm := HOK.out.1
      clear hb5 H4 E4 HT4
      by_cases hE : szE p N m nn = 0
      · obtain ⟨M, hM, hM2⟩ : ∃ M : Nat, nn = (M : Int) ∧ M ≤ 4096 := by
          unfold szE at hE
          split at hE
          · split at hE
            · exact ⟨nn.toNat, by omega, by omega⟩
            · omega
          · omega
        subst hM
        have hS' := (szE_ok hm hM2).1
        have HN := Lib.hid (show splN p N m M = N from (if_pos hE).trans (Int.toNat_natCast N))
        rw [hE]
        obtain ⟨S', hSS'⟩ : ∃ S', szN p N m M = S' := ⟨_, rfl⟩
        rw [hSS'] at hS' ⊢
        have HS' := Lib.hid hS'
        have HSN := Lib.hid hSS'
        clear hSS' hS' hE hm
        by_cases hSS : S' = S
        · subst hSS
          have hsg := szU_ge (u := unitL (layI p)) (K := N) (m := aheadL (layI p) + M) (unitL_pos _).1 n1
          have hsl := szU_le (u := unitL (layI p)) (K := N) (m := aheadL (layI p) + M) (unitL_pos _).1 n1
          have hu := unitL_pos (layI p)
          rw [← HS'.out, HLY.out, HA.out] at hsg hsl
          rw [HLY.out] at hu
          have s1 : 1 ≤ S' := by omega
          have s2 : S' ≤ 5000 := by omega
          have haM : a + M ≤ q := by rw [← HQ.out]; exact hsg.1
          have hq5 : q ≤ 40000 := by rw [← HQ.out]; exact Nat.le_trans (Nat.mul_le_mul n8 s2) (by omega)
          have HCC := Lib.hid (concat32 b F Ls (some ad) N ca S' n1 (by omega) s1 (by omega) w5 (HBX.out.below H5.out) HL.out)
          rw [HQ.out] at HCC
          have hw0 : 0 < w.heap.size := by omega
          clear hsg hsl hu
          go_wp2_with fail
          refine HCC.out.mono ?_
          rintro e w6 ⟨v6, rfl, happ⟩
          have H6 := Lib.hid (below_tr H5.out happ.2)
          have E6 := Lib.hid (kept_box E5.out happ.2)
          have HT6 := Lib.hid (HT5.out.below happ.2)
          have hlow := H5.out.size
          obtain ⟨A6, c6, rfl, hc6, _⟩ := happ.rd (show 0 < w5.heap.size by omega)
          have HAPP := Lib.hid happ
          clear happ HCC H5 E5 HT5
          obtain ⟨d0, d1, d2⟩ := box_three E6.out
          have hcut := run_cutB A6 q c6 a M (by omega)
          have hcut2 := run_cutAtB A6 q c6 a M (by omega)
          have hrd7 : ∀ g, g < w.heap.size → Rd g w6 (u8s fun i => catF S' F (a + i)) (cutA a A6 c6) M := fun g hg => by
            obtain ⟨A9, c9, e9, _, h9⟩ := HAPP.out.rd (show g < w5.heap.size by omega)
            injection e9 with e9
            subst e9
            exact rd_cutB h9 hc6 haM
          obtain ⟨A7, hA7⟩ : ∃ A7, cutA a A6 c6 = A7 := ⟨_, rfl⟩
          rw [hA7] at hrd7 hcut hcut2
          have HR7 := Lib.hid hrd7
          clear hrd7 hA7
          go_wp2_with fail
          refine (split12 0 p N m (fun i => catF S' F (a + i)) A7 M (c6 - a) w6 HT6.out (HR7.out 0 hw0)).mono ?_
          rintro e w8 ⟨v8, rfl, hv8⟩
          obtain ⟨A8, c8, rfl, _, hx8, hb8⟩ := hv8
          have H8 := Lib.hid (below_tr H6.out hb8)
          have HR8 := Lib.hid (fun g (hg : g < w.heap.size) => (HR7.out g hg).below hb8)
          have hlow6 := H6.out.size
          have hx8' := hx8 0 (by omega)
          rw [HN.out, HSN.out] at hx8'
          have HX8 := Lib.hid hx8'
          rw [HN.out]
          have HSJ := Lib.hid (same_join (S := S') HLY.out HA.out HNN.out hM2 HS'.out (by rw [HQ.out]; exact haM) HL.out)
          clear hx8'
          have HEQ := Lib.hid (equal33 0 b _ F (fun r j => laidB_lt (fun i => hF _ _) _) hF (fun _ => S') Ls A8 (some ad) N N c8 ca (by omega) w8 HX8.out (HBX.out.below H8.out))
          clear hcut hcut2 hx8 hb8 d0 d1 d2 H6 E6 HT6 HAPP HR7
          go_wp2_with fail
          refine HEQ.out.mono ?_
          rintro e w9 ⟨t, rfl, ht, hb9⟩
          have ht' := ht.trans HSJ.out
          have H9 := Lib.hid (below_tr H8.out hb9)
          have HR9 := Lib.hid (fun g (hg : g < w.heap.size) => (HR8.out g hg).below hb9)
          have hNN := HNN.out
          have hAA := HA.out
          clear ht hb9 HEQ H8 HR8 HX8
          cases t
          · have HR3 := Lib.hid (HEF.out w9 (fun h => by have := ht'.2 h; cases this) H9.out)
            clear ht'
            go_wp2_with fail
            go_ret2
            exact HR3.out
          · have HR3 := Lib.hid (HEO.out (.slice A7 M (c6 - a)) w9 (ht'.1 rfl) (by
              rw [hNN, hAA, Int.toNat_natCast]
              exact ⟨A7, c6 - a, rfl, by omega, HR9.out, H9.out⟩))
            clear ht'
            go_wp2_with fail
            go_ret2
            exact HR3.out
        · have hne : ((S' : Int) != (S : Int)) = true := by simp; omega
          have HR3 := Lib.hid (HEF.out w5 (fun h => by
            have h4 := h.2.2.2.1
            rw [HNN.out, Int.toNat_natCast, ← HLY.out, ← HS'.out] at h4
            exact hSS h4) H5.out)
          clear hSS
          go_wp2_with fail
          go_ret2
          exact HR3.out
      · have HR3 := Lib.hid (HEF.out w5 (fun h => by
          have h2 := h.2.1
          have h3 := h.2.2.1
          rw [HNN.out] at h2 h3
          exact hE ((if_pos ⟨hm, h2⟩).trans (if_pos h3))) H5.out)
        obtain ⟨x, hx⟩ : ∃ x, szE p N m nn = x := ⟨_, rfl⟩
        rw [hx] at hE ⊢
        have hne : (x != 0) = true := by simp [hE]
        clear hx hE
        go_wp2_with fail
        go_ret2
        exact HR3.out

theorem join16 (b : Nat) (p k m : Int) (F : Nat → Nat → Nat) (hF : ∀ r j, F r j < 256) (Ls : Nat → Nat) (A : Option Addr) (N ca : Nat) (hN : N ≤ 1000000000) (hL : ∀ r, r < N → Ls r ≤ 100000000) (n : Int) (w : World) (hT : Tab w) (hr : Bx b w F Ls A N) :
    Calls Tryz.prog 19 #[.agg (parA p k m), .slice A N ca, .int .i64 n] w (JoinSaid p k m N Ls F n w) := by
  by_cases hok : okJ p k m N Ls
  · have hk := hok.2.1
    subst hk
    exact join_go b p m F hF Ls A N ca (Ls 0) rfl (hL 0 (by have := hok.1.2.1; omega)) n w hT hr hok
  · exact join_arg b p k m F Ls A N ca hN n w hT hr hok
end Go.Proofs.YtgbipbcejjlpiaaGreatDoor

namespace Go.Proofs.YtgbipbcejjlpiaaGreatDoor
open Go.RowKit

theorem join_of_split {p k m : Int} {n : Nat} (f : Nat → Nat) (hE : szE p k m n = 0) :
    joinsP (layI p) (splN p k m n) (szN p k m n) n (splF p (szN p k m n) n f) ∧ numJ (layI p) n (catF (szN p k m n) (splF p (szN p k m n) n f)) = n ∧
      (∀ i, i < n → catF (szN p k m n) (splF p (szN p k m n) n f) (aheadL (layI p) + i) = f i) ∧ okJ p k m (splN p k m n) (fun _ => szN p k m n) := by
  obtain ⟨K, rfl, k1, k8, hn, hmay⟩ := sz_ok hE
  have hS := (szE_ok hmay hn).1
  have hN : splN p K m n = K := (if_pos hE).trans (Int.toNat_natCast K)
  rw [hN, hS]
  obtain ⟨h1, h2, h3⟩ := join_split (l := layI p) (K := K) (n := n) k1 hn f
  exact ⟨h1, h2, h3, hmay, rfl, fun _ _ => rfl⟩

/-- Join, of what was split -/
theorem join_back {p k m : Int} {n : Nat} {f : Nat → Nat} {w w' : World} {e : Ending} (hE : szE p k m n = 0) (h : JoinSaid p k m (splN p k m n) (fun _ => szN p k m n) (splF p (szN p k m n) n f) n w e w') :
    ∃ v, e = .returned (.tuple #[v, .int .i64 0]) ∧ BytesOut n f w v w' := by
  obtain ⟨h1, h2, h3, h4⟩ := join_of_split f hE
  obtain ⟨s, t, v, rfl, hs, ht, hv⟩ := h
  obtain rfl : s = true := hs.2 h4
  obtain rfl : t = true := ht.2 ⟨rfl, h1⟩
  refine ⟨v, rfl, ?_⟩
  rw [h2, Int.toNat_natCast] at hv
  obtain ⟨A, c, rfl, hc, hr, hb⟩ := hv
  exact ⟨A, c, rfl, hc, fun b hb' => (hr b hb').congr (fun j hj => by simp only [u8s]; rw [h3 j hj]), hb⟩
end Go.Proofs.YtgbipbcejjlpiaaGreatDoor
