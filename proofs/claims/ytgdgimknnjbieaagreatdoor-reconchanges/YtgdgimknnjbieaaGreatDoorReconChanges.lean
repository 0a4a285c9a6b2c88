/- Layer 12: what is updated is what would have been encoded: it is verified, its data shards are the old ones but one; updated back it is as it was; for all inputs. Condition: the package-level variable gambrel/profile.table holds, when the call begins, what the text of the program lays there; the card ties that to the text, over the pruned copy of the project that the seat holds. -/
import Derived.Test.YtgdgimknnjbieaaGreatDoorRows
import Derived.Test.YtgdgimknnjbieaaGreatDoorPrh
import Derived.Test.YtgdgimknnjbieaaGreatDoorRci
import Derived.Test.YtgdgimknnjbieaaGreatDoorGrg
import Derived.Test.YtgdgimknnjbieaaGreatDoorGrg
import Derived.Test.YtgdgimknnjbieaaGreatDoorGrd
import Derived.Test.YtgdgimknnjbieaaGreatDoorArr
import Derived.Test.YtgdgimknnjbieaaGreatDoorGxx
import Derived.Test.YtgdgimknnjbieaaGreatDoorGxv
import Derived.Test.YtgdgimknnjbieaaGreatDoorGxv
import Derived.Test.YtgdgimknnjbieaaGreatDoorCards
import Derived.Test.YtgdgimknnjbieaaGreatDoorTie
import Derived.SevenTiedAt
import Derived.ChangeMaps5
import Derived.Deep.RegionHeld3
import Derived.WalkKit
import Derived.ProofKit
import Derived.OpenShut
import Derived.ShutString
import Derived.ChangeOld
import Derived.Below
namespace Go.Proofs.YtgdgimknnjbieaaGreatDoor.reconChanges
open Go.ChangeShapes Go.WideShapes Go.ChangeAt Go.RowKit
set_option linter.unusedVariables false

theorem own : ownKnob Tryz.prog.godebug = none := by kernel_rfl
theorem laidOut : laidOutB Tryz.prog = true := by kernel_rfl

set_option maxRecDepth 100000 in
set_option maxHeartbeats 8000000 in
theorem walk (a0 b0 c0 : Int) (a1 : Option Addr) (len1 cap1 : Nat) (i2 : Int) (a2 : Option Addr) (len2 cap2 : Nat) (w : World) (w0 : (0 ≤ a0 ∧ a0 ≤ 255) ∧ (0 ≤ b0 ∧ b0 ≤ 255) ∧ 0 ≤ c0 ∧ c0 ≤ 255) (w1 : IsBytesN w a1 len1 cap1) (w2 : (Lit.int .i64 i2).wf = true) (x2 : IsBytesN w a2 len2 cap2) (hT : Tab w) :
    Calls Tryz.prog 7 #[.agg (arr3 a0 b0 c0), .slice a1 len1 cap1, .agg #[.int .i64 i2, .slice a2 len2 cap2]] w fun e w' => e = .returned (.bool true) ∧ Below w.heap.size w w' := by
  obtain ⟨i0, hi, hz0, hz1, hz2⟩ := info_parts infoS
  obtain ⟨j1, hj', hz0', hz1', hz2'⟩ := info_parts infoB
  obtain ⟨f, hf, _, _, hr⟩ := w1
  obtain ⟨g, hg, _, _, hx⟩ := x2
  have hwf := bounds_i64 w2
  have HGB := Lib.hid hg
  have HX2 := Lib.hid (hx w.heap.size (Nat.le_refl _))
  have HA := Lib.hid w0
  have h0 := hT.lt
  have HR := Lib.hid (hr w.heap.size (Nat.le_refl _))
  have HF := Lib.hid hf
  obtain ⟨u, hu⟩ : ∃ u, (w.alloc (.cells #[.int .u8 a0, .int .u8 b0, .int .u8 c0] T3u)).alloc (.cells #[.int .i64 i2, .slice a2 len2 cap2] 37) = u := ⟨_, rfl⟩
  obtain ⟨s0, e0, e1, hbu⟩ := two_boxes hu
  have HTU := Lib.hid (hT.below hbu)
  have HU := Lib.hid hbu
  have E0 := Lib.hid e0
  have E1 := Lib.hid e1
  clear s0 e0 e1 hbu hT w0 hr hf hx hg w2
  go_enter Tryz.func7, Tryz.ntmps7
  go_wp2_with fail
  refine (awakeQ _ HTU.out).mono ?_
  rintro e w1 ⟨rfl, hb1⟩
  have H1 := Lib.hid (below_tr HU.out hb1)
  have HT1 := Lib.hid (HTU.out.below hb1)
  have y1 := kept_box E0.out hb1
  have Y1 := Lib.hid (kept_box E1.out hb1)
  clear hb1 HTU HU E0 E1 hu
  have l0 := box_at (i := 0) (x := .int .i64 i2) Y1.out rfl
  by_cases hl : 300 < len1
  · go_wp2_with fail
    go_ret
    exact ⟨rfl, H1.out⟩
  by_cases hi0 : i2 < 0
  · have hd : decide (i2 < 0) = true := by simp; omega
    go_wp2_with fail
    go_ret
    exact ⟨rfl, H1.out⟩
  have hd : decide (i2 < 0) = false := by simp; omega
  go_wp2_with (refine wpList_load_row rfl T3u _ rfl w.heap.size rfl T3u _ (0, 0) _ y1 Tryz.underlying41 rfl size3u ?_)
  refine (some20 a0 b0 c0 HA.out.1 HA.out.2.1 HA.out.2.2 _).mono ?_
  rintro e w2 ⟨p, k, m, rfl, hX, hb2⟩
  obtain ⟨K, rfl⟩ : ∃ K : Nat, k = (K : Int) := ⟨k.toNat, by have := hX.2.1; omega⟩
  obtain ⟨M, rfl⟩ : ∃ M : Nat, m = (M : Int) := ⟨m.toNat, by have := hX.2.2.1; omega⟩
  have hK := hX.2.1
  have hM : 1 ≤ M ∧ M ≤ 4 := by have := hX.2.2; have := (max_pos hX.1).2; omega
  have HX := Lib.hid hX
  obtain ⟨v, hv⟩ : ∃ v, w2.alloc (.cells #[.int .i64 p, .int .i64 K, .int .i64 M] TPa) = v := ⟨_, rfl⟩
  obtain ⟨s2, e2, hbv⟩ := one_box hv
  have H3 := Lib.hid (below_tr H1.out (below_tr hb2 hbv))
  have HT3 := Lib.hid (HT1.out.below (below_tr hb2 hbv))
  have E2 := Lib.hid e2
  have Y3 := Lib.hid (kept_box Y1.out (below_tr hb2 hbv))
  have hE : szE p K M len1 = 0 := (if_pos ⟨HX.out, by omega⟩).trans (if_pos (by omega))
  have hsm : 1 ≤ szN p K M len1 ∧ szN p K M len1 ≤ 1000 := by
    rw [(szE_ok HX.out (by omega)).1]
    have h1 := szU_le (u := unitL (layI p)) (K := K) (m := aheadL (layI p) + len1) (unitL_pos _).1 (by omega)
    have h5 := szU_ge (u := unitL (layI p)) (K := K) (m := aheadL (layI p) + len1) (unitL_pos _).1 (by omega)
    have h2 := unitL_pos (layI p)
    have h3 := aheadL_le (layI p)
    omega
  have HENC := Lib.hid (enc16 w.heap.size p K M f HF.out a1 len1 cap1 (by omega) v HT3.out (HR.out.below H3.out))
  have HEN : encN p K M len1 = K + M := (if_pos hE).trans (by simp only [Int.toNat_natCast])
  unfold EncSaid at HENC
  rw [HEN, hE] at HENC
  simp only [Int.toNat_natCast] at HENC
  have HSE := Lib.hid (sz_even hE)
  obtain ⟨S, hS⟩ : ∃ S, szN p K M len1 = S := ⟨_, rfl⟩
  rw [hS] at HENC hsm HSE
  have HDL := Lib.hid (fun r j => splF_lt (p := p) (S := S) (n := len1) HF.out r j)
  have HGL := Lib.hid (fun r j => encF_lt (p := p) (K := K) (m := M) (S := S) (n := len1) HF.out r j)
  obtain ⟨D, hD⟩ : ∃ D, splF p S len1 f = D := ⟨_, rfl⟩
  obtain ⟨G, hG⟩ : ∃ G, encF p K M S len1 f = G := ⟨_, rfl⟩
  have HGD := Lib.hid (show G = shF p K M D by rw [← hG, ← hD]; rfl)
  rw [hG] at HENC HGL
  rw [hD] at HDL
  obtain ⟨N, hN⟩ : ∃ N, K + M = N := ⟨_, rfl⟩
  rw [hN] at HENC
  have HNN := Lib.hid hN
  have hKN : K < N := by omega
  have hN12 : N ≤ 12 := by omega
  have hnn : ((N : Int) != (K : Int) + (M : Int)) = false := by simp; omega
  obtain ⟨d0, d1, d2⟩ := box_three e2
  have hvs : w2.heap.size < v.heap.size := by omega
  have hsm2 := hsm.2
  clear hN hE HEN hS hG hD s2 e2 hbv hb2 hX H1 HT1 y1 HA Y1 hsm
  go_wp2_with fail
  refine HENC.out.mono ?_
  rintro e w4 ⟨v4, rfl, A4, c4, rfl, hc4, hx4, hb4⟩
  have H4 := Lib.hid (below_tr H3.out hb4)
  have HT4 := Lib.hid (HT3.out.below hb4)
  have E4 := Lib.hid (kept_box E2.out hb4)
  have Y4 := Lib.hid (kept_box Y3.out hb4)
  obtain ⟨As, Cs, hq1, hq2⟩ := hx4 0 (by omega)
  have HQ1 := Lib.hid hq1
  have HQ2 := Lib.hid hq2
  have hw4 : 0 < w4.heap.size := by have := hb4.size; omega
  clear hx4 hb4 d0 d1 d2 hq1 hq2 HENC hv H3 HT3 E2 Y3
  obtain ⟨d0, d1, d2⟩ := box_three E4.out
  have l0 := box_at (i := 0) (x := .int .i64 i2) Y4.out rfl
  obtain ⟨J, rfl⟩ : ∃ J : Nat, i2 = (J : Int) := ⟨i2.toNat, by omega⟩
  obtain ⟨I, hI⟩ : ∃ I : Nat, (J : Int) % (K : Int) = (I : Int) := ⟨J % K, (Int.natCast_emod _ _).symm⟩
  have hIK : I < K := by have := Int.emod_lt_of_pos (J : Int) (show 0 < (K : Int) by omega); omega
  have hIt : (J : Int).tmod (K : Int) = (I : Int) := by rw [Int.tmod_eq_emod_of_nonneg (by omega)]; exact hI
  have hIN : I < N := by omega
  have hKz : ¬ K = 0 := by omega
  have hKzI : ¬ (K : Int) = 0 := by omega
  obtain ⟨ad, e9, _⟩ := HQ1.out.at_ hIN
  subst e9
  have HLI := Lib.hid (show ∀ w', Below w4.heap.size w4 w' → w'.cell? (ad.add I) = some (.slice (As I) S (Cs I)) from fun w' hb => by
    obtain ⟨ad', e', h5⟩ := (HQ1.out.below hb).at_ hIN
    injection e' with e'
    subst e'
    exact h5)
  have HBX := Lib.hid (show ∀ w', Below w4.heap.size w4 w' → w'.cell? ⟨w.heap.size + 1, 1, none⟩ = some (.slice a2 len2 cap2) from fun w' hb => box_at (i := 1) (x := .slice a2 len2 cap2) (kept_box Y4.out hb) rfl)
  have HXC := Lib.hid (show ∀ w', Below w4.heap.size w4 w' → Rd w.heap.size w' (u8s g) a2 len2 from fun w' hb => HX2.out.below (below_tr H4.out hb))
  obtain ⟨P, hP⟩ : ∃ P : Nat → Nat, (fun j => if j < len2 then g j else 0) = P := ⟨_, rfl⟩
  have HP := Lib.hid (show ∀ j, P j = if j < len2 then g j else 0 from fun j => by rw [← hP])
  have HPL := Lib.hid (show ∀ j, P j < 256 from fun j => by
    rw [HP.out]
    split
    · exact HGB.out j
    · omega)
  have hINI : (I : Int) < (N : Int) := by omega
  have c1 := HLI.out w4 (Below.refl _ _)
  clear hP hd
  go_wp2_with fail
  clear l0 hI hIt hKz hKzI d0 d1 d2 c1
  go_loopw [12, 13] (fun s12 s13 wr => ∃ k : Nat, k ≤ S ∧ s13 = .int .i64 k ∧ App w4 TB (u8s P) k s12 wr) (fun _ s13 _ => S - (intOf s13).toNat)
  case atStart => exact ⟨0, Nat.zero_le _, rfl, App.start _ _ _⟩
  case round =>
    obtain ⟨k, hkS, rfl, ha⟩ := hrel
    have HAP := Lib.hid ha
    have hb := ha.2
    have hsz := hb.size
    have c1 := HLI.out wr hb
    have c2 := HBX.out wr hb
    clear ha
    by_cases hlt : k < S
    · have hltI : (k : Int) < (S : Int) := by omega
      obtain ⟨y, hy⟩ : ∃ y, P k = y := ⟨_, rfl⟩
      have HY := Lib.hid (show u8s P k = .int .u8 (y : Nat) by simp only [u8s]; rw [hy])
      by_cases hk2 : k < len2
      · obtain ⟨ag, e9, c3⟩ := (HXC.out wr hb).at_ hk2
        simp only [u8s] at c3
        rw [← (show P k = g k by rw [HP.out, if_pos hk2]), hy] at c3
        rw [e9] at c2
        have hk2I : (k : Int) < (len2 : Int) := by omega
        clear e9 hb hy
        go_wp2_with (at_builtin; refine wpList_append_lies _ rfl (.tmp 74) (.tmp 76) TBs rfl w4.heap.size TB j1 (.int .u8 0) 1 1 Tryz.underlying35 hj' hz0' hz1' hz2' rfl (by decide) _ k _ rfl (HAP.out.1.alloc _) ⟨wr.heap.size, 0, none⟩ 1 1 [u8s P k] rfl rfl (news_one HY.out.symm) (one_u8 _) (by omega) (by unfold maxLen; omega) (by omega) (by simp; omega) _ rfl ?_)
        intro g' p' w5 hown hgr hg' _
        have HS := Lib.hid (HAP.out.step hown hgr)
        clear hown hgr hg' HAP
        go_wp2_with fail
        exact ⟨⟨k + 1, hlt, by go_num, HS.out⟩, by simp [intOf]; omega⟩
      · have hk2I : ¬ (k : Int) < (len2 : Int) := by omega
        have hd2 : decide ((k : Int) < (len2 : Int)) = false := by simp; omega
        have hy0 : y = 0 := by rw [← hy, HP.out, if_neg hk2]
        subst hy0
        clear hb hy
        go_wp2_with (at_builtin; refine wpList_append_lies _ rfl (.tmp 74) (.tmp 76) TBs rfl w4.heap.size TB j1 (.int .u8 0) 1 1 Tryz.underlying35 hj' hz0' hz1' hz2' rfl (by decide) _ k _ rfl (HAP.out.1.alloc _) ⟨wr.heap.size, 0, none⟩ 1 1 [u8s P k] rfl rfl (news_one HY.out.symm) (one_u8 _) (by omega) (by unfold maxLen; omega) (by omega) (by simp; omega) _ rfl ?_)
        intro g' p' w5 hown hgr hg' _
        have HS := Lib.hid (HAP.out.step hown hgr)
        clear hown hgr hg' HAP
        go_wp2_with fail
        exact ⟨⟨k + 1, hlt, by go_num, HS.out⟩, by simp [intOf]; omega⟩
    · obtain rfl : S = k := by omega
      obtain ⟨A5, c5, rfl, hc5, hr5⟩ := HAP.out.rd hw4
      have HR5 := Lib.hid hr5
      have HB5 := Lib.hid hb
      have HT5 := Lib.hid (HT4.out.below hb)
      have H5 := Lib.hid (below_tr H4.out hb)
      have hUE : updE p K M I N S (fun _ => S) = 0 := if_pos ⟨HX.out, by have := HNN.out; omega, fun _ _ => ⟨rfl, HSE.out⟩, by omega, by omega, rfl⟩
      have hUN : updN p K M I N S (fun _ => S) = N := if_pos hUE
      have hin5 : (∀ r, r < N → Rd 0 wr (u8s (G r)) (As r) S) := fun r hr => (HQ2.out r hr).below hb
      have C1 := Lib.hid (upd16 0 p K M As (fun _ => S) Cs G HGL.out (some ad) N c4 (by omega) (fun _ _ => hsm2) I P HPL.out A5 S c5 wr HT5.out (by omega) (HQ1.out.below hb) hin5 hr5)
      unfold UpdSaid at C1
      rw [hUN, hUE, Int.toNat_natCast, Int.toNat_natCast, Int.toNat_natCast] at C1
      have HIN5 := Lib.hid hin5
      have HUU := Lib.hid (And.intro hUE hUN)
      obtain ⟨d0, d1, d2⟩ := box_three (kept_box E4.out hb)
      clear c2 hr5 hin5 hUE hUN hb HAP
      obtain ⟨w5, hw5⟩ : ∃ w5, w5 = wr := ⟨_, rfl⟩
      subst hw5
      go_wp2_with fail
      refine C1.out.mono ?_
      rintro e w6 ⟨A6, c6, rfl, hc6, hb6, hx6⟩
      obtain ⟨Bs, Ds, m1, m2⟩ := hx6 0 (by omega) HIN5.out HR5.out
      have HM1 := Lib.hid m1
      have HM2 := Lib.hid m2
      have HB6 := Lib.hid (below_tr HB5.out hb6)
      have HT6 := Lib.hid (HT5.out.below hb6)
      have H6 := Lib.hid (below_tr H5.out hb6)
      have HR6 := Lib.hid (HR5.out.below hb6)
      have hz6 := HB6.out.size
      clear c1 hx6 hb6 m1 m2 d0 d1 d2 C1 HIN5 HR5 HB5 HT5 H5
      have hh1 := run_headS (some ad) N c4 K (by omega)
      have hnn2 : ((N : Int) != (N : Int)) = false := by simp
      obtain ⟨d0, d1, d2⟩ := box_three (kept_box E4.out HB6.out)
      obtain ⟨_, d3, _⟩ := box_three (kept_box E4.out (below_tr HB6.out (below_alloc w6 (.cells #[] TBs))))
      go_wp2_with (at_builtin; refine append_rd _ rfl (.tmp 95) (.tmp 99) TRs rfl w6.heap.size TBs i0 nilS 24 Tryz.underlying24 hi hz0 hz1 hz2 rfl _ 0 [] rfl (World.ownsRow_lit w6 #[] 0 (Nat.le_refl _) (Nat.zero_le _) rfl) 0 _ _ _ _ rfl (fun e => by cases e) (((HQ1.out.take (show K ≤ N by omega)).below HB6.out).below (below_alloc _ _)) (one_slis _ _ _) (by unfold maxLen; omega) (by omega) (by simp) ?_)
      intro v7 w7 hown7 hgr7
      have hB7 : Below w6.heap.size w6 w7 := (below_alloc w6 (.cells #[] TBs)).grown hgr7 (by simp) (fun q hq => by simp [Value.ownBlock] at hq; omega)
      obtain ⟨g7, c7, K7, rfl, hg7, hc7, hrow7, hk7⟩ := own_rowK hown7 (by omega)
      have e1 := hrow7.cell (show I < c7 by omega)
      have e2 := hrow7.frozen I
      have hIKI : (I : Int) < (K : Int) := by omega
      obtain ⟨w8, hw8⟩ : ∃ w8, w7.setCell ⟨g7, I, none⟩ (.slice A5 S c5) = w8 := ⟨_, rfl⟩
      have hB8 : Below w6.heap.size w6 w8 := by rw [← hw8]; exact hB7.setCell (p := ⟨g7, I, none⟩) hg7 _
      have hrow8 := hrow7.set I (.slice A5 S c5)
      rw [hw8] at hrow8
      have HB8 := Lib.hid (below_tr HB6.out hB8)
      have HB68 := Lib.hid hB8
      have HT8 := Lib.hid (HT6.out.below hB8)
      have H8 := Lib.hid (below_tr H6.out hB8)
      have hz8 := hB8.size
      have HDR := Lib.hid (show Rd 0 w8 (slis (fun r => if r = I then A5 else As r) (fun _ => S) (fun r => if r = I then c5 else Cs r)) (some ⟨g7, 0, none⟩) K from (Rd.of_row hrow8 (by omega) hc7).congr (fun j hj => by
        simp only [slis]
        by_cases e : j = I
        · rw [if_pos e, if_pos e, if_pos e]
        · rw [if_neg e, if_neg e, if_neg e, hk7 j (by omega)]))
      have HDD := Lib.hid (show ∀ r, r < K → Rd 0 w8 (u8s (if r = I then P else G r)) (if r = I then A5 else As r) S from fun r hr => by
        by_cases e : r = I
        · rw [if_pos e, if_pos e]
          exact HR6.out.below hB8
        · rw [if_neg e, if_neg e]
          exact (HQ2.out r (by omega)).below HB8.out)
      clear hown7 hgr7 hB7 hg7 hrow7 hk7 hrow8 hB8 d0 d1 d2 d3 hh1
      go_wp2_with fail
      clear hw8 e1 e2
      have HUL := Lib.hid (fun r j => updF_lt (p := p) (K := K) (M := M) (i := I) (F := G) (g := P) HGL.out HPL.out r j)
      have C2 := Lib.hid (upd16 0 p K M Bs (fun _ => S) Ds (updF p K M G I P) HUL.out A6 N c6 (by omega) (fun _ _ => hsm2) I (G I) (HGL.out I) (As I) S (Cs I) w8.drew (HT8.out.below (Below.refl _ w8).drew) (by show 0 < w8.heap.size; omega) (HM1.out.below HB68.out).drew (fun r hr => ((HM2.out r hr).below HB68.out).drew) ((HQ2.out I hIN).below HB8.out).drew)
      unfold UpdSaid at C2
      rw [HUU.out.2, HUU.out.1, Int.toNat_natCast, Int.toNat_natCast, Int.toNat_natCast] at C2
      have KEEP := Lib.hid (show ∀ w', Below w8.heap.size w8 w' → w'.cell? ⟨w2.heap.size, 0, none⟩ = some (.int .i64 p) ∧ w'.cell? ⟨w2.heap.size, 1, none⟩ = some (.int .i64 (K : Nat)) ∧ w'.cell? ⟨w2.heap.size, 2, none⟩ = some (.int .i64 (M : Nat)) ∧ w'.cell? (ad.add I) = some (.slice (As I) S (Cs I)) from fun w' hb' => by
        have h5 := below_tr HB8.out hb'
        obtain ⟨k0, k1, k2⟩ := box_three (kept_box E4.out h5)
        exact ⟨k0, k1, k2, HLI.out w' h5⟩)
      obtain ⟨d0, d1, d2, c1⟩ := KEEP.out w8 (Below.refl _ _)
      go_region_held3 (fun w' => w'.cell? ⟨w2.heap.size, 0, none⟩ = some (.int .i64 p) ∧ w'.cell? ⟨w2.heap.size, 1, none⟩ = some (.int .i64 (K : Nat)) ∧ w'.cell? ⟨w2.heap.size, 2, none⟩ = some (.int .i64 (M : Nat)) ∧ w'.cell? (ad.add I) = some (.slice (As I) S (Cs I)))
        (first | exact ⟨d0, d1, d2, c1⟩ | exact KEEP.out _ (below_tr (Below.refl w8.heap.size w8).drew hb9) | assumption)
        ((go_at_call 16; refine C2.out.mono ?_; rintro e w9 ⟨A9, c9, rfl, hc9, hb9, hx9⟩))
      have HB89 := Lib.hid (below_tr (Below.refl w8.heap.size w8).drew hb9)
      have HX9 := Lib.hid (hx9 0 (by show 0 < w8.heap.size; omega) (fun r hr => ((HM2.out r hr).below HB68.out).drew) ((HQ2.out I hIN).below HB8.out).drew)
      have HB9 := Lib.hid (below_tr HB8.out HB89.out)
      have HT9 := Lib.hid (HT8.out.below HB89.out)
      have H9 := Lib.hid (below_tr H8.out HB89.out)
      have HM19 := Lib.hid ((HM1.out.below HB68.out).below HB89.out)
      have HM29 := Lib.hid (fun r hr => ((HM2.out r hr).below HB68.out).below HB89.out)
      have HDR9 := Lib.hid (HDR.out.below HB89.out)
      have HDD9 := Lib.hid (fun r hr => (HDD.out r hr).below HB89.out)
      have HSL := Lib.hid (show ∀ r j, setF D I P r j < 256 from fun r j => by
        unfold setF
        split
        · exact HPL.out j
        · exact HDL.out r j)
      have HVL := Lib.hid (fun r j => shF_lt (p := p) (K := K) (m := M) (F := setF D I P) HSL.out r j)
      have HMV := Lib.hid (show ∀ r, r < N → Rd 0 w9 (u8s (shF p K M (setF D I P) r)) (Bs r) S from fun r hr => (HM29.out r hr).congr (fun j hj => by
        simp only [u8s]
        rw [HGD.out, upd_sh HDL.out HPL.out hIK HSE.out hj]))
      have HVV := Lib.hid (show verP p K M N (fun _ => S) (shF p K M (setF D I P)) from by
        have h5 := ver_sh (p := p) (K := K) (m := M) (S := S) (F := setF D I P) HX.out HSE.out
        rwa [HNN.out] at h5)
      have hz9 := HB9.out.size
      clear hb9 hx9 d0 d1 d2 c1 KEEP C2 HM1 HM2 HDR HDD HT8 H8 HB8 HB68
      obtain ⟨d0, d1, d2⟩ := box_three (kept_box E4.out HB9.out)
      go_wp2_with fail
      refine (ver14 0 p K M Bs (fun _ => S) Ds (shF p K M (setF D I P)) HVL.out A6 N c6 (by omega) hc6 (fun _ _ => hsm2) _ HT9.out (by omega) HM19.out HMV.out).mono ?_
      rintro e w10 ⟨t, rfl, ht, hb10⟩
      obtain rfl : t = true := ht.2 HVV.out
      have HB10 := Lib.hid (below_tr HB9.out hb10)
      have HB910 := Lib.hid hb10
      have H10 := Lib.hid (below_tr H9.out hb10)
      have hh2 := run_headS A6 N c6 K (by omega)
      clear ht hb10 d0 d1 d2
      obtain ⟨d0, d1, d2⟩ := box_three (kept_box E4.out HB10.out)
      go_wp2_with fail
      refine (rsame14 0 0 (updF p K M G I P) (fun r => if r = I then P else G r) HUL.out (fun r j => by split; exact HPL.out j; exact HGL.out r j) (fun _ => S) (fun _ => S) A6 (some ⟨g7, 0, none⟩) K K c6 c7 (by omega) _ ⟨Bs, Ds, (HM19.out.take (by omega)).below HB910.out, fun r hr => (HM29.out r (by omega)).below HB910.out⟩ ⟨_, _, HDR9.out.below HB910.out, fun r hr => (HDD9.out r hr).below HB910.out⟩).mono ?_
      rintro e w11 ⟨t, rfl, ht, hb11⟩
      obtain rfl : t = true := ht.2 ⟨rfl, fun r hr => ⟨rfl, fun j _ => by
        dsimp only
        unfold updF
        by_cases e : r = I
        · rw [if_pos e, if_pos e]
        · rw [if_neg e, if_neg e, if_pos hr]⟩⟩
      have HB11 := Lib.hid (below_tr HB10.out hb11)
      have HX11 := Lib.hid ((HX9.out.below HB910.out).below hb11)
      have H11 := Lib.hid (below_tr H10.out hb11)
      clear ht hb11 d0 d1 d2 hh2
      go_wp2_with fail
      refine (rsame14 0 0 _ _ (fun r j => updF_lt HUL.out (HGL.out I) r j) HGL.out _ _ A9 (some ad) N N c9 c4 (by omega) _ HX11.out ⟨As, Cs, HQ1.out.below HB11.out, fun r hr => (HQ2.out r hr).below HB11.out⟩).mono ?_
      rintro e w12 ⟨t, rfl, ht, hb12⟩
      obtain rfl : t = true := ht.2 ⟨rfl, fun r hr => ⟨rfl, fun j _ => upd_back⟩⟩
      have H12 := Lib.hid (below_tr H11.out hb12)
      clear ht hb12
      go_wp2_with fail
      go_ret
      exact ⟨by simp, H12.out⟩

set_option maxRecDepth 100000 in
theorem lifted (os : Os) (started : os.Started) (H : Type) (enc : TypeId × Value → H) :
    ReturnsInHanded {} Tryz.checked os 7 .any (fun w args => (Rows.reconChangesSpec.pre enc Tryz.prog Tryz.f7 Rows.reconChangesRow.domain false w args ∧ laidMetH Tryz.prog laidT w) ∧ sizedMet enc Tryz.prog Tryz.f7 (OpenSpec.ofChange Rows.reconChangesSpec) false w args) (Rows.reconChangesSpec.post enc Tryz.prog Tryz.f7 false true false false) := by
  refine returnsInHanded_of_change_and (C := Tryz.checked) (X := fun w _ => laidMetH Tryz.prog laidT w) (fun _ _ _ hh h => h.of_heap hh) own started (by kernel_rfl) Tryz.func7
    (ChangeSpec.witness_shaped (enc := enc) (C := Tryz.checked) (os := os) (X := fun w _ => laidMetH Tryz.prog laidT w) false (World.doorLaid Tryz.prog 400 os) #[.agg #[.int .u8 0, .int .u8 0, .int .u8 0], .slice none 0 0, .agg #[.int .i64 0, .slice none 0 0]] 8 rfl (World.shaped_of_RefB (by kernel_rfl) (by kernel_rfl)) (by kernel_rfl) (by kernel_rfl) (by kernel_rfl) (door_met os _)) ?_
  intro W base args ds gs before hval0 hW hcnd _ hL _
  have hval : ∀ (j : Nat) t v, Tryz.f7.params[j]? = some t → args[j]? = some v → Value.okWide Tryz.prog W .any base t v := hval0
  have hW' := hW
  obtain ⟨p, q, hA0, hV, rfl, hfz, hnd⟩ := hW
  have hA : DataW.TrodAll enc Tryz.prog W 0 (fun _ => true) true Tryz.f7.params.toList args.toList ds p := hA0
  rw [Tryz.params7] at hA hval
  obtain ⟨v0, vs0, d0, ds0, p0, q0, hargs, rfl, rfl, h0, r0⟩ := trodAll_cons hA
  obtain ⟨v1, vs1, d1, ds1, p1, q1, rfl, rfl, rfl, h1, r1⟩ := trodAll_cons r0
  obtain ⟨v2, vs2, d2, ds2, p2, q2, rfl, rfl, rfl, h2, r2⟩ := trodAll_cons r1
  obtain ⟨rfl, rfl, rfl⟩ := trodAll_nil r2
  obtain rfl : args = #[v0, v1, v2] := by cases args; simp_all
  obtain ⟨rfl, rfl⟩ := trodVars_none hV
  obtain ⟨cs0, rfl, hsz0, _⟩ : ∃ cs, v0 = .agg cs ∧ cs.size = Tryz.prog.cellsOf 41 ∧ Row.okWide Tryz.prog W .any base 41 cs := by
    have := hval 0 41 v0 rfl rfl
    simpa [Value.okWide, Tryz.underlying41] using this
  rw [show Tryz.prog.cellsOf 41 = 3 by kernel_rfl] at hsz0
  obtain ⟨l0⟩ := cs0
  obtain ⟨e0, f0, g0, rfl⟩ := list3 l0 hsz0
  have k0 := h0
  have lt0 : ∀ x ∈ p0, x.block < W.heap.size := by obtain ⟨m, hm⟩ := k0; exact DataW.trod_lt m _ _ _ hm
  obtain ⟨fuel0, hf0⟩ := h0
  obtain ⟨a0, b0, c0, rfl, rfl, rfl, w0⟩ := three_in hf0
  obtain ⟨a1, len1, cap1, rfl⟩ := okWide_slice Tryz.underlying35 (hval 1 35 v1 rfl rfl)
  have k1 := h1
  have lt1 : ∀ x ∈ p1, x.block < W.heap.size := by obtain ⟨m, hm⟩ := k1; exact DataW.trod_lt m _ _ _ hm
  have w1 : IsBytesN W a1 len1 cap1 := by
    obtain ⟨fuel, hf⟩ := h1
    exact bytesn_in hf
  obtain ⟨cs2, rfl, hsz2, _⟩ : ∃ cs, v2 = .agg cs ∧ cs.size = Tryz.prog.cellsOf 37 ∧ Row.okWide Tryz.prog W .any base 37 cs := by
    have := hval 2 37 v2 rfl rfl
    simpa [Value.okWide, Tryz.underlying37] using this
  rw [show Tryz.prog.cellsOf 37 = 2 by kernel_rfl] at hsz2
  obtain ⟨l2⟩ := cs2
  obtain ⟨e2, f2, rfl⟩ := list2s l2 hsz2
  have k2 := h2
  have lt2 : ∀ x ∈ p2, x.block < W.heap.size := by obtain ⟨m, hm⟩ := k2; exact DataW.trod_lt m _ _ _ hm
  obtain ⟨fuel2, hf2⟩ := h2
  obtain ⟨i2, a2, len2, cap2, rfl, rfl, w2, x2⟩ := change_in hf2
  clear hA0 hval0
  refine (walk a0 b0 c0 a1 len1 cap1 i2 a2 len2 cap2 W w0 w1 w2 x2 (tab_of_laid hL)).mono fun e W' ⟨he, bel⟩ => ?_
  subst he
  exact ⟨_, rfl, _, _, _, [], _, [], hW', trodAll_mk1 (shut_bool Tryz.underlying4 _), (trodAll_cons_mk (Below.trod laidOut (by kernel_rfl) (of_decide_eq_true (by kernel_rfl)) k0 bel lt0) (trodAll_cons_mk (Below.trod laidOut (by kernel_rfl) (of_decide_eq_true (by kernel_rfl)) k1 bel lt1) (trodAll_cons_mk (Below.trod laidOut (by kernel_rfl) (of_decide_eq_true (by kernel_rfl)) k2 bel lt2) trodAll_mk0))), rfl, bel.frame _, fun h => by cases h⟩

theorem over : Rows.reconChangesRow.holds Tryz.pinned (OpenSpec.ofChange Rows.reconChangesSpec) :=
  OpenClaim.holds_of_wide 7 Tryz.f7 rfl rfl rfl rfl rfl rfl rfl ⟨rfl, rfl, rfl, rfl, rfl⟩ rfl rfl rfl rfl rfl (by kernel_rfl) Tryz.func7 (by kernel_rfl)
    (of_decide_eq_true (by kernel_rfl)) (by unfold Func.isWrapper; first | (rw [if_pos (by decide +kernel)]; kernel_rfl) | (rw [if_neg (by decide +kernel)]; exact ⟨rfl, rfl⟩))
    (fun os started H enc _ => lifted os started H enc)

theorem proved : Rows.ReconChangesCardSaid :=
  Claim7.holds_tied_plain_at .later [] [.data] true Rows.reconChangesCard.stood.harness false
    over (fun _ h => by cases h) (by kernel_rfl) (fun _ h => by cases h) reconChanges_row_tie rfl ⟨rfl, rfl⟩ (by kernel_rfl) rfl
    (fun f fn hf hfn => by
      obtain rfl : f = 7 := Option.some.inj ((show Tryz.prog.funcNamed "gambrel/gambrellaw12.ReconChanges" = some 7 by kernel_rfl).symm.trans hf) |>.symm
      obtain rfl : fn = Tryz.f7 := (Option.some.inj (Tryz.func7.symm.trans hfn)).symm
      exact ⟨by kernel_rfl, fun j t ht => by
        rw [Tryz.params7] at ht
        have hm : t ∈ [41, 35, 37] := by simpa using Array.mem_of_getElem? ht
        have hall : ([41, 35, 37].all fun u => !Tryz.prog.wantsStandIn u) = true := by kernel_rfl
        exact (show Tryz.prog.wantsStandIn t = false by simpa using List.all_eq_true.1 hall t hm)⟩)
    (by kernel_rfl)
end Go.Proofs.YtgdgimknnjbieaaGreatDoor.reconChanges
