/- CodecXor: for all three bytes, and any bytes, the first parity shard of Jerasure (an even first byte), or of ISA-L (an odd one), is all data shards together (its law asks for 300 bytes at most). Condition: the package-level variable gambrel/profile.table holds, when the call begins, what the text of the program lays there; the card ties that to the text, over the pruned copy of the project that the seat holds. -/
import Derived.Test.YtgbipbcejjlpiaaGreatDoorRows
import Derived.Test.YtgbipbcejjlpiaaGreatDoorPrh
import Derived.Test.YtgbipbcejjlpiaaGreatDoorGyd
import Derived.Test.YtgbipbcejjlpiaaGreatDoorGyd
import Derived.Test.YtgbipbcejjlpiaaGreatDoorGxx
import Derived.Test.YtgbipbcejjlpiaaGreatDoorGxv
import Derived.Test.YtgbipbcejjlpiaaGreatDoorGxv
import Derived.Test.YtgbipbcejjlpiaaGreatDoorArr
import Derived.Test.YtgbipbcejjlpiaaGreatDoorCards
import Derived.Test.YtgbipbcejjlpiaaGreatDoorTie
import Derived.SevenTiedAt
import Derived.ChangeMaps5
import Derived.Deep.RegionHeld3
import Derived.WalkKit
import Derived.ProofKit
import Derived.OpenShut
import Derived.ShutString
import Derived.ChangeOld
import Derived.Below
namespace Go.Proofs.YtgbipbcejjlpiaaGreatDoor.codecXor
open Go.ChangeShapes Go.WideShapes Go.ChangeAt Go.RowKit
set_option linter.unusedVariables false

theorem own : ownKnob Tryz.prog.godebug = none := by kernel_rfl
theorem laidOut : laidOutB Tryz.prog = true := by kernel_rfl

/-- in the law's loops -/
def XorAt (n : Nat) (w : World) (s : Value) (wr : World) : Prop := ∃ j : Nat, j ≤ n ∧ s = .int .i64 j ∧ Below w.heap.size w wr
def XorIn (F : Nat → Nat → Nat) (n j : Nat) (w : World) (s10 s11 : Value) (wr : World) : Prop := ∃ i : Nat, i ≤ n ∧ s11 = .int .i64 i ∧ s10 = .int .u8 (xo F j i : Nat) ∧ Below w.heap.size w wr

set_option maxRecDepth 100000 in
set_option maxHeartbeats 8000000 in
theorem walk (a0 b0 c0 : Int) (a1 : Option Addr) (len1 cap1 : Nat) (w : World) (w0 : (0 ≤ a0 ∧ a0 ≤ 255) ∧ (0 ≤ b0 ∧ b0 ≤ 255) ∧ 0 ≤ c0 ∧ c0 ≤ 255) (w1 : IsBytesN w a1 len1 cap1) (hT : Tab w) :
    Calls Tryz.prog 8 #[.agg (arr3 a0 b0 c0), .slice a1 len1 cap1] w fun e w' => e = .returned (.bool true) ∧ Below w.heap.size w w' := by
  obtain ⟨f, hf, _, _, hr⟩ := w1
  have HA := Lib.hid w0
  have h0 := hT.lt
  have HR := Lib.hid (hr w.heap.size (Nat.le_refl _))
  have HF := Lib.hid hf
  obtain ⟨u, hu⟩ : ∃ u, w.alloc (.cells #[.int .u8 a0, .int .u8 b0, .int .u8 c0] T3u) = u := ⟨_, rfl⟩
  obtain ⟨s0, e0, hbu⟩ := one_box hu
  have HTU := Lib.hid (hT.below hbu)
  have HU := Lib.hid hbu
  have E0 := Lib.hid e0
  clear s0 e0 hbu hT w0 hr hf
  go_enter Tryz.func8, Tryz.ntmps8
  go_wp2_with fail
  refine (awakeK _ HTU.out).mono ?_
  rintro e w1 ⟨rfl, hb1⟩
  have H1 := Lib.hid (below_tr HU.out hb1)
  have HT1 := Lib.hid (HTU.out.below hb1)
  have Y1 := Lib.hid (kept_box E0.out hb1)
  have y1 := Y1.out
  clear hb1 HTU HU E0 hu
  by_cases hl : 300 < len1
  · go_wp2_with fail
    go_ret
    exact ⟨rfl, H1.out⟩
  go_wp2_with (refine wpList_load_row rfl T3u _ rfl w.heap.size rfl T3u _ (0, 0) _ y1 Tryz.underlying38 rfl size3u ?_)
  refine (some20 a0 b0 c0 HA.out.1 HA.out.2.1 HA.out.2.2 _).mono ?_
  rintro e w2 ⟨p, k, m, rfl, hX, hb2⟩
  obtain ⟨K, rfl⟩ : ∃ K : Nat, k = (K : Int) := ⟨k.toNat, by have := hX.2.1; omega⟩
  obtain ⟨M, rfl⟩ : ∃ M : Nat, m = (M : Int) := ⟨m.toNat, by have := hX.2.2.1; omega⟩
  have hK := hX.2.1
  have hM : 1 ≤ M ∧ M ≤ 4 := by have := hX.2.2; have := (max_pos hX.1).2; omega
  have H2 := Lib.hid (below_tr H1.out hb2)
  have HT2 := Lib.hid (HT1.out.below hb2)
  have hlw : w.heap.size < w2.heap.size := by
    have h5 := kept_box Y1.out hb2
    rcases Nat.lt_or_ge w.heap.size w2.heap.size with hl | hl
    · exact hl
    · rw [Array.getElem?_eq_none hl] at h5; cases h5
  have y2 := box_at (i := 0) (x := .int .u8 a0) (kept_box (kept_box Y1.out hb2) (below_alloc w2 (.cells #[.int .i64 p, .int .i64 K, .int .i64 M] TPa))) rfl
  have ha0 := HA.out.1
  clear hb2 hX H1 HT1 y1 Y1 HA
  by_cases h2 : a0 % 2 = 0
  · have hz : (a0.tmod 2 == 0) = true := by rw [Int.tmod_eq_emod_of_nonneg (by omega)]; simpa using h2
    have hz2 : (a0 % 2 == 0) = true := by simpa using h2
    have HX := Lib.hid (show mayX 1 K M from ⟨by omega, by omega, by omega, by rw [show maxI 1 = 4 from rfl]; omega⟩)
    obtain ⟨v, hv⟩ : ∃ v, w2.alloc (.cells #[.int .i64 1, .int .i64 K, .int .i64 M] TPa) = v := ⟨_, rfl⟩
    obtain ⟨s2, e2, hbv⟩ := one_box hv
    have H3 := Lib.hid (below_tr H2.out hbv)
    have HT3 := Lib.hid (HT2.out.below hbv)
    have E2 := Lib.hid e2
    have hE : szE 1 K M len1 = 0 := (if_pos ⟨HX.out, by omega⟩).trans (if_pos (by omega))
    have hsm : szN 1 K M len1 ≤ 1000 := by
      rw [(szE_ok HX.out (by omega)).1]
      have h1 := szU_le (u := unitL (layI 1)) (K := K) (m := aheadL (layI 1) + len1) (unitL_pos _).1 (by omega)
      have h2 := unitL_pos (layI 1)
      have h3 := aheadL_le (layI 1)
      omega
    have HENC := Lib.hid (enc16 w.heap.size 1 K M f HF.out a1 len1 cap1 (by omega) v HT3.out (HR.out.below H3.out))
    have HEN : encN 1 K M len1 = K + M := (if_pos hE).trans (by simp only [Int.toNat_natCast])
    unfold EncSaid at HENC
    rw [HEN, hE] at HENC
    simp only [Int.toNat_natCast] at HENC
    obtain ⟨S, hS⟩ : ∃ S, szN 1 K M len1 = S := ⟨_, rfl⟩
    rw [hS] at HENC hsm
    have HXO := Lib.hid (fun j => enc_xo (S := S) (n := len1) (f := f) HX.out (by omega) HF.out j)
    have HGL := Lib.hid (fun r j => encF_lt (p := 1) (K := K) (m := M) (S := S) (n := len1) HF.out r j)
    obtain ⟨G, hG⟩ : ∃ G, encF 1 K M S len1 f = G := ⟨_, rfl⟩
    rw [hG] at HENC HXO HGL
    obtain ⟨d0, d1, d2⟩ := box_three e2
    have hvs : w2.heap.size < v.heap.size := by omega
    clear hE HEN hS hG s2 e2 hbv H2 HT2 HR HF
    go_wp2_with fail
    refine HENC.out.mono ?_
    rintro e w4 ⟨v4, rfl, A4, c4, rfl, hc4, hx4, hb4⟩
    have H4 := Lib.hid (below_tr H3.out hb4)
    have E4 := Lib.hid (kept_box E2.out hb4)
    obtain ⟨As, Cs, hq1, hq2⟩ := hx4 0 (by omega)
    have HQ1 := Lib.hid hq1
    have HQ2 := Lib.hid hq2
    clear hx4 hb4 d0 d1 d2 hq1 hq2 HENC hv H3 HT3 HX E2
    obtain ⟨d0, d1, d2⟩ := box_three E4.out
    go_wp2_with fail
    go_loopw [9] (fun s9 wr => XorAt S w4 s9 wr) (fun s9 _ => S - (intOf s9).toNat)
    case atStart => exact ⟨0, Nat.zero_le _, rfl, Below.refl _ _⟩
    case round =>
      clear d0 d1 d2 y2
      obtain ⟨j, hjS, rfl, hb⟩ := hrel
      have HB := Lib.hid hb
      have d1 := (box_three (kept_box E4.out hb)).2.1
      obtain ⟨ad, rfl, c1⟩ := (HQ1.out.below hb).at_ (show K < K + M by omega)
      simp only [slis] at c1
      have hlen : ((K : Nat) : Int) < ((K + M : Nat) : Int) := by omega
      clear hb
      by_cases hlt : j < S
      · go_wp2_with fail
        go_loopw [10, 11] (fun s10 s11 wr => XorIn G K j w4 s10 s11 wr) (fun _ s11 _ => K - (intOf s11).toNat)
        case atStart => exact ⟨0, Nat.zero_le _, rfl, rfl, HB.out⟩
        case round =>
          clear d1 c1 HB
          obtain ⟨i, hiK, rfl, rfl, hb⟩ := hrel
          have HB := Lib.hid hb
          have d1 := (box_three (kept_box E4.out hb)).2.1
          have c1 : wr.cell? (ad.add K) = some (.slice (As K) S (Cs K)) := by
            obtain ⟨ad', e', h5⟩ := (HQ1.out.below hb).at_ (show K < K + M by omega)
            injection e' with e'
            subst e'
            exact h5
          by_cases hiK2 : i < K
          · have c2 : wr.cell? (ad.add i) = some (.slice (As i) S (Cs i)) := by
              obtain ⟨ad', e', h5⟩ := (HQ1.out.below hb).at_ (show i < K + M by omega)
              injection e' with e'
              subst e'
              exact h5
            obtain ⟨ai, hai, c3⟩ := ((HQ2.out i (by omega)).below hb).at_ hlt
            rw [hai] at c2
            simp only [u8s] at c3
            have hX8 := u8_xor_nat (xo G j i) (G i j) (xo_lt HGL.out j i) (HGL.out i j)
            have HNX := Lib.hid (show ∀ q, XorIn G K j w4 (.int .u8 ((xo G j i ^^^ G i j : Nat) : Int)) (.int .i64 ((i + 1 : Nat) : Int)) (wr.drewN q) from fun q => ⟨i + 1, hiK2, rfl, rfl, HB.out.trans ((below_drewN' _ _).mono HB.out.size)⟩)
            have hne : ((S : Int) != (S : Int)) = false := by simp
            have hil : ((i : Nat) : Int) < ((K + M : Nat) : Int) := by omega
            have c2q : ∀ q, (wr.drewN q).cell? (ad.add i) = some (.slice (some ai) S (Cs i)) := fun _ => c2
            have c3q : ∀ q, (wr.drewN q).cell? (ai.add j) = some (.int .u8 (G i j : Nat)) := fun _ => c3
            clear hai hb
            go_wp2_with fail
            go_quiet (fail)
            have c2w := c2q nq
            have c3w := c3q nq
            have HNQ := Lib.hid (HNX.out nq)
            clear c1 c2 c3 c2q c3q d1 HNX
            have e8 : (j : Int) = j := rfl
            generalize wr.drewN nq = wq at *
            go_wp2_with fail
            exact ⟨HNQ.out, by simp [intOf]; omega⟩
          · obtain rfl : i = K := by omega
            obtain ⟨ai, hai, c3⟩ := ((HQ2.out i (by omega)).below hb).at_ hlt
            rw [hai] at c1
            simp only [u8s] at c3
            have hne : (((xo G j i : Nat) : Int) != ((G i j : Nat) : Int)) = false := by rw [HXO.out j]; simp
            have HNX := Lib.hid (show XorAt S w4 (.int .i64 ((j + 1 : Nat) : Int)) wr from ⟨j + 1, hlt, rfl, HB.out⟩)
            clear hai hb
            go_wp2_with fail
            exact ⟨HNX.out, by simp [intOf]; omega⟩
      · obtain rfl : j = S := by omega
        have HE := Lib.hid (below_tr H4.out HB.out)
        go_wp2_with fail
        go_ret
        exact ⟨rfl, HE.out⟩
  · have hz : (a0.tmod 2 == 0) = false := by rw [Int.tmod_eq_emod_of_nonneg (by omega)]; simpa using h2
    have hz2 : (a0 % 2 == 0) = false := by simpa using h2
    obtain ⟨L, hL, hL2⟩ : ∃ L : Nat, min (M : Int) 3 = (L : Int) ∧ 1 ≤ L ∧ L ≤ 3 := ⟨min M 3, by omega, by omega⟩
    have HX := Lib.hid (show mayX 3 K L from ⟨by omega, by omega, by omega, by rw [show maxI 3 = 3 from rfl]; omega⟩)
    obtain ⟨v, hv⟩ : ∃ v, w2.alloc (.cells #[.int .i64 3, .int .i64 K, .int .i64 L] TPa) = v := ⟨_, rfl⟩
    obtain ⟨s2, e2, hbv⟩ := one_box hv
    have H3 := Lib.hid (below_tr H2.out hbv)
    have HT3 := Lib.hid (HT2.out.below hbv)
    have E2 := Lib.hid e2
    have hE : szE 3 K L len1 = 0 := (if_pos ⟨HX.out, by omega⟩).trans (if_pos (by omega))
    have hsm : szN 3 K L len1 ≤ 1000 := by
      rw [(szE_ok HX.out (by omega)).1]
      have h1 := szU_le (u := unitL (layI 3)) (K := K) (m := aheadL (layI 3) + len1) (unitL_pos _).1 (by omega)
      have h2 := unitL_pos (layI 3)
      have h3 := aheadL_le (layI 3)
      omega
    have HENC := Lib.hid (enc16 w.heap.size 3 K L f HF.out a1 len1 cap1 (by omega) v HT3.out (HR.out.below H3.out))
    have HEN : encN 3 K L len1 = K + L := (if_pos hE).trans (by simp only [Int.toNat_natCast])
    unfold EncSaid at HENC
    rw [HEN, hE] at HENC
    simp only [Int.toNat_natCast] at HENC
    obtain ⟨S, hS⟩ : ∃ S, szN 3 K L len1 = S := ⟨_, rfl⟩
    rw [hS] at HENC hsm
    have HXO := Lib.hid (fun j => enc_xo (S := S) (n := len1) (f := f) HX.out (by omega) HF.out j)
    have HGL := Lib.hid (fun r j => encF_lt (p := 3) (K := K) (m := L) (S := S) (n := len1) HF.out r j)
    obtain ⟨G, hG⟩ : ∃ G, encF 3 K L S len1 f = G := ⟨_, rfl⟩
    rw [hG] at HENC HXO HGL
    obtain ⟨d0, d1, d2⟩ := box_three e2
    have hvs : w2.heap.size < v.heap.size := by omega
    clear hE HEN hS hG s2 e2 hbv H2 HT2 HR HF
    go_wp2_with fail
    refine HENC.out.mono ?_
    rintro e w4 ⟨v4, rfl, A4, c4, rfl, hc4, hx4, hb4⟩
    have H4 := Lib.hid (below_tr H3.out hb4)
    have E4 := Lib.hid (kept_box E2.out hb4)
    obtain ⟨As, Cs, hq1, hq2⟩ := hx4 0 (by omega)
    have HQ1 := Lib.hid hq1
    have HQ2 := Lib.hid hq2
    clear hx4 hb4 d0 d1 d2 hq1 hq2 HENC hv H3 HT3 HX E2
    obtain ⟨d0, d1, d2⟩ := box_three E4.out
    go_wp2_with fail
    go_loopw [9] (fun s9 wr => XorAt S w4 s9 wr) (fun s9 _ => S - (intOf s9).toNat)
    case atStart => exact ⟨0, Nat.zero_le _, rfl, Below.refl _ _⟩
    case round =>
      clear d0 d1 d2 y2
      obtain ⟨j, hjS, rfl, hb⟩ := hrel
      have HB := Lib.hid hb
      have d1 := (box_three (kept_box E4.out hb)).2.1
      obtain ⟨ad, rfl, c1⟩ := (HQ1.out.below hb).at_ (show K < K + L by omega)
      simp only [slis] at c1
      have hlen : ((K : Nat) : Int) < ((K + L : Nat) : Int) := by omega
      clear hb
      by_cases hlt : j < S
      · go_wp2_with fail
        go_loopw [10, 11] (fun s10 s11 wr => XorIn G K j w4 s10 s11 wr) (fun _ s11 _ => K - (intOf s11).toNat)
        case atStart => exact ⟨0, Nat.zero_le _, rfl, rfl, HB.out⟩
        case round =>
          clear d1 c1 HB
          obtain ⟨i, hiK, rfl, rfl, hb⟩ := hrel
          have HB := Lib.hid hb
          have d1 := (box_three (kept_box E4.out hb)).2.1
          have c1 : wr.cell? (ad.add K) = some (.slice (As K) S (Cs K)) := by
            obtain ⟨ad', e', h5⟩ := (HQ1.out.below hb).at_ (show K < K + L by omega)
            injection e' with e'
            subst e'
            exact h5
          by_cases hiK2 : i < K
          · have c2 : wr.cell? (ad.add i) = some (.slice (As i) S (Cs i)) := by
              obtain ⟨ad', e', h5⟩ := (HQ1.out.below hb).at_ (show i < K + L by omega)
              injection e' with e'
              subst e'
              exact h5
            obtain ⟨ai, hai, c3⟩ := ((HQ2.out i (by omega)).below hb).at_ hlt
            rw [hai] at c2
            simp only [u8s] at c3
            have hX8 := u8_xor_nat (xo G j i) (G i j) (xo_lt HGL.out j i) (HGL.out i j)
            have HNX := Lib.hid (show ∀ q, XorIn G K j w4 (.int .u8 ((xo G j i ^^^ G i j : Nat) : Int)) (.int .i64 ((i + 1 : Nat) : Int)) (wr.drewN q) from fun q => ⟨i + 1, hiK2, rfl, rfl, HB.out.trans ((below_drewN' _ _).mono HB.out.size)⟩)
            have hne : ((S : Int) != (S : Int)) = false := by simp
            have hil : ((i : Nat) : Int) < ((K + L : Nat) : Int) := by omega
            have c2q : ∀ q, (wr.drewN q).cell? (ad.add i) = some (.slice (some ai) S (Cs i)) := fun _ => c2
            have c3q : ∀ q, (wr.drewN q).cell? (ai.add j) = some (.int .u8 (G i j : Nat)) := fun _ => c3
            clear hai hb
            go_wp2_with fail
            go_quiet (fail)
            have c2w := c2q nq
            have c3w := c3q nq
            have HNQ := Lib.hid (HNX.out nq)
            clear c1 c2 c3 c2q c3q d1 HNX
            have e8 : (j : Int) = j := rfl
            generalize wr.drewN nq = wq at *
            go_wp2_with fail
            exact ⟨HNQ.out, by simp [intOf]; omega⟩
          · obtain rfl : i = K := by omega
            obtain ⟨ai, hai, c3⟩ := ((HQ2.out i (by omega)).below hb).at_ hlt
            rw [hai] at c1
            simp only [u8s] at c3
            have hne : (((xo G j i : Nat) : Int) != ((G i j : Nat) : Int)) = false := by rw [HXO.out j]; simp
            have HNX := Lib.hid (show XorAt S w4 (.int .i64 ((j + 1 : Nat) : Int)) wr from ⟨j + 1, hlt, rfl, HB.out⟩)
            clear hai hb
            go_wp2_with fail
            exact ⟨HNX.out, by simp [intOf]; omega⟩
      · obtain rfl : j = S := by omega
        have HE := Lib.hid (below_tr H4.out HB.out)
        go_wp2_with fail
        go_ret
        exact ⟨rfl, HE.out⟩

set_option maxRecDepth 100000 in
theorem lifted (os : Os) (started : os.Started) (H : Type) (enc : TypeId × Value → H) :
    ReturnsInHanded {} Tryz.checked os 8 .any (fun w args => (Rows.codecXorSpec.pre enc Tryz.prog Tryz.f8 Rows.codecXorRow.domain false w args ∧ laidMetH Tryz.prog laidT w) ∧ sizedMet enc Tryz.prog Tryz.f8 (OpenSpec.ofChange Rows.codecXorSpec) false w args) (Rows.codecXorSpec.post enc Tryz.prog Tryz.f8 false true false false) := by
  refine returnsInHanded_of_change_and (C := Tryz.checked) (X := fun w _ => laidMetH Tryz.prog laidT w) (fun _ _ _ hh h => h.of_heap hh) own started (by kernel_rfl) Tryz.func8
    (ChangeSpec.witness_shaped (enc := enc) (C := Tryz.checked) (os := os) (X := fun w _ => laidMetH Tryz.prog laidT w) false (World.doorLaid Tryz.prog 400 os) #[.agg #[.int .u8 0, .int .u8 0, .int .u8 0], .slice none 0 0] 8 rfl (World.shaped_of_RefB (by kernel_rfl) (by kernel_rfl)) (by kernel_rfl) (by kernel_rfl) (by kernel_rfl) (door_met os _)) ?_
  intro W base args ds gs before hval0 hW hcnd _ hL _
  have hval : ∀ (j : Nat) t v, Tryz.f8.params[j]? = some t → args[j]? = some v → Value.okWide Tryz.prog W .any base t v := hval0
  have hW' := hW
  obtain ⟨p, q, hA0, hV, rfl, hfz, hnd⟩ := hW
  have hA : DataW.TrodAll enc Tryz.prog W 0 (fun _ => true) true Tryz.f8.params.toList args.toList ds p := hA0
  rw [Tryz.params8] at hA hval
  obtain ⟨v0, vs0, d0, ds0, p0, q0, hargs, rfl, rfl, h0, r0⟩ := trodAll_cons hA
  obtain ⟨v1, vs1, d1, ds1, p1, q1, rfl, rfl, rfl, h1, r1⟩ := trodAll_cons r0
  obtain ⟨rfl, rfl, rfl⟩ := trodAll_nil r1
  obtain rfl : args = #[v0, v1] := by cases args; simp_all
  obtain ⟨rfl, rfl⟩ := trodVars_none hV
  obtain ⟨cs0, rfl, hsz0, _⟩ : ∃ cs, v0 = .agg cs ∧ cs.size = Tryz.prog.cellsOf 38 ∧ Row.okWide Tryz.prog W .any base 38 cs := by
    have := hval 0 38 v0 rfl rfl
    simpa [Value.okWide, Tryz.underlying38] using this
  rw [show Tryz.prog.cellsOf 38 = 3 by kernel_rfl] at hsz0
  obtain ⟨l0⟩ := cs0
  obtain ⟨e0, f0, g0, rfl⟩ := list3 l0 hsz0
  have k0 := h0
  have lt0 : ∀ x ∈ p0, x.block < W.heap.size := by obtain ⟨m, hm⟩ := k0; exact DataW.trod_lt m _ _ _ hm
  obtain ⟨fuel0, hf0⟩ := h0
  obtain ⟨a0, b0, c0, rfl, rfl, rfl, w0⟩ := three_in hf0
  obtain ⟨a1, len1, cap1, rfl⟩ := okWide_slice Tryz.underlying34 (hval 1 34 v1 rfl rfl)
  have k1 := h1
  have lt1 : ∀ x ∈ p1, x.block < W.heap.size := by obtain ⟨m, hm⟩ := k1; exact DataW.trod_lt m _ _ _ hm
  have w1 : IsBytesN W a1 len1 cap1 := by
    obtain ⟨fuel, hf⟩ := h1
    exact bytesn_in hf
  clear hA0 hval0
  refine (walk a0 b0 c0 a1 len1 cap1 W w0 w1 (tab_of_laid hL)).mono fun e W' ⟨he, bel⟩ => ?_
  subst he
  exact ⟨_, rfl, _, _, _, [], _, [], hW', trodAll_mk1 (shut_bool Tryz.underlying4 _), (trodAll_cons_mk (Below.trod laidOut (by kernel_rfl) (of_decide_eq_true (by kernel_rfl)) k0 bel lt0) (trodAll_cons_mk (Below.trod laidOut (by kernel_rfl) (of_decide_eq_true (by kernel_rfl)) k1 bel lt1) trodAll_mk0)), rfl, bel.frame _, fun h => by cases h⟩

theorem over : Rows.codecXorRow.holds Tryz.pinned (OpenSpec.ofChange Rows.codecXorSpec) :=
  OpenClaim.holds_of_wide 8 Tryz.f8 rfl rfl rfl rfl rfl rfl rfl ⟨rfl, rfl, rfl, rfl, rfl⟩ rfl rfl rfl rfl rfl (by kernel_rfl) Tryz.func8 (by kernel_rfl)
    (of_decide_eq_true (by kernel_rfl)) (by unfold Func.isWrapper; first | (rw [if_pos (by decide +kernel)]; kernel_rfl) | (rw [if_neg (by decide +kernel)]; exact ⟨rfl, rfl⟩))
    (fun os started H enc _ => lifted os started H enc)

theorem proved : Rows.CodecXorCardSaid :=
  Claim7.holds_tied_plain_at .later [] [.data] true Rows.codecXorCard.stood.harness false
    over (fun _ h => by cases h) (by kernel_rfl) (fun _ h => by cases h) codecXor_row_tie rfl ⟨rfl, rfl⟩ (by kernel_rfl) rfl
    (fun f fn hf hfn => by
      obtain rfl : f = 8 := Option.some.inj ((show Tryz.prog.funcNamed "gambrel/gambrellaw11.CodecXor" = some 8 by kernel_rfl).symm.trans hf) |>.symm
      obtain rfl : fn = Tryz.f8 := (Option.some.inj (Tryz.func8.symm.trans hfn)).symm
      exact ⟨by kernel_rfl, fun j t ht => by
        rw [Tryz.params8] at ht
        have hm : t ∈ [38, 34] := by simpa using Array.mem_of_getElem? ht
        have hall : ([38, 34].all fun u => !Tryz.prog.wantsStandIn u) = true := by kernel_rfl
        exact (show Tryz.prog.wantsStandIn t = false by simpa using List.all_eq_true.1 hall t hm)⟩)
    (by kernel_rfl)
end Go.Proofs.YtgbipbcejjlpiaaGreatDoor.codecXor
