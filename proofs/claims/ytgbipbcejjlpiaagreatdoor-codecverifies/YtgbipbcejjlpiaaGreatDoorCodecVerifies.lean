/- CodecVerifies: for all three bytes, any bytes, and any place, what is encoded is verified, and its data shards are joined to what was encoded; with one byte otherwise it is not verified any more, nor without its first shard (its law asks for 300 bytes at most). Condition: the package-level variable gambrel/profile.table holds, when the call begins, what the text of the program lays there; the card ties that to the text, over the pruned copy of the project that the seat holds. -/
import Derived.Test.YtgbipbcejjlpiaaGreatDoorRows
import Derived.Test.YtgbipbcejjlpiaaGreatDoorPrh
import Derived.Test.YtgbipbcejjlpiaaGreatDoorGyd
import Derived.Test.YtgbipbcejjlpiaaGreatDoorGxz
import Derived.Test.YtgbipbcejjlpiaaGreatDoorGxx
import Derived.Test.YtgbipbcejjlpiaaGreatDoorGxv
import Derived.Test.YtgbipbcejjlpiaaGreatDoorGxv
import Derived.Test.YtgbipbcejjlpiaaGreatDoorArr
import Derived.Test.YtgbipbcejjlpiaaGreatDoorCards
import Derived.Test.YtgbipbcejjlpiaaGreatDoorTie
import Derived.SevenTiedAt
import Derived.ChangeMaps5
import Derived.Deep.RegionHeld3
import Derived.WalkKit
import Derived.ProofKit
import Derived.OpenShut
import Derived.ShutString
import Derived.ChangeOld
import Derived.Below
namespace Go.Proofs.YtgbipbcejjlpiaaGreatDoor.codecVerifies
open Go.ChangeShapes Go.WideShapes Go.ChangeAt Go.RowKit
set_option linter.unusedVariables false

theorem own : ownKnob Tryz.prog.godebug = none := by kernel_rfl
theorem laidOut : laidOutB Tryz.prog = true := by kernel_rfl

/-- a list that the call owns, as a row -/
theorem own_row {base e n : Nat} {w : World} {k : Nat → Value} {v : Value} (h : w.ownsRow base e 1 v n ((List.range n).map k)) (hn : 0 < n) :
    ∃ g c K, v = .slice (some ⟨g, 0, none⟩) n c ∧ base ≤ g ∧ n ≤ c ∧ w.rowIs g e c K ∧ ∀ j, j < n → K j = k j := by
  rcases h.2 with ⟨_, rfl⟩ | ⟨g, cap, cur, rfl, hg, hh, hc, _, hs, ht⟩
  · omega
  · refine ⟨g, cap, fun j => (cur[j]?).getD nilS, rfl, hg, hc, ⟨cur, hh, by omega, fun i hi => ?_⟩, fun j hj => ?_⟩
    · show cur[i]? = some ((cur[i]?).getD nilS)
      rw [Array.getElem?_eq_getElem (by omega)]; rfl
    · have h1 : (cur.toList.take (n * 1))[j]? = some (k j) := by rw [ht, List.getElem?_map, List.getElem?_range (by omega)]; rfl
      rw [List.getElem?_take, if_pos (by omega), Array.getElem?_toList] at h1
      show (cur[j]?).getD nilS = k j
      rw [h1]; rfl

set_option maxRecDepth 100000 in
set_option maxHeartbeats 8000000 in
theorem walk (a0 b0 c0 : Int) (a1 : Option Addr) (len1 cap1 : Nat) (a2 b2 c2 : Int) (w : World) (w0 : (0 ≤ a0 ∧ a0 ≤ 255) ∧ (0 ≤ b0 ∧ b0 ≤ 255) ∧ 0 ≤ c0 ∧ c0 ≤ 255) (w1 : IsBytesN w a1 len1 cap1) (hat : (0 ≤ a2 ∧ a2 ≤ 255) ∧ (0 ≤ b2 ∧ b2 ≤ 255) ∧ 0 ≤ c2 ∧ c2 ≤ 255) (hT : Tab w) :
    Calls Tryz.prog 5 #[.agg (arr3 a0 b0 c0), .slice a1 len1 cap1, .agg (arr3 a2 b2 c2)] w fun e w' => e = .returned (.bool true) ∧ Below w.heap.size w w' := by
  obtain ⟨i0, hi, hz0, hz1, hz2⟩ := info_parts infoS
  obtain ⟨i1, hi', hz0', hz1', hz2'⟩ := info_parts infoB
  obtain ⟨f, hf, _, _, hr⟩ := w1
  have HA := Lib.hid w0
  have h0 := hT.lt
  have HR := Lib.hid (hr w.heap.size (Nat.le_refl _))
  have HF := Lib.hid hf
  obtain ⟨u, hu⟩ : ∃ u, (w.alloc (.cells #[.int .u8 a0, .int .u8 b0, .int .u8 c0] T3u)).alloc (.cells #[.int .u8 a2, .int .u8 b2, .int .u8 c2] T3u) = u := ⟨_, rfl⟩
  obtain ⟨s0, e0, e1, hbu⟩ := two_boxes hu
  have HTU := Lib.hid (hT.below hbu)
  have HU := Lib.hid hbu
  have E0 := Lib.hid e0
  have E1 := Lib.hid e1
  clear s0 e0 e1 hbu hT w0 hr hf
  go_enter Tryz.func5, Tryz.ntmps5
  go_wp2_with fail
  refine (awakeK _ HTU.out).mono ?_
  rintro e w1 ⟨rfl, hb1⟩
  have H1 := Lib.hid (below_tr HU.out hb1)
  have HT1 := Lib.hid (HTU.out.below hb1)
  have y1 := kept_box E0.out hb1
  have Y1 := Lib.hid (kept_box E1.out hb1)
  clear hb1 HTU HU E0 E1 hu
  by_cases hl : 300 < len1
  · go_wp2_with fail
    go_ret
    exact ⟨rfl, H1.out⟩
  go_wp2_with (refine wpList_load_row rfl T3u _ rfl w.heap.size rfl T3u _ (0, 0) _ y1 Tryz.underlying38 rfl size3u ?_)
  refine (some20 a0 b0 c0 HA.out.1 HA.out.2.1 HA.out.2.2 _).mono ?_
  rintro e w2 ⟨p, k, m, rfl, hX, hb2⟩
  obtain ⟨K, rfl⟩ : ∃ K : Nat, k = (K : Int) := ⟨k.toNat, by have := hX.2.1; omega⟩
  obtain ⟨M, rfl⟩ : ∃ M : Nat, m = (M : Int) := ⟨m.toNat, by have := hX.2.2.1; omega⟩
  have hK := hX.2.1
  have hM : 1 ≤ M ∧ M ≤ 4 := by have := hX.2.2; have := (max_pos hX.1).2; omega
  have HX := Lib.hid hX
  obtain ⟨v, hv⟩ : ∃ v, w2.alloc (.cells #[.int .i64 p, .int .i64 K, .int .i64 M] TPa) = v := ⟨_, rfl⟩
  obtain ⟨s2, e2, hbv⟩ := one_box hv
  have H3 := Lib.hid (below_tr H1.out (below_tr hb2 hbv))
  have HT3 := Lib.hid (HT1.out.below (below_tr hb2 hbv))
  have E2 := Lib.hid e2
  have Y3 := Lib.hid (kept_box Y1.out (below_tr hb2 hbv))
  have hE : szE p K M len1 = 0 := (if_pos ⟨HX.out, by omega⟩).trans (if_pos (by omega))
  have HE0 := Lib.hid hE
  have HSE := Lib.hid (sz_even hE)
  have hsm : 1 ≤ szN p K M len1 ∧ szN p K M len1 ≤ 1000 := by
    rw [(szE_ok HX.out (by omega)).1]
    have h1 := szU_le (u := unitL (layI p)) (K := K) (m := aheadL (layI p) + len1) (unitL_pos _).1 (by omega)
    have h5 := szU_ge (u := unitL (layI p)) (K := K) (m := aheadL (layI p) + len1) (unitL_pos _).1 (by omega)
    have h2 := unitL_pos (layI p)
    have h3 := aheadL_le (layI p)
    omega
  have HENC := Lib.hid (enc16 w.heap.size p K M f HF.out a1 len1 cap1 (by omega) v HT3.out (HR.out.below H3.out))
  have HEN : encN p K M len1 = K + M := (if_pos hE).trans (by simp only [Int.toNat_natCast])
  have HSN := Lib.hid (show splN p K M len1 = K from (if_pos hE).trans (Int.toNat_natCast K))
  unfold EncSaid at HENC
  rw [HEN, hE] at HENC
  simp only [Int.toNat_natCast] at HENC
  have HEG := Lib.hid (fun S r (hr : r < K) j => show encF p K M S len1 f r j = splF p S len1 f r j from by unfold encF; rw [if_pos hr])
  obtain ⟨S, hS⟩ : ∃ S, szN p K M len1 = S := ⟨_, rfl⟩
  have HSS := Lib.hid hS
  rw [hS] at HENC hsm HSE
  have HVE := Lib.hid (ver_enc (p := p) (K := K) (m := M) (S := S) (n := len1) (f := f) HX.out HSE.out)
  have HGL := Lib.hid (fun r j => encF_lt (p := p) (K := K) (m := M) (S := S) (n := len1) HF.out r j)
  obtain ⟨G, hG⟩ : ∃ G, encF p K M S len1 f = G := ⟨_, rfl⟩
  have HGG := Lib.hid hG
  rw [hG] at HENC HVE HGL
  obtain ⟨N, hN⟩ : ∃ N, K + M = N := ⟨_, rfl⟩
  rw [hN] at HENC HVE
  have HNN := Lib.hid hN
  have hKN : K < N := by omega
  have hN12 : N ≤ 12 := by omega
  have hnn : ((N : Int) != (K : Int) + (M : Int)) = false := by simp; omega
  obtain ⟨d0, d1, d2⟩ := box_three e2
  have hvs : w2.heap.size < v.heap.size := by omega
  have hsm1 := hsm.1
  have hsm2 := hsm.2
  clear hN hE HEN hS hG s2 e2 hbv hb2 hX H1 HT1 y1 HA Y1 hsm
  go_wp2_with fail
  refine HENC.out.mono ?_
  rintro e w4 ⟨v4, rfl, A4, c4, rfl, hc4, hx4, hb4⟩
  have H4 := Lib.hid (below_tr H3.out hb4)
  have HT4 := Lib.hid (HT3.out.below hb4)
  have E4 := Lib.hid (kept_box E2.out hb4)
  have Y4 := Lib.hid (kept_box Y3.out hb4)
  obtain ⟨As, Cs, hq1, hq2⟩ := hx4 0 (by omega)
  have HQ1 := Lib.hid hq1
  have HQ2 := Lib.hid hq2
  have hw4 : 0 < w4.heap.size := by have := hb4.size; omega
  obtain ⟨ad, rfl, _⟩ := hq1.at_ (show 0 < N by omega)
  clear hx4 hb4 d0 d1 d2 hq1 hq2 HENC hv H3 HT3 E2 Y3
  have hh1 := run_headS (some ad) (N) c4 K (by omega)
  have hh2 := run_headAtS (some ad) (N) c4 K (by omega)
  have HJ := Lib.hid (join16 0 p K M (splF p S len1 f) (fun r j => splF_lt HF.out r j) (fun _ => S) (some ad) K c4 (by omega) (fun _ _ => by omega) len1 w4.drew (HT4.out.below (Below.refl _ w4).drew) ⟨As, Cs, HQ1.out.take (by omega), fun r hr => (HQ2.out r (by omega)).congr (fun j _ => by simp only [u8s]; rw [← HGG.out, HEG.out S r hr j])⟩)
  have HJB := Lib.hid (show ∀ e w', JoinSaid p K M K (fun _ => S) (splF p S len1 f) len1 w4.drew e w' → ∃ v, e = .returned (.tuple #[v, .int .i64 0]) ∧ BytesOut len1 f w4.drew v w' from fun e w' h => by
    refine join_back HE0.out ?_
    rw [HSN.out, HSS.out]
    exact h)
  have KEEP := Lib.hid (show ∀ w', Below w4.heap.size w4 w' → w'.cell? ⟨w2.heap.size, 0, none⟩ = some (.int .i64 p) ∧ w'.cell? ⟨w2.heap.size, 1, none⟩ = some (.int .i64 (K : Nat)) ∧ w'.cell? ⟨w2.heap.size, 2, none⟩ = some (.int .i64 (M : Nat)) from fun w' hb' => box_three (kept_box E4.out hb'))
  obtain ⟨d0, d1, d2⟩ := box_three E4.out
  clear HSN HSS HEG HE0 HGG
  go_wp2_with fail
  go_region_held3 (fun w' => w'.cell? ⟨w2.heap.size, 0, none⟩ = some (.int .i64 p) ∧ w'.cell? ⟨w2.heap.size, 1, none⟩ = some (.int .i64 (K : Nat)) ∧ w'.cell? ⟨w2.heap.size, 2, none⟩ = some (.int .i64 (M : Nat)))
    (first | exact ⟨d0, d1, d2⟩ | exact KEEP.out _ (below_tr (Below.refl w4.heap.size w4).drew hb5) | assumption)
    ((go_at_call 19; refine HJ.out.mono ?_; rintro e w5 h5; obtain ⟨v5, rfl, A5, c5, rfl, _, hr5, hb5⟩ := HJB.out _ _ h5))
  have HB5 := Lib.hid (below_tr (Below.refl w4.heap.size w4).drew hb5)
  have HR5 := Lib.hid (hr5 0 hw4)
  have H5 := Lib.hid (below_tr H4.out HB5.out)
  have Y5 := Lib.hid (kept_box Y4.out HB5.out)
  have y0 := box_at (i := 0) (x := .int .u8 a2) Y5.out rfl
  have y1 := box_at (i := 1) (x := .int .u8 b2) Y5.out rfl
  have y2 := box_at (i := 2) (x := .int .u8 c2) Y5.out rfl
  have hz4 := HB5.out.size
  obtain ⟨I, hI⟩ : ∃ I : Nat, a2 % ((N : Nat) : Int) = (I : Int) := ⟨(a2 % ((N : Nat) : Int)).toNat, by have := Int.emod_nonneg a2 (show ((N : Nat) : Int) ≠ 0 by omega); omega⟩
  have hI2 : I < N := by have := Int.emod_lt_of_pos a2 (show 0 < ((N : Nat) : Int) by omega); omega
  have hIt : a2.tmod ((N : Nat) : Int) = (I : Int) := by rw [Int.tmod_eq_emod_of_nonneg hat.1.1]; exact hI
  obtain ⟨J, hJ⟩ : ∃ J : Nat, b2 % (S : Int) = (J : Int) := ⟨(b2 % (S : Int)).toNat, by have := Int.emod_nonneg b2 (show (S : Int) ≠ 0 by omega); omega⟩
  have hJ2 : J < S := by have := Int.emod_lt_of_pos b2 (show 0 < (S : Int) by omega); omega
  have hJt : b2.tmod (S : Int) = (J : Int) := by rw [Int.tmod_eq_emod_of_nonneg hat.2.1.1]; exact hJ
  have hne0 : ¬ N = 0 := by omega
  have hneS : ¬ S = 0 := by omega
  have hneSI : ((S : Int) == 0) = false := by simp; omega
  have hii : (I : Int) < ((N : Nat) : Int) := by omega
  have c1 : w5.cell? (ad.add I) = some (.slice (As I) S (Cs I)) := by
    obtain ⟨ad', e', h5⟩ := (HQ1.out.below HB5.out).at_ hI2
    injection e' with e'
    subst e'
    exact h5
  clear hb5 hr5 d0 d1 d2 KEEP HJ HJB hh1 hh2
  go_wp2_with fail
  go_quiet (fail)
  have HB6 := Lib.hid (below_tr HB5.out (below_drewN' w5 nq))
  have HR6 := Lib.hid (HR5.out.below (below_drewN' w5 nq))
  have H6 := Lib.hid (below_tr H5.out (below_drewN' w5 nq))
  generalize w5.drewN nq = w6 at *
  have hz6 := HB6.out.size
  clear c1 y0 y1 y2 HB5 hI hJ hIt hJt Y5 hneSI hneS hne0 H5
  go_wp2_with (at_builtin; refine append_rd _ rfl (.tmp 74) (.tmp 75) TRs rfl w6.heap.size TBs i0 nilS 24 Tryz.underlying24 hi hz0 hz1 hz2 rfl _ 0 [] rfl (World.ownsRow_lit w6 #[] 0 (Nat.le_refl _) (Nat.zero_le _) rfl) 0 _ _ _ _ rfl (fun e => by cases e) ((HQ1.out.below HB6.out).below (below_alloc _ _)) (one_slis _ _ _) (by unfold maxLen; omega) (by omega) (by simp) ?_)
  intro v7 w7 hown7 hgr7
  have hB7 : Below w6.heap.size w6 w7 := (below_alloc w6 (.cells #[] TBs)).grown hgr7 (by simp) (fun q hq => by simp [Value.ownBlock] at hq; omega)
  obtain ⟨g7, c7, K7, rfl, hg7, hc7, hrow7, hk7⟩ := own_row hown7 (by omega)
  have HB7 := Lib.hid (below_tr HB6.out hB7)
  have HB67 := Lib.hid hB7
  have H7 := Lib.hid (below_tr H6.out hB7)
  have hz7 := hB7.size
  have hg7l := hrow7.lt
  have HROW7 := Lib.hid hrow7
  have HK7 := Lib.hid hk7
  obtain ⟨ai, hai, _⟩ := (HQ2.out I hI2).at_ (show 0 < S by omega)
  have HAI := Lib.hid hai
  have c1 : ∀ o, (w7.alloc o).cell? (ad.add I) = some (.slice (some ai) S (Cs I)) := fun o => by
    obtain ⟨ad', e', h5⟩ := ((HQ1.out.below HB7.out).below (below_alloc w7 o)).at_ hI2
    injection e' with e'
    subst e'
    rw [h5]
    simp only [slis, hai]
  have HRI := Lib.hid (show Rd 0 w7 (u8s (G I)) (some ai) S by
    have h5 := (HQ2.out I hI2).below HB7.out
    rw [hai] at h5
    exact h5)
  clear hown7 hgr7 hB7 hrow7 hk7 hai H6 HB6
  go_wp2_with (at_builtin; refine append_rd _ rfl (.tmp 77) (.tmp 81) TBs rfl w7.heap.size TB i1 (.int .u8 0) 1 Tryz.underlying34 hi' hz0' hz1' hz2' rfl _ 0 [] rfl (World.ownsRow_lit w7 #[] 0 (Nat.le_refl _) (Nat.zero_le _) rfl) 0 _ _ _ _ rfl (fun e => by cases e) (HRI.out.below (below_alloc _ _)) (fun _ => rfl) (by unfold maxLen; omega) (by omega) (by simp) ?_)
  intro v8 w8 hown8 hgr8
  have hB8 : Below w7.heap.size w7 w8 := (below_alloc w7 (.cells #[] TB)).grown hgr8 (by simp) (fun q hq => by simp [Value.ownBlock] at hq; omega)
  obtain ⟨g8, c8, K8, rfl, hg8, hc8, hrow8, hk8⟩ := own_row hown8 (by omega)
  have HB8 := Lib.hid (below_tr HB7.out hB8)
  have HB68 := Lib.hid (below_tr HB67.out hB8)
  have H8 := Lib.hid (below_tr H7.out hB8)
  have hz8 := hB8.size
  have hg8l := hrow8.lt
  have HROW8 := Lib.hid hrow8
  have HROW7' := Lib.hid (HROW7.out.of_block (hB8.block _ hg7l))
  have HK8 := Lib.hid hk8
  have d1 : w8.cell? ⟨g8, J, none⟩ = some (.int .u8 (G I J : Nat)) := by rw [hrow8.cell (show J < c8 by omega), hk8 J hJ2]
  have d2 := hrow8.frozen J
  have y2 := box_at (i := 2) (x := .int .u8 c2) (kept_box Y4.out HB8.out) rfl
  obtain ⟨D, hD⟩ : ∃ D : Nat, c2 % 255 = (D : Int) := ⟨(c2 % 255).toNat, by omega⟩
  have hD2 : D < 255 := by omega
  have hDt : c2.tmod 255 = (D : Int) := by rw [Int.tmod_eq_emod_of_nonneg hat.2.2.1]; exact hD
  have hGI := HGL.out I J
  obtain ⟨X, hX⟩ : ∃ X : Nat, G I J ^^^ (1 + D) = X := ⟨_, rfl⟩
  have HXX := Lib.hid hX
  have hxor : bits .xor .u8 ((G I J : Nat) : Int) (1 + (D : Int)) = (X : Int) := by
    have h5 := u8_xor_nat (G I J) (1 + D) hGI (by omega)
    rw [hX] at h5
    rw [← h5]
    congr 1
  have hJc : (J : Int) < (S : Int) := by omega
  have HP9 := Lib.hid (show ((w8.setCell ⟨g8, J, none⟩ (.int .u8 (X : Int))).drew).rowIs g8 TB c8 (fun j => if j = J then .int .u8 (X : Int) else K8 j) ∧ ((w8.setCell ⟨g8, J, none⟩ (.int .u8 (X : Int))).drew).rowIs g7 TBs c7 K7 ∧ Below w4.heap.size w4 ((w8.setCell ⟨g8, J, none⟩ (.int .u8 (X : Int))).drew) ∧ Below w.heap.size w ((w8.setCell ⟨g8, J, none⟩ (.int .u8 (X : Int))).drew) ∧ Below w6.heap.size w6 ((w8.setCell ⟨g8, J, none⟩ (.int .u8 (X : Int))).drew) from
    ⟨(hrow8.set J _).drew, (HROW7'.out.setOther (by simp; omega) _).drew, (HB8.out.setCell (p := ⟨g8, J, none⟩) (by simp; omega) _).drew, (H8.out.setCell (p := ⟨g8, J, none⟩) (by simp; have := H4.out.size; omega) _).drew, (HB68.out.setCell (p := ⟨g8, J, none⟩) (by simp; omega) _).drew⟩)
  have d3 := HP9.out.2.1.cell (show I < c7 by omega)
  have f3 := HP9.out.2.1.frozen I
  have hIN : (I : Int) < (N : Int) := by omega
  clear hown8 hgr8 hB8 hrow8 hk8 c1 HROW7 HRI HB7 H7 hX HROW7' HROW8 H8 HB67 HB68
  have hww4 := H4.out.size
  go_wp2_with fail
  go_region
  all_goals
    generalize (w8.setCell ⟨g8, J, none⟩ (.int .u8 (X : Int))).drew = w9 at *
    clear d1 d2 y2 hxor hD hDt hJc
    obtain ⟨p1, p2, p3, p4, p5⟩ := HP9.out
    have HP10 := Lib.hid (show (w9.setCell ⟨g7, I, none⟩ (.slice (some ⟨g8, 0, none⟩) S c8)).rowIs g8 TB c8 (fun j => if j = J then .int .u8 (X : Int) else K8 j) ∧ (w9.setCell ⟨g7, I, none⟩ (.slice (some ⟨g8, 0, none⟩) S c8)).rowIs g7 TBs c7 (fun j => if j = I then .slice (some ⟨g8, 0, none⟩) S c8 else K7 j) ∧ Below w4.heap.size w4 (w9.setCell ⟨g7, I, none⟩ (.slice (some ⟨g8, 0, none⟩) S c8)) ∧ Below w.heap.size w (w9.setCell ⟨g7, I, none⟩ (.slice (some ⟨g8, 0, none⟩) S c8)) ∧ Below w6.heap.size w6 (w9.setCell ⟨g7, I, none⟩ (.slice (some ⟨g8, 0, none⟩) S c8)) from
      ⟨p1.setOther (by simp; omega) _, p2.set I _, p3.setCell (p := ⟨g7, I, none⟩) (by simp; omega) _, p4.setCell (p := ⟨g7, I, none⟩) (by simp; omega) _, p5.setCell (p := ⟨g7, I, none⟩) (by simp; omega) _⟩)
    clear p1 p2 p3 p4 p5 HP9
    go_wp2_with fail
    generalize w9.setCell ⟨g7, I, none⟩ (.slice (some ⟨g8, 0, none⟩) S c8) = w10 at *
    clear d3 f3
    obtain ⟨p1, p2, p3, p4, p5⟩ := HP10.out
    have HB10 := Lib.hid p3
    have HR10 := Lib.hid (HR6.out.below p5)
    have H10 := Lib.hid p4
    have hz10 := p3.size
    have HT10 := Lib.hid (HT4.out.below p3)
    have HO1 := Lib.hid (show Rd 0 w10 (slis (fun r => if r = I then some ⟨g8, 0, none⟩ else As r) (fun _ => S) (fun r => if r = I then c8 else Cs r)) (some ⟨g7, 0, none⟩) N from (Rd.of_row p2 (by omega) hc7).congr (fun j hj => by
      simp only [slis]
      by_cases e : j = I
      · rw [if_pos e, if_pos e, if_pos e]
      · rw [if_neg e, if_neg e, if_neg e, HK7.out j hj]))
    have HO2 := Lib.hid (show ∀ r, r < N → Rd 0 w10 (u8s ((fun r j => if r = I then (if j = J then X else G I j) else G r j) r)) ((fun r => if r = I then some ⟨g8, 0, none⟩ else As r) r) S from fun r hr => by
      dsimp only
      by_cases e : r = I
      · rw [if_pos e]
        refine (Rd.of_row p1 (by omega) hc8).congr (fun j hj => ?_)
        simp only [u8s]
        rw [if_pos e]
        by_cases e2 : j = J
        · rw [if_pos e2, if_pos e2]
        · rw [if_neg e2, if_neg e2, HK8.out j hj]
      · rw [if_neg e]
        exact ((HQ2.out r hr).below p3).congr (fun j _ => by simp only [u8s]; rw [if_neg e]))
    have HX8 := Lib.hid (show X < 256 by rw [← HXX.out]; exact Nat.xor_lt_two_pow (n := 8) hGI (by omega))
    have HOF := Lib.hid (show ∀ r j, (fun r j => if r = I then (if j = J then X else G I j) else G r j) r j < 256 from fun r j => by
      dsimp only
      split
      · split
        · exact HX8.out
        · exact HGL.out I j
      · exact HGL.out r j)
    have HNO := Lib.hid (show ¬ verP p K M N (fun _ => S) (fun r j => if r = I then (if j = J then X else G I j) else G r j) from by
      refine ver_odd (i := I) (x := J) HGL.out HOF.out HVE.out hI2 hJ2 ?_ (fun r _ hne => by funext j; simp only [if_neg hne])
      rw [if_pos rfl, if_pos rfl, ← HXX.out]
      intro h
      have h5 := congrArg (fun x => G I J ^^^ x) h
      simp only [← Nat.xor_assoc, Nat.xor_self, Nat.zero_xor] at h5
      omega)
    have hts := run_tailS (some ad) N c4 (by omega)
    have hta := run_tailAtS (some ad) N c4 (by omega)
    have hcut := (HQ1.out.below p3).cut (i := 1) (cap := c4) (by omega) hc4
    obtain ⟨At, hAt⟩ : ∃ At, (if c4 = 1 then some ad else (some ad).map (·.add 1)) = At := ⟨_, rfl⟩
    rw [hAt] at hts hta hcut
    have HCUT := Lib.hid hcut
    clear hAt hcut
    obtain ⟨s, hs⟩ : ∃ s, strF f len1 = s := ⟨_, rfl⟩
    have HST := Lib.hid hs
    have ST := Lib.hid (show ∀ w', Below w10.heap.size w10 w' → w'.cell? ⟨w2.heap.size, 0, none⟩ = some (.int .i64 p) ∧ w'.cell? ⟨w2.heap.size, 1, none⟩ = some (.int .i64 (K : Nat)) ∧ w'.cell? ⟨w2.heap.size, 2, none⟩ = some (.int .i64 (M : Nat)) ∧ (convert TBs 9 (.slice A5 len1 c5)).run Tryz.prog w' = .ok (.string s) w' ∧ (convert TBs 9 (.slice a1 len1 cap1)).run Tryz.prog w' = .ok (.string s) w' ∧ Below w10.heap.size w10 w' from fun w' h => by
      obtain ⟨h0, h1, h2⟩ := box_three (kept_box E4.out (below_tr HB10.out h))
      have h3 := conv_rd c5 (HR10.out.below h)
      have h4 := conv_rd cap1 ((HR.out.below H10.out).below h)
      rw [HST.out] at h3 h4
      exact ⟨h0, h1, h2, h3, h4, h⟩)
    have KS := Lib.hid (show ∀ w1 w', Below w1.heap.size w1 w' → (w1.cell? ⟨w2.heap.size, 0, none⟩ = some (.int .i64 p) ∧ w1.cell? ⟨w2.heap.size, 1, none⟩ = some (.int .i64 (K : Nat)) ∧ w1.cell? ⟨w2.heap.size, 2, none⟩ = some (.int .i64 (M : Nat)) ∧ (convert TBs 9 (.slice A5 len1 c5)).run Tryz.prog w1 = .ok (.string s) w1 ∧ (convert TBs 9 (.slice a1 len1 cap1)).run Tryz.prog w1 = .ok (.string s) w1 ∧ Below w10.heap.size w10 w1) → _ from fun w1 w' hb h => ST.out w' (below_tr h.2.2.2.2.2 hb))
    have CV1 := Lib.hid (show ∀ w1, (w1.cell? ⟨w2.heap.size, 0, none⟩ = some (.int .i64 p) ∧ w1.cell? ⟨w2.heap.size, 1, none⟩ = some (.int .i64 (K : Nat)) ∧ w1.cell? ⟨w2.heap.size, 2, none⟩ = some (.int .i64 (M : Nat)) ∧ (convert TBs 9 (.slice A5 len1 c5)).run Tryz.prog w1 = .ok (.string s) w1 ∧ (convert TBs 9 (.slice a1 len1 cap1)).run Tryz.prog w1 = .ok (.string s) w1 ∧ Below w10.heap.size w10 w1) → Calls Tryz.prog 14 #[.agg (parA p K M), .slice (some ad) N c4] w1 fun e w' => e = .returned (.bool true) ∧ Below w1.heap.size w1 w' from fun w1 h =>
      (ver14 0 p K M As (fun _ => S) Cs G HGL.out (some ad) N c4 (by omega) hc4 (fun _ _ => by omega) w1 (HT10.out.below h.2.2.2.2.2) (by have := h.2.2.2.2.2.size; omega) ((HQ1.out.below HB10.out).below h.2.2.2.2.2) (fun r hr => ((HQ2.out r hr).below HB10.out).below h.2.2.2.2.2)).mono fun e w' ⟨t1, he, ht, hb⟩ => ⟨by rw [he, ht.2 HVE.out], hb⟩)
    have CV2 := Lib.hid (show ∀ w1, (w1.cell? ⟨w2.heap.size, 0, none⟩ = some (.int .i64 p) ∧ w1.cell? ⟨w2.heap.size, 1, none⟩ = some (.int .i64 (K : Nat)) ∧ w1.cell? ⟨w2.heap.size, 2, none⟩ = some (.int .i64 (M : Nat)) ∧ (convert TBs 9 (.slice A5 len1 c5)).run Tryz.prog w1 = .ok (.string s) w1 ∧ (convert TBs 9 (.slice a1 len1 cap1)).run Tryz.prog w1 = .ok (.string s) w1 ∧ Below w10.heap.size w10 w1) → Calls Tryz.prog 14 #[.agg (parA p K M), .slice (some ⟨g7, 0, none⟩) N c7] w1 fun e w' => e = .returned (.bool false) ∧ Below w1.heap.size w1 w' from fun w1 h =>
      (ver14 0 p K M _ (fun _ => S) _ _ HOF.out (some ⟨g7, 0, none⟩) N c7 (by omega) hc7 (fun _ _ => by omega) w1 (HT10.out.below h.2.2.2.2.2) (by have := h.2.2.2.2.2.size; omega) (HO1.out.below h.2.2.2.2.2) (fun r hr => (HO2.out r hr).below h.2.2.2.2.2)).mono fun e w' ⟨t1, he, ht, hb⟩ => ⟨by
        cases t1
        · exact he
        · exact absurd (ht.1 rfl) HNO.out, hb⟩)
    have CV3 := Lib.hid (show ∀ w1, (w1.cell? ⟨w2.heap.size, 0, none⟩ = some (.int .i64 p) ∧ w1.cell? ⟨w2.heap.size, 1, none⟩ = some (.int .i64 (K : Nat)) ∧ w1.cell? ⟨w2.heap.size, 2, none⟩ = some (.int .i64 (M : Nat)) ∧ (convert TBs 9 (.slice A5 len1 c5)).run Tryz.prog w1 = .ok (.string s) w1 ∧ (convert TBs 9 (.slice a1 len1 cap1)).run Tryz.prog w1 = .ok (.string s) w1 ∧ Below w10.heap.size w10 w1) → Calls Tryz.prog 14 #[.agg (parA p K M), .slice At (N - 1) (c4 - 1)] w1 fun e w' => e = .returned (.bool false) ∧ Below w1.heap.size w1 w' from fun w1 h =>
      (ver14 0 p K M (fun r => As (1 + r)) (fun _ => S) (fun r => Cs (1 + r)) (fun r => G (1 + r)) (fun r j => HGL.out (1 + r) j) At (N - 1) (c4 - 1) (by omega) (by omega) (fun _ _ => by omega) w1 (HT10.out.below h.2.2.2.2.2) (by have := h.2.2.2.2.2.size; omega) (HCUT.out.below h.2.2.2.2.2) (fun r hr => ((HQ2.out (1 + r) (by omega)).below HB10.out).below h.2.2.2.2.2)).mono fun e w' ⟨t1, he, ht, hb⟩ => ⟨by
        cases t1
        · exact he
        · exact absurd (ht.1 rfl).2.1 (by have := HNN.out; omega), hb⟩)
    have hst := ST.out w10.drew (Below.refl w10.heap.size w10).drew
    have HEND := Lib.hid (show ∀ w1, (w1.cell? ⟨w2.heap.size, 0, none⟩ = some (.int .i64 p) ∧ w1.cell? ⟨w2.heap.size, 1, none⟩ = some (.int .i64 (K : Nat)) ∧ w1.cell? ⟨w2.heap.size, 2, none⟩ = some (.int .i64 (M : Nat)) ∧ (convert TBs 9 (.slice A5 len1 c5)).run Tryz.prog w1 = .ok (.string s) w1 ∧ (convert TBs 9 (.slice a1 len1 cap1)).run Tryz.prog w1 = .ok (.string s) w1 ∧ Below w10.heap.size w10 w1) → Below w.heap.size w w1 from fun w1 h => H10.out.trans (h.2.2.2.2.2.mono (by have := H10.out.size; omega)))
    obtain ⟨d0, d1, d2⟩ := box_three (kept_box E4.out HB10.out)
    clear ST HP10 p1 p2 p3 p4 p5 HR10 HR6 HNO HOF HO1 HO2 HX8 HXX HT10 HB10 H10 HCUT HST hs HK7 HK8 HB8 HQ1 HQ2 HGL HVE E4 Y4 HR HF HR5 HAI HT4 H4
    go_wp2_with fail
    go_region_held3 (fun w' => w'.cell? ⟨w2.heap.size, 0, none⟩ = some (.int .i64 p) ∧ w'.cell? ⟨w2.heap.size, 1, none⟩ = some (.int .i64 (K : Nat)) ∧ w'.cell? ⟨w2.heap.size, 2, none⟩ = some (.int .i64 (M : Nat)) ∧ (convert TBs 9 (.slice A5 len1 c5)).run Tryz.prog w' = .ok (.string s) w' ∧ (convert TBs 9 (.slice a1 len1 cap1)).run Tryz.prog w' = .ok (.string s) w' ∧ Below w10.heap.size w10 w')
      (first | exact hst | assumption | (refine KS.out _ _ ‹_› ?_; assumption))
      (first | (go_at_call_of 14 (Value.slice (some ad) N c4); refine (CV1.out _ ?_).mono ?_; assumption; rintro e w' ⟨rfl, hb⟩) | (go_at_call_of 14 (Value.slice (some (⟨g7, 0, none⟩ : Addr)) N c7); refine (CV2.out _ ?_).mono ?_; assumption; rintro e w' ⟨rfl, hb⟩) | (go_at_call 14; refine (CV3.out _ ?_).mono ?_; assumption; rintro e w' ⟨rfl, hb⟩))
    all_goals
      rename_i hh
      have HE := Lib.hid (HEND.out _ hh)
      clear hh hst KS CV1 CV2 CV3 HEND
      go_wp2_with fail
      go_ret
      exact ⟨rfl, HE.out⟩

set_option maxRecDepth 100000 in
theorem lifted (os : Os) (started : os.Started) (H : Type) (enc : TypeId × Value → H) :
    ReturnsInHanded {} Tryz.checked os 5 .any (fun w args => (Rows.codecVerifiesSpec.pre enc Tryz.prog Tryz.f5 Rows.codecVerifiesRow.domain false w args ∧ laidMetH Tryz.prog laidT w) ∧ sizedMet enc Tryz.prog Tryz.f5 (OpenSpec.ofChange Rows.codecVerifiesSpec) false w args) (Rows.codecVerifiesSpec.post enc Tryz.prog Tryz.f5 false true false false) := by
  refine returnsInHanded_of_change_and (C := Tryz.checked) (X := fun w _ => laidMetH Tryz.prog laidT w) (fun _ _ _ hh h => h.of_heap hh) own started (by kernel_rfl) Tryz.func5
    (ChangeSpec.witness_shaped (enc := enc) (C := Tryz.checked) (os := os) (X := fun w _ => laidMetH Tryz.prog laidT w) false (World.doorLaid Tryz.prog 400 os) #[.agg #[.int .u8 0, .int .u8 0, .int .u8 0], .slice none 0 0, .agg #[.int .u8 0, .int .u8 0, .int .u8 0]] 8 rfl (World.shaped_of_RefB (by kernel_rfl) (by kernel_rfl)) (by kernel_rfl) (by kernel_rfl) (by kernel_rfl) (door_met os _)) ?_
  intro W base args ds gs before hval0 hW hcnd _ hL _
  have hval : ∀ (j : Nat) t v, Tryz.f5.params[j]? = some t → args[j]? = some v → Value.okWide Tryz.prog W .any base t v := hval0
  have hW' := hW
  obtain ⟨p, q, hA0, hV, rfl, hfz, hnd⟩ := hW
  have hA : DataW.TrodAll enc Tryz.prog W 0 (fun _ => true) true Tryz.f5.params.toList args.toList ds p := hA0
  rw [Tryz.params5] at hA hval
  obtain ⟨v0, vs0, d0, ds0, p0, q0, hargs, rfl, rfl, h0, r0⟩ := trodAll_cons hA
  obtain ⟨v1, vs1, d1, ds1, p1, q1, rfl, rfl, rfl, h1, r1⟩ := trodAll_cons r0
  obtain ⟨v2, vs2, d2, ds2, p2, q2, rfl, rfl, rfl, h2, r2⟩ := trodAll_cons r1
  obtain ⟨rfl, rfl, rfl⟩ := trodAll_nil r2
  obtain rfl : args = #[v0, v1, v2] := by cases args; simp_all
  obtain ⟨rfl, rfl⟩ := trodVars_none hV
  obtain ⟨cs0, rfl, hsz0, _⟩ : ∃ cs, v0 = .agg cs ∧ cs.size = Tryz.prog.cellsOf 38 ∧ Row.okWide Tryz.prog W .any base 38 cs := by
    have := hval 0 38 v0 rfl rfl
    simpa [Value.okWide, Tryz.underlying38] using this
  rw [show Tryz.prog.cellsOf 38 = 3 by kernel_rfl] at hsz0
  obtain ⟨l0⟩ := cs0
  obtain ⟨e0, f0, g0, rfl⟩ := list3 l0 hsz0
  have k0 := h0
  have lt0 : ∀ x ∈ p0, x.block < W.heap.size := by obtain ⟨m, hm⟩ := k0; exact DataW.trod_lt m _ _ _ hm
  obtain ⟨fuel0, hf0⟩ := h0
  obtain ⟨a0, b0, c0, rfl, rfl, rfl, w0⟩ := three_in hf0
  obtain ⟨a1, len1, cap1, rfl⟩ := okWide_slice Tryz.underlying34 (hval 1 34 v1 rfl rfl)
  have k1 := h1
  have lt1 : ∀ x ∈ p1, x.block < W.heap.size := by obtain ⟨m, hm⟩ := k1; exact DataW.trod_lt m _ _ _ hm
  have w1 : IsBytesN W a1 len1 cap1 := by
    obtain ⟨fuel, hf⟩ := h1
    exact bytesn_in hf
  obtain ⟨cs2, rfl, hsz2, _⟩ : ∃ cs, v2 = .agg cs ∧ cs.size = Tryz.prog.cellsOf 38 ∧ Row.okWide Tryz.prog W .any base 38 cs := by
    have := hval 2 38 v2 rfl rfl
    simpa [Value.okWide, Tryz.underlying38] using this
  rw [show Tryz.prog.cellsOf 38 = 3 by kernel_rfl] at hsz2
  obtain ⟨l2⟩ := cs2
  obtain ⟨e2, f2, g2, rfl⟩ := list3 l2 hsz2
  have k2 := h2
  have lt2 : ∀ x ∈ p2, x.block < W.heap.size := by obtain ⟨m, hm⟩ := k2; exact DataW.trod_lt m _ _ _ hm
  obtain ⟨fuel2, hf2⟩ := h2
  obtain ⟨a2, b2, c2, rfl, rfl, rfl, w2⟩ := three_in hf2
  clear hA0 hval0
  refine (walk a0 b0 c0 a1 len1 cap1 a2 b2 c2 W w0 w1 w2 (tab_of_laid hL)).mono fun e W' ⟨he, bel⟩ => ?_
  subst he
  exact ⟨_, rfl, _, _, _, [], _, [], hW', trodAll_mk1 (shut_bool Tryz.underlying4 _), (trodAll_cons_mk (Below.trod laidOut (by kernel_rfl) (of_decide_eq_true (by kernel_rfl)) k0 bel lt0) (trodAll_cons_mk (Below.trod laidOut (by kernel_rfl) (of_decide_eq_true (by kernel_rfl)) k1 bel lt1) (trodAll_cons_mk (Below.trod laidOut (by kernel_rfl) (of_decide_eq_true (by kernel_rfl)) k2 bel lt2) trodAll_mk0))), rfl, bel.frame _, fun h => by cases h⟩

theorem over : Rows.codecVerifiesRow.holds Tryz.pinned (OpenSpec.ofChange Rows.codecVerifiesSpec) :=
  OpenClaim.holds_of_wide 5 Tryz.f5 rfl rfl rfl rfl rfl rfl rfl ⟨rfl, rfl, rfl, rfl, rfl⟩ rfl rfl rfl rfl rfl (by kernel_rfl) Tryz.func5 (by kernel_rfl)
    (of_decide_eq_true (by kernel_rfl)) (by unfold Func.isWrapper; first | (rw [if_pos (by decide +kernel)]; kernel_rfl) | (rw [if_neg (by decide +kernel)]; exact ⟨rfl, rfl⟩))
    (fun os started H enc _ => lifted os started H enc)

theorem proved : Rows.CodecVerifiesCardSaid :=
  Claim7.holds_tied_plain_at .later [] [.data] true Rows.codecVerifiesCard.stood.harness false
    over (fun _ h => by cases h) (by kernel_rfl) (fun _ h => by cases h) codecVerifies_row_tie rfl ⟨rfl, rfl⟩ (by kernel_rfl) rfl
    (fun f fn hf hfn => by
      obtain rfl : f = 5 := Option.some.inj ((show Tryz.prog.funcNamed "gambrel/gambrellaw11.CodecVerifies" = some 5 by kernel_rfl).symm.trans hf) |>.symm
      obtain rfl : fn = Tryz.f5 := (Option.some.inj (Tryz.func5.symm.trans hfn)).symm
      exact ⟨by kernel_rfl, fun j t ht => by
        rw [Tryz.params5] at ht
        have hm : t ∈ [38, 34, 38] := by simpa using Array.mem_of_getElem? ht
        have hall : ([38, 34, 38].all fun u => !Tryz.prog.wantsStandIn u) = true := by kernel_rfl
        exact (show Tryz.prog.wantsStandIn t = false by simpa using List.all_eq_true.1 hall t hm)⟩)
    (by kernel_rfl)
end Go.Proofs.YtgbipbcejjlpiaaGreatDoor.codecVerifies
