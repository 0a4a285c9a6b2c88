/- Layer 12: ANY K: of what was encoded, whichever M shards at most are lost, all are told, whatever stands in their places, for all inputs. Condition: the package-level variable gambrel/profile.table holds, when the call begins, what the text of the program lays there; the card ties that to the text, over the pruned copy of the project that the seat holds. -/
import Derived.Test.YtgdgimknnjbieaaGreatDoorRows
import Derived.Test.YtgdgimknnjbieaaGreatDoorPrh
import Derived.Test.YtgdgimknnjbieaaGreatDoorRci
import Derived.Test.YtgdgimknnjbieaaGreatDoorGrg
import Derived.Test.YtgdgimknnjbieaaGreatDoorGrc
import Derived.Test.YtgdgimknnjbieaaGreatDoorGrc
import Derived.Test.YtgdgimknnjbieaaGreatDoorGrd
import Derived.Test.YtgdgimknnjbieaaGreatDoorArr
import Derived.Test.YtgdgimknnjbieaaGreatDoorGxx
import Derived.Test.YtgdgimknnjbieaaGreatDoorGxv
import Derived.Test.YtgdgimknnjbieaaGreatDoorGxv
import Derived.Test.YtgdgimknnjbieaaGreatDoorCards
import Derived.Test.YtgdgimknnjbieaaGreatDoorTie
import Derived.SevenTiedAt
import Derived.ChangeMaps5
import Derived.Deep.RegionHeld3
import Derived.WalkKit
import Derived.ProofKit
import Derived.OpenShut
import Derived.ShutString
import Derived.ChangeOld
import Derived.Below
namespace Go.Proofs.YtgdgimknnjbieaaGreatDoor.reconAny
open Go.ChangeShapes Go.WideShapes Go.ChangeAt Go.RowKit
set_option linter.unusedVariables false

theorem own : ownKnob Tryz.prog.godebug = none := by kernel_rfl
theorem laidOut : laidOutB Tryz.prog = true := by kernel_rfl

set_option maxRecDepth 100000 in
set_option maxHeartbeats 8000000 in
theorem walk (a0 b0 c0 : Int) (a1 : Option Addr) (len1 cap1 : Nat) (a2 b2 c2 z2 : Int) (w : World) (w0 : (0 ≤ a0 ∧ a0 ≤ 255) ∧ (0 ≤ b0 ∧ b0 ≤ 255) ∧ 0 ≤ c0 ∧ c0 ≤ 255) (w1 : IsBytesN w a1 len1 cap1) (hat : (0 ≤ a2 ∧ a2 ≤ 255) ∧ (0 ≤ b2 ∧ b2 ≤ 255) ∧ (0 ≤ c2 ∧ c2 ≤ 255) ∧ 0 ≤ z2 ∧ z2 ≤ 255) (hT : Tab w) :
    Calls Tryz.prog 5 #[.agg (arr3 a0 b0 c0), .slice a1 len1 cap1, .agg (arr4 a2 b2 c2 z2)] w fun e w' => e = .returned (.bool true) ∧ Below w.heap.size w w' := by
  obtain ⟨f, hf, _, _, hr⟩ := w1
  obtain ⟨⟨a20, a21⟩, ⟨b20, b21⟩, ⟨c20, c21⟩, z20, z21⟩ := hat
  obtain ⟨x, rfl⟩ := Int.eq_ofNat_of_zero_le a20
  obtain ⟨y, rfl⟩ := Int.eq_ofNat_of_zero_le b20
  obtain ⟨z, rfl⟩ := Int.eq_ofNat_of_zero_le c20
  obtain ⟨q, rfl⟩ := Int.eq_ofNat_of_zero_le z20
  have hx255 : x ≤ 255 := by omega
  have hq255 : q ≤ 255 := by omega
  have hy255 : y ≤ 255 := by omega
  have hz255 : z ≤ 255 := by omega
  have HA := Lib.hid w0
  have h0 := hT.lt
  have HR := Lib.hid (hr w.heap.size (Nat.le_refl _))
  have HF := Lib.hid hf
  obtain ⟨u, hu⟩ : ∃ u, (w.alloc (.cells #[.int .u8 a0, .int .u8 b0, .int .u8 c0] T3u)).alloc (.cells #[.int .u8 x, .int .u8 y, .int .u8 z, .int .u8 q] T4u) = u := ⟨_, rfl⟩
  obtain ⟨s0, e0, e1, hbu⟩ := two_boxes hu
  have HTU := Lib.hid (hT.below hbu)
  have HU := Lib.hid hbu
  have E0 := Lib.hid e0
  have E1 := Lib.hid e1
  clear s0 e0 e1 hbu hT w0 hr hf a20 b20 c20 z20
  go_enter Tryz.func5, Tryz.ntmps5
  go_wp2_with fail
  refine (awakeQ _ HTU.out).mono ?_
  rintro e w1 ⟨rfl, hb1⟩
  have H1 := Lib.hid (below_tr HU.out hb1)
  have HT1 := Lib.hid (HTU.out.below hb1)
  have y1 := kept_box E0.out hb1
  have Y1 := Lib.hid (kept_box E1.out hb1)
  clear hb1 HTU HU E0 E1 hu
  by_cases hl : 300 < len1
  · go_wp2_with fail
    go_ret
    exact ⟨rfl, H1.out⟩
  go_wp2_with (refine wpList_load_row rfl T3u _ rfl w.heap.size rfl T3u _ (0, 0) _ y1 Tryz.underlying41 rfl size3u ?_)
  refine (some20 a0 b0 c0 HA.out.1 HA.out.2.1 HA.out.2.2 _).mono ?_
  rintro e w2 ⟨p, k, m, rfl, hX, hb2⟩
  obtain ⟨K, rfl⟩ : ∃ K : Nat, k = (K : Int) := ⟨k.toNat, by have := hX.2.1; omega⟩
  obtain ⟨M, rfl⟩ : ∃ M : Nat, m = (M : Int) := ⟨m.toNat, by have := hX.2.2.1; omega⟩
  have hK := hX.2.1
  have hM : 1 ≤ M ∧ M ≤ 4 := by have := hX.2.2; have := (max_pos hX.1).2; omega
  have HX := Lib.hid hX
  obtain ⟨v, hv⟩ : ∃ v, w2.alloc (.cells #[.int .i64 p, .int .i64 K, .int .i64 M] TPa) = v := ⟨_, rfl⟩
  obtain ⟨s2, e2, hbv⟩ := one_box hv
  have H3 := Lib.hid (below_tr H1.out (below_tr hb2 hbv))
  have HT3 := Lib.hid (HT1.out.below (below_tr hb2 hbv))
  have E2 := Lib.hid e2
  have Y3 := Lib.hid (kept_box Y1.out (below_tr hb2 hbv))
  have hE : szE p K M len1 = 0 := (if_pos ⟨HX.out, by omega⟩).trans (if_pos (by omega))
  have hsm : 1 ≤ szN p K M len1 ∧ szN p K M len1 ≤ 1000 := by
    rw [(szE_ok HX.out (by omega)).1]
    have h1 := szU_le (u := unitL (layI p)) (K := K) (m := aheadL (layI p) + len1) (unitL_pos _).1 (by omega)
    have h5 := szU_ge (u := unitL (layI p)) (K := K) (m := aheadL (layI p) + len1) (unitL_pos _).1 (by omega)
    have h2 := unitL_pos (layI p)
    have h3 := aheadL_le (layI p)
    omega
  have HENC := Lib.hid (enc16 w.heap.size p K M f HF.out a1 len1 cap1 (by omega) v HT3.out (HR.out.below H3.out))
  have HEN : encN p K M len1 = K + M := (if_pos hE).trans (by simp only [Int.toNat_natCast])
  unfold EncSaid at HENC
  rw [HEN, hE] at HENC
  simp only [Int.toNat_natCast] at HENC
  have HSE := Lib.hid (sz_even hE)
  obtain ⟨S, hS⟩ : ∃ S, szN p K M len1 = S := ⟨_, rfl⟩
  rw [hS] at HENC hsm HSE
  have HDL := Lib.hid (fun r j => splF_lt (p := p) (S := S) (n := len1) HF.out r j)
  have HGL := Lib.hid (fun r j => encF_lt (p := p) (K := K) (m := M) (S := S) (n := len1) HF.out r j)
  obtain ⟨D, hD⟩ : ∃ D, splF p S len1 f = D := ⟨_, rfl⟩
  obtain ⟨G, hG⟩ : ∃ G, encF p K M S len1 f = G := ⟨_, rfl⟩
  have HGD := Lib.hid (show G = shF p K M D by rw [← hG, ← hD]; rfl)
  rw [hG] at HENC HGL
  rw [hD] at HDL
  obtain ⟨N, hN⟩ : ∃ N, K + M = N := ⟨_, rfl⟩
  rw [hN] at HENC
  have HNN := Lib.hid hN
  have hKN : K < N := by omega
  have hN12 : N ≤ 12 := by omega
  have hnn : ((N : Int) != (K : Int) + (M : Int)) = false := by simp; omega
  obtain ⟨d0, d1, d2⟩ := box_three e2
  have hvs : w2.heap.size < v.heap.size := by omega
  have hsm2 := hsm.2
  clear hN hE HEN hS hG hD s2 e2 hbv hb2 hX H1 HT1 y1 HA Y1 hsm
  go_wp2_with fail
  refine HENC.out.mono ?_
  rintro e w4 ⟨v4, rfl, A4, c4, rfl, hc4, hx4, hb4⟩
  have H4 := Lib.hid (below_tr H3.out hb4)
  have HT4 := Lib.hid (HT3.out.below hb4)
  have E4 := Lib.hid (kept_box E2.out hb4)
  have Y4 := Lib.hid (kept_box Y3.out hb4)
  obtain ⟨As, Cs, hq1, hq2⟩ := hx4 0 (by omega)
  have HQ1 := Lib.hid hq1
  have HQ2 := Lib.hid hq2
  have hw4 : 0 < w4.heap.size := by have := hb4.size; omega
  clear hx4 hb4 d0 d1 d2 hq1 hq2 HENC hv H3 HT3 E2 Y3
  obtain ⟨d0, d1, d2⟩ := box_three E4.out
  have y0 := box_at (i := 0) (x := .int .u8 x) Y4.out rfl
  have y1 := box_at (i := 1) (x := .int .u8 y) Y4.out rfl
  have y2 := box_at (i := 2) (x := .int .u8 z) Y4.out rfl
  have hwx : IntKind.i64.wrap (x : Int) = (x : Int) := by rw [IntKind.wrap_i64]; omega
  have hwy : IntKind.i64.wrap (y : Int) = (y : Int) := by rw [IntKind.wrap_i64]; omega
  have hwz : IntKind.i64.wrap (z : Int) = (z : Int) := by rw [IntKind.wrap_i64]; omega
  obtain ⟨T, hTT, hTe⟩ : ∃ T : Nat, (M : Int) + 1 = (T : Int) ∧ T = M + 1 := ⟨M + 1, by omega, rfl⟩
  have hwT : IntKind.i64.wrap ((M : Int) + 1) = (T : Int) := by rw [hTT, IntKind.wrap_i64]; omega
  obtain ⟨R, hR⟩ : ∃ R : Nat, (x : Int) % (T : Int) = (R : Int) := ⟨x % T, (Int.natCast_emod _ _).symm⟩
  have hRT : R ≤ M := by have := Int.emod_lt_of_pos (x : Int) (show 0 < (T : Int) by omega); omega
  have hRt : (x : Int).tmod (T : Int) = (R : Int) := by rw [Int.tmod_eq_emod_of_nonneg (by omega)]; exact hR
  have hTz : ¬ T = 0 := by omega
  have hTzI : ¬ (T : Int) = 0 := by omega
  have HARG := Lib.hid (show mayX p K M ∧ (N : Int) = (K : Int) + (M : Int) from ⟨HX.out, by have := HNN.out; omega⟩)
  have KEEP := Lib.hid (show ∀ w', Below w4.heap.size w4 w' → w'.cell? ⟨w2.heap.size, 2, none⟩ = some (.int .i64 (M : Nat)) ∧ w'.cell? ⟨w.heap.size + 1, 0, none⟩ = some (.int .u8 x) ∧ w'.cell? ⟨w.heap.size + 1, 1, none⟩ = some (.int .u8 y) ∧ w'.cell? ⟨w.heap.size + 1, 2, none⟩ = some (.int .u8 z) from fun w' hb' => by
    obtain ⟨_, k1, k2⟩ := box_three (kept_box E4.out hb')
    have b1 := kept_box Y4.out hb'
    exact ⟨k2, box_at (i := 0) (x := .int .u8 x) b1 rfl, box_at (i := 1) (x := .int .u8 y) b1 rfl, box_at (i := 2) (x := .int .u8 z) b1 rfl⟩)
  have HL := Lib.hid (rlost N R y z (by omega) (by omega) (by omega) (by omega) w4.drew)
  clear hR hTT hTe
  go_wp2_with fail
  go_region_held3 (fun w' => w'.cell? ⟨w2.heap.size, 2, none⟩ = some (.int .i64 (M : Nat)) ∧ w'.cell? ⟨w.heap.size + 1, 0, none⟩ = some (.int .u8 x) ∧ w'.cell? ⟨w.heap.size + 1, 1, none⟩ = some (.int .u8 y) ∧ w'.cell? ⟨w.heap.size + 1, 2, none⟩ = some (.int .u8 z))
    (first | exact ⟨d2, y0, y1, y2⟩ | exact KEEP.out _ (below_tr (Below.refl w4.heap.size w4).drew hb5) | assumption)
    ((go_at_call 20; refine HL.out.mono ?_; rintro e w5 ⟨h5, A5, c5, rfl, hc5, hcnt, hr5, hb5⟩))
  have HB5 := Lib.hid (below_tr (Below.refl w4.heap.size w4).drew hb5)
  have H5 := Lib.hid (below_tr H4.out HB5.out)
  have HT5 := Lib.hid (HT4.out.below HB5.out)
  have HR5 := Lib.hid (hr5 0 hw4)
  have hKc : K ≤ cntT h5 N := by rw [hcnt]; have := HNN.out; omega
  have HKC := Lib.hid hKc
  have HAT := Lib.hid (show ∀ r, r < cntT h5 N → h5 (atT h5 N r) = true from fun r hr => (atT_spec N hr).2.1)
  have HLS := Lib.hid (show ∀ r, h5 r = true → spL h5 (fun _ => S) r = S from fun r e => by unfold spL; rw [if_pos e])
  have hDE : datE p K M N N h5 (spL h5 (fun _ => S)) = 0 := datE_ok ⟨HARG.out.1, HARG.out.2, rfl⟩ (by rw [Int.toNat_natCast]; have := HKC.out; omega) (fun r hr => by
    dsimp only
    rw [HLS.out _ (HAT.out r hr), HLS.out _ (HAT.out 0 (by omega))]
    exact ⟨rfl, HSE.out⟩)
  have hS0 : spL h5 (fun _ => S) (atT h5 N 0) = S := HLS.out _ (HAT.out 0 (by omega))
  have HRE := Lib.hid (show ∀ r, r < N → rebF p K M N h5 G r = G r from fun r hr => by
    have hn := HNN.out
    have h7 := reb_any (p := p) (K := K) (m := M) HX.out (h := h5) (by rw [hn]; exact HKC.out) HDL.out (L := G) (fun r _ _ => by rw [HGD.out]) (show r < K + M by omega)
    rw [hn] at h7
    rw [h7, HGD.out])
  have HDA := Lib.hid (show ∀ i, i < K → datF p K M (atT h5 N) G i = G i from fun i hi => by
    have hn := HNN.out
    have h7 := dat_all (p := p) (K := K) (m := M) HX.out (h := h5) (by rw [hn]; exact HKC.out) HDL.out (L := G) (fun r _ _ => by rw [HGD.out]) hi
    rw [hn] at h7
    rw [h7, HGD.out]
    funext j
    unfold shF
    rw [if_pos hi])
  have HRI := Lib.hid (show ∀ w6 (Bs : Nat → Option Addr) (Ds : Nat → Nat), Below w4.heap.size w4 w6 → (∀ r, r < N → h5 r = true → Bs r = As r ∧ Ds r = Cs r) → ∀ r, r < N → h5 r = true → Rd 0 w6 (u8s (G r)) (Bs r) (spL h5 (fun _ => S) r) from fun w6 Bs Ds hb hrow r hr e => by
    rw [(hrow r hr e).1, HLS.out r e]
    exact (HQ2.out r hr).below hb)
  have hz5 := HB5.out.size
  have C1 := Lib.hid (show ∀ w6 A6 c6 (Bs : Nat → Option Addr) (Ds : Nat → Nat), Below w5.heap.size w5 w6 → Rd 0 w6 (slis Bs (spL h5 (fun _ => S)) Ds) A6 N → (∀ r, r < N → h5 r = true → Bs r = As r ∧ Ds r = Cs r) →
      Calls Tryz.prog 13 #[.agg (parA p K M), .slice A6 N c6, .slice A5 N c5] w6 fun e w' => ∃ A c, e = .returned (.tuple #[.slice A N c, .int .i64 0]) ∧ Bx 0 w' (rebF p K M N h5 G) (fun _ => S) A N ∧ Below w6.heap.size w6 w' from fun w6 A6 c6 Bs Ds hb hr hrow => by
    have hb46 := below_tr HB5.out hb
    have hin := HRI.out w6 Bs Ds hb46 hrow
    have h06 : 0 < w6.heap.size := by have := hb.size; omega
    have h8 := reb13 0 p K M Bs (spL h5 (fun _ => S)) Ds G HGL.out A6 N c6 h5 (fun r _ e => by rw [HLS.out r e]; exact hsm2) A5 N c5 w6 (HT4.out.below hb46) h06 hr hin (HR5.out.below hb)
    have hn : rebN p K M N N h5 (spL h5 (fun _ => S)) = N := if_pos hDE
    unfold RebSaid at h8
    rw [hn, hDE, hS0] at h8
    refine h8.mono ?_
    rintro e w' ⟨A, c, rfl, _, hb', hx'⟩
    refine ⟨A, c, rfl, ?_, hb'⟩
    have h9 := hx' 0 h06 hin
    rwa [Int.toNat_natCast, Int.toNat_natCast] at h9)
  have C2 := Lib.hid (show ∀ w6 A6 c6 (Bs : Nat → Option Addr) (Ds : Nat → Nat), Below w5.heap.size w5 w6 → Rd 0 w6 (slis Bs (spL h5 (fun _ => S)) Ds) A6 N → (∀ r, r < N → h5 r = true → Bs r = As r ∧ Ds r = Cs r) →
      Calls Tryz.prog 11 #[.agg (parA p K M), .slice A6 N c6, .slice A5 N c5] w6 fun e w' => ∃ A c, e = .returned (.tuple #[.slice A K c, .int .i64 0]) ∧ Bx 0 w' (datF p K M (atT h5 N) G) (fun _ => S) A K ∧ Below w6.heap.size w6 w' from fun w6 A6 c6 Bs Ds hb hr hrow => by
    have hb46 := below_tr HB5.out hb
    have hin := HRI.out w6 Bs Ds hb46 hrow
    have h06 : 0 < w6.heap.size := by have := hb.size; omega
    have h8 := data11 0 p K M Bs (spL h5 (fun _ => S)) Ds G HGL.out A6 N c6 h5 (fun r _ e => by rw [HLS.out r e]; exact hsm2) A5 N c5 w6 (HT4.out.below hb46) h06 hr hin (HR5.out.below hb)
    unfold DatSaid at h8
    simp only [hDE, hS0, if_true, Int.toNat_natCast] at h8
    refine h8.mono ?_
    rintro e w' ⟨v', rfl, A, c, rfl, _, hx', hb'⟩
    exact ⟨A, c, rfl, hx' 0 h06, hb'⟩)
  have Y5 := Lib.hid (kept_box Y4.out HB5.out)
  have HCS := Lib.hid (show ∀ w', Below w5.heap.size w5 w' → Calls Tryz.prog 21 #[.slice A4 N c4, .slice A5 N c5, .int .u8 q] w' (SpoSaid N w' h5 As (fun _ => S) Cs q) from fun w' hb => rspo 0 As (fun _ => S) Cs A4 N c4 h5 A5 N c5 q ⟨Nat.le_refl _, by omega⟩ w' (by have := hb.size; omega) ((HQ1.out.below HB5.out).below hb) (HR5.out.below hb))
  clear hb5 hr5 hcnt d0 d1 d2 y0 y1 y2 KEEP HL hwT hwx hwy hwz hRt hTz hTzI hKc hDE hS0 hRT
  have K5 := Lib.hid (show ∀ w', Below w5.heap.size w5 w' → w'.cell? ⟨w2.heap.size, 0, none⟩ = some (.int .i64 p) ∧ w'.cell? ⟨w2.heap.size, 1, none⟩ = some (.int .i64 (K : Nat)) ∧ w'.cell? ⟨w2.heap.size, 2, none⟩ = some (.int .i64 (M : Nat)) ∧ w'.cell? ⟨w.heap.size + 1, 3, none⟩ = some (.int .u8 q) from fun w' hb' => by
    obtain ⟨k0, k1, k2⟩ := box_three (kept_box E4.out (below_tr HB5.out hb'))
    exact ⟨k0, k1, k2, box_at (i := 3) (x := .int .u8 q) (kept_box Y5.out hb') rfl⟩)
  obtain ⟨d0, d1, d2, y3⟩ := K5.out w5 (Below.refl _ _)
  have HSP := Lib.hid (HCS.out w5.drew (Below.refl _ w5).drew)
  go_wp2_with fail
  go_region_held3 (fun w' => w'.cell? ⟨w2.heap.size, 0, none⟩ = some (.int .i64 p) ∧ w'.cell? ⟨w2.heap.size, 1, none⟩ = some (.int .i64 (K : Nat)) ∧ w'.cell? ⟨w2.heap.size, 2, none⟩ = some (.int .i64 (M : Nat)) ∧ w'.cell? ⟨w.heap.size + 1, 3, none⟩ = some (.int .u8 q))
    (first | exact ⟨d0, d1, d2, y3⟩ | exact K5.out _ (below_tr (Below.refl w5.heap.size w5).drew hb6) | exact K5.out _ (below_tr (below_tr (Below.refl w5.heap.size w5).drew hb6) hb7) | assumption)
    (first | (go_at_call 21; refine HSP.out.mono ?_; rintro e w6 ⟨A6, c6, Bs, Ds, rfl, hc6, hb6, hr6, hrow6⟩) | (go_at_call 13; refine (C1.out w6 A6 c6 Bs Ds (below_tr (Below.refl w5.heap.size w5).drew hb6) (hr6 0 (Nat.lt_of_lt_of_le hw4 hz5)) (fun r hr => (hrow6 r hr).1)).mono ?_; rintro e w7 ⟨A7, c7, rfl, hx7, hb7⟩))
  have HB7 := Lib.hid (below_tr (below_tr (Below.refl w5.heap.size w5).drew hb6) hb7)
  have HX7 := Lib.hid hx7
  have hz7 := HB7.out.size
  clear hb6 hr6 hrow6 hb7 hx7 d0 d1 d2 y3 HSP C1
  obtain ⟨d0, d1, d2, y3⟩ := K5.out w7 HB7.out
  have HSP := Lib.hid (HCS.out w7.drew (HB7.out.drew))
  have C3 := Lib.hid (fun w8 A8 c8 (Bs : Nat → Option Addr) (Ds : Nat → Nat) (hb : Below w7.drew.heap.size w7.drew w8) => C2.out w8 A8 c8 Bs Ds (below_tr HB7.out (below_tr (Below.refl w7.heap.size w7).drew hb)))
  have K7 := Lib.hid (fun w' (hb : Below w7.heap.size w7 w') => K5.out w' (below_tr HB7.out hb))
  have hw7 : 0 < w7.drew.heap.size := by show 0 < w7.heap.size; omega
  clear C2
  go_wp2_with fail
  go_region_held3 (fun w' => w'.cell? ⟨w2.heap.size, 0, none⟩ = some (.int .i64 p) ∧ w'.cell? ⟨w2.heap.size, 1, none⟩ = some (.int .i64 (K : Nat)) ∧ w'.cell? ⟨w2.heap.size, 2, none⟩ = some (.int .i64 (M : Nat)) ∧ w'.cell? ⟨w.heap.size + 1, 3, none⟩ = some (.int .u8 q))
    (first | exact ⟨d0, d1, d2, y3⟩ | exact K7.out _ (below_tr (Below.refl w7.heap.size w7).drew hb8) | exact K7.out _ (below_tr (below_tr (Below.refl w7.heap.size w7).drew hb8) hb9) | assumption)
    (first | (go_at_call 21; refine HSP.out.mono ?_; rintro e w8 ⟨A8, c8, Bt, Dt, rfl, hc8, hb8, hr8, hrow8⟩) | (go_at_call 11; refine (C3.out w8 A8 c8 Bt Dt hb8 (hr8 0 hw7) (fun r hr => (hrow8 r hr).1)).mono ?_; rintro e w9 ⟨A9, c9, rfl, hx9, hb9⟩))
  have HB79 := Lib.hid (below_tr (below_tr (Below.refl w7.heap.size w7).drew hb8) hb9)
  have HB9 := Lib.hid (below_tr HB7.out HB79.out)
  have HB49 := Lib.hid (below_tr HB5.out HB9.out)
  have HX9 := Lib.hid hx9
  have HX79 := Lib.hid (HX7.out.below HB79.out)
  have H9 := Lib.hid (below_tr H5.out HB9.out)
  clear hb8 hr8 hrow8 hb9 hx9 d0 d1 d2 y3 HSP C3 K7 HX7
  go_wp2_with fail
  refine (rsame14 0 0 _ _ (fun r j => rebF_lt HGL.out r j) HGL.out _ _ A7 A4 N N c7 c4 (by omega) _ HX79.out ⟨As, Cs, HQ1.out.below HB49.out, fun r hr => (HQ2.out r hr).below HB49.out⟩).mono ?_
  rintro e w10 ⟨t, rfl, ht, hb10⟩
  obtain rfl : t = true := ht.2 ⟨rfl, fun r hr => ⟨rfl, fun j _ => by dsimp only; rw [HRE.out r hr]⟩⟩
  have HB10 := Lib.hid (below_tr HB49.out hb10)
  have HX910 := Lib.hid (HX9.out.below hb10)
  have H10 := Lib.hid (below_tr H9.out hb10)
  have hh1 := run_headS A4 N c4 K (by omega)
  obtain ⟨_, d1, _⟩ := box_three (kept_box E4.out HB10.out)
  clear ht hb10
  go_wp2_with fail
  refine (rsame14 0 0 _ _ (fun r j => datF_lt r j) HGL.out _ _ A9 A4 K K c9 c4 (by omega) _ HX910.out ⟨As, Cs, (HQ1.out.below HB10.out).take (by omega), fun r hr => (HQ2.out r (by omega)).below HB10.out⟩).mono ?_
  rintro e w11 ⟨t, rfl, ht, hb11⟩
  obtain rfl : t = true := ht.2 ⟨rfl, fun r hr => ⟨rfl, fun j _ => by dsimp only; rw [HDA.out r hr]⟩⟩
  have H11 := Lib.hid (below_tr H10.out hb11)
  clear ht hb11 d1 hh1
  go_wp2_with fail
  go_ret
  exact ⟨by simp, H11.out⟩

set_option maxRecDepth 100000 in
theorem lifted (os : Os) (started : os.Started) (H : Type) (enc : TypeId × Value → H) :
    ReturnsInHanded {} Tryz.checked os 5 .any (fun w args => (Rows.reconAnySpec.pre enc Tryz.prog Tryz.f5 Rows.reconAnyRow.domain false w args ∧ laidMetH Tryz.prog laidT w) ∧ sizedMet enc Tryz.prog Tryz.f5 (OpenSpec.ofChange Rows.reconAnySpec) false w args) (Rows.reconAnySpec.post enc Tryz.prog Tryz.f5 false true false false) := by
  refine returnsInHanded_of_change_and (C := Tryz.checked) (X := fun w _ => laidMetH Tryz.prog laidT w) (fun _ _ _ hh h => h.of_heap hh) own started (by kernel_rfl) Tryz.func5
    (ChangeSpec.witness_shaped (enc := enc) (C := Tryz.checked) (os := os) (X := fun w _ => laidMetH Tryz.prog laidT w) false (World.doorLaid Tryz.prog 400 os) #[.agg #[.int .u8 0, .int .u8 0, .int .u8 0], .slice none 0 0, .agg #[.int .u8 0, .int .u8 0, .int .u8 0, .int .u8 0]] 8 rfl (World.shaped_of_RefB (by kernel_rfl) (by kernel_rfl)) (by kernel_rfl) (by kernel_rfl) (by kernel_rfl) (door_met os _)) ?_
  intro W base args ds gs before hval0 hW hcnd _ hL _
  have hval : ∀ (j : Nat) t v, Tryz.f5.params[j]? = some t → args[j]? = some v → Value.okWide Tryz.prog W .any base t v := hval0
  have hW' := hW
  obtain ⟨p, q, hA0, hV, rfl, hfz, hnd⟩ := hW
  have hA : DataW.TrodAll enc Tryz.prog W 0 (fun _ => true) true Tryz.f5.params.toList args.toList ds p := hA0
  rw [Tryz.params5] at hA hval
  obtain ⟨v0, vs0, d0, ds0, p0, q0, hargs, rfl, rfl, h0, r0⟩ := trodAll_cons hA
  obtain ⟨v1, vs1, d1, ds1, p1, q1, rfl, rfl, rfl, h1, r1⟩ := trodAll_cons r0
  obtain ⟨v2, vs2, d2, ds2, p2, q2, rfl, rfl, rfl, h2, r2⟩ := trodAll_cons r1
  obtain ⟨rfl, rfl, rfl⟩ := trodAll_nil r2
  obtain rfl : args = #[v0, v1, v2] := by cases args; simp_all
  obtain ⟨rfl, rfl⟩ := trodVars_none hV
  obtain ⟨cs0, rfl, hsz0, _⟩ : ∃ cs, v0 = .agg cs ∧ cs.size = Tryz.prog.cellsOf 41 ∧ Row.okWide Tryz.prog W .any base 41 cs := by
    have := hval 0 41 v0 rfl rfl
    simpa [Value.okWide, Tryz.underlying41] using this
  rw [show Tryz.prog.cellsOf 41 = 3 by kernel_rfl] at hsz0
  obtain ⟨l0⟩ := cs0
  obtain ⟨e0, f0, g0, rfl⟩ := list3 l0 hsz0
  have k0 := h0
  have lt0 : ∀ x ∈ p0, x.block < W.heap.size := by obtain ⟨m, hm⟩ := k0; exact DataW.trod_lt m _ _ _ hm
  obtain ⟨fuel0, hf0⟩ := h0
  obtain ⟨a0, b0, c0, rfl, rfl, rfl, w0⟩ := three_in hf0
  obtain ⟨a1, len1, cap1, rfl⟩ := okWide_slice Tryz.underlying35 (hval 1 35 v1 rfl rfl)
  have k1 := h1
  have lt1 : ∀ x ∈ p1, x.block < W.heap.size := by obtain ⟨m, hm⟩ := k1; exact DataW.trod_lt m _ _ _ hm
  have w1 : IsBytesN W a1 len1 cap1 := by
    obtain ⟨fuel, hf⟩ := h1
    exact bytesn_in hf
  obtain ⟨cs2, rfl, hsz2, _⟩ : ∃ cs, v2 = .agg cs ∧ cs.size = Tryz.prog.cellsOf 42 ∧ Row.okWide Tryz.prog W .any base 42 cs := by
    have := hval 2 42 v2 rfl rfl
    simpa [Value.okWide, Tryz.underlying42] using this
  rw [show Tryz.prog.cellsOf 42 = 4 by kernel_rfl] at hsz2
  obtain ⟨l2⟩ := cs2
  obtain ⟨e2, f2, g2, j2, rfl⟩ := list4 l2 hsz2
  have k2 := h2
  have lt2 : ∀ x ∈ p2, x.block < W.heap.size := by obtain ⟨m, hm⟩ := k2; exact DataW.trod_lt m _ _ _ hm
  obtain ⟨fuel2, hf2⟩ := h2
  obtain ⟨a2, b2, c2, z2, rfl, rfl, rfl, rfl, w2⟩ := four_in hf2
  clear hA0 hval0
  refine (walk a0 b0 c0 a1 len1 cap1 a2 b2 c2 z2 W w0 w1 w2 (tab_of_laid hL)).mono fun e W' ⟨he, bel⟩ => ?_
  subst he
  exact ⟨_, rfl, _, _, _, [], _, [], hW', trodAll_mk1 (shut_bool Tryz.underlying4 _), (trodAll_cons_mk (Below.trod laidOut (by kernel_rfl) (of_decide_eq_true (by kernel_rfl)) k0 bel lt0) (trodAll_cons_mk (Below.trod laidOut (by kernel_rfl) (of_decide_eq_true (by kernel_rfl)) k1 bel lt1) (trodAll_cons_mk (Below.trod laidOut (by kernel_rfl) (of_decide_eq_true (by kernel_rfl)) k2 bel lt2) trodAll_mk0))), rfl, bel.frame _, fun h => by cases h⟩

theorem over : Rows.reconAnyRow.holds Tryz.pinned (OpenSpec.ofChange Rows.reconAnySpec) :=
  OpenClaim.holds_of_wide 5 Tryz.f5 rfl rfl rfl rfl rfl rfl rfl ⟨rfl, rfl, rfl, rfl, rfl⟩ rfl rfl rfl rfl rfl (by kernel_rfl) Tryz.func5 (by kernel_rfl)
    (of_decide_eq_true (by kernel_rfl)) (by unfold Func.isWrapper; first | (rw [if_pos (by decide +kernel)]; kernel_rfl) | (rw [if_neg (by decide +kernel)]; exact ⟨rfl, rfl⟩))
    (fun os started H enc _ => lifted os started H enc)

theorem proved : Rows.ReconAnyCardSaid :=
  Claim7.holds_tied_plain_at .later [] [.data] true Rows.reconAnyCard.stood.harness false
    over (fun _ h => by cases h) (by kernel_rfl) (fun _ h => by cases h) reconAny_row_tie rfl ⟨rfl, rfl⟩ (by kernel_rfl) rfl
    (fun f fn hf hfn => by
      obtain rfl : f = 5 := Option.some.inj ((show Tryz.prog.funcNamed "gambrel/gambrellaw12.ReconAny" = some 5 by kernel_rfl).symm.trans hf) |>.symm
      obtain rfl : fn = Tryz.f5 := (Option.some.inj (Tryz.func5.symm.trans hfn)).symm
      exact ⟨by kernel_rfl, fun j t ht => by
        rw [Tryz.params5] at ht
        have hm : t ∈ [41, 35, 42] := by simpa using Array.mem_of_getElem? ht
        have hall : ([41, 35, 42].all fun u => !Tryz.prog.wantsStandIn u) = true := by kernel_rfl
        exact (show Tryz.prog.wantsStandIn t = false by simpa using List.all_eq_true.1 hall t hm)⟩)
    (by kernel_rfl)
end Go.Proofs.YtgdgimknnjbieaaGreatDoor.reconAny
