/- Layer 12: with fewer than K shards it is told so, whatever they are, for all inputs. Condition: the package-level variable gambrel/profile.table holds, when the call begins, what the text of the program lays there; the card ties that to the text, over the pruned copy of the project that the seat holds. -/
import Derived.Test.YtgdgimknnjbieaaGreatDoorRows
import Derived.Test.YtgdgimknnjbieaaGreatDoorPrh
import Derived.Test.YtgdgimknnjbieaaGreatDoorRci
import Derived.Test.YtgdgimknnjbieaaGreatDoorGrg
import Derived.Test.YtgdgimknnjbieaaGreatDoorGrc
import Derived.Test.YtgdgimknnjbieaaGreatDoorArr
import Derived.Test.YtgdgimknnjbieaaGreatDoorGxx
import Derived.Test.YtgdgimknnjbieaaGreatDoorGxv
import Derived.Test.YtgdgimknnjbieaaGreatDoorGxv
import Derived.Test.YtgdgimknnjbieaaGreatDoorCards
import Derived.Test.YtgdgimknnjbieaaGreatDoorTie
import Derived.SevenTiedAt
import Derived.ChangeMaps5
import Derived.Deep.RegionHeld3
import Derived.WalkKit
import Derived.ProofKit
import Derived.OpenShut
import Derived.ShutString
import Derived.ChangeOld
import Derived.Below
namespace Go.Proofs.YtgdgimknnjbieaaGreatDoor.reconFew
open Go.ChangeShapes Go.WideShapes Go.ChangeAt Go.RowKit
set_option linter.unusedVariables false

theorem own : ownKnob Tryz.prog.godebug = none := by kernel_rfl
theorem laidOut : laidOutB Tryz.prog = true := by kernel_rfl

set_option maxRecDepth 100000 in
set_option maxHeartbeats 8000000 in
theorem walk (a0 b0 c0 : Int) (a1 : Option Addr) (len1 cap1 : Nat) (a2 b2 c2 : Int) (w : World) (w0 : (0 ≤ a0 ∧ a0 ≤ 255) ∧ (0 ≤ b0 ∧ b0 ≤ 255) ∧ 0 ≤ c0 ∧ c0 ≤ 255) (w1 : IsBytesN w a1 len1 cap1) (hat : (0 ≤ a2 ∧ a2 ≤ 255) ∧ (0 ≤ b2 ∧ b2 ≤ 255) ∧ 0 ≤ c2 ∧ c2 ≤ 255) (hT : Tab w) :
    Calls Tryz.prog 6 #[.agg (arr3 a0 b0 c0), .slice a1 len1 cap1, .agg (arr3 a2 b2 c2)] w fun e w' => e = .returned (.bool true) ∧ Below w.heap.size w w' := by
  obtain ⟨f, hf, _, _, hr⟩ := w1
  obtain ⟨⟨a20, a21⟩, ⟨b20, b21⟩, c20, c21⟩ := hat
  obtain ⟨x, rfl⟩ := Int.eq_ofNat_of_zero_le a20
  obtain ⟨y, rfl⟩ := Int.eq_ofNat_of_zero_le b20
  obtain ⟨z, rfl⟩ := Int.eq_ofNat_of_zero_le c20
  have hy255 : y ≤ 255 := by omega
  have hz255 : z ≤ 255 := by omega
  have HA := Lib.hid w0
  have h0 := hT.lt
  have HR := Lib.hid (hr w.heap.size (Nat.le_refl _))
  have HF := Lib.hid hf
  obtain ⟨u, hu⟩ : ∃ u, (w.alloc (.cells #[.int .u8 a0, .int .u8 b0, .int .u8 c0] T3u)).alloc (.cells #[.int .u8 x, .int .u8 y, .int .u8 z] T3u) = u := ⟨_, rfl⟩
  obtain ⟨s0, e0, e1, hbu⟩ := two_boxes hu
  have HTU := Lib.hid (hT.below hbu)
  have HU := Lib.hid hbu
  have E0 := Lib.hid e0
  have E1 := Lib.hid e1
  clear s0 e0 e1 hbu hT w0 hr hf a20 b20 c20
  go_enter Tryz.func6, Tryz.ntmps6
  go_wp2_with fail
  refine (awakeQ _ HTU.out).mono ?_
  rintro e w1 ⟨rfl, hb1⟩
  have H1 := Lib.hid (below_tr HU.out hb1)
  have HT1 := Lib.hid (HTU.out.below hb1)
  have y1 := kept_box E0.out hb1
  have Y1 := Lib.hid (kept_box E1.out hb1)
  clear hb1 HTU HU E0 E1 hu
  by_cases hl : 300 < len1
  · go_wp2_with fail
    go_ret
    exact ⟨rfl, H1.out⟩
  go_wp2_with (refine wpList_load_row rfl T3u _ rfl w.heap.size rfl T3u _ (0, 0) _ y1 Tryz.underlying41 rfl size3u ?_)
  refine (some20 a0 b0 c0 HA.out.1 HA.out.2.1 HA.out.2.2 _).mono ?_
  rintro e w2 ⟨p, k, m, rfl, hX, hb2⟩
  obtain ⟨K, rfl⟩ : ∃ K : Nat, k = (K : Int) := ⟨k.toNat, by have := hX.2.1; omega⟩
  obtain ⟨M, rfl⟩ : ∃ M : Nat, m = (M : Int) := ⟨m.toNat, by have := hX.2.2.1; omega⟩
  have hK := hX.2.1
  have hM : 1 ≤ M ∧ M ≤ 4 := by have := hX.2.2; have := (max_pos hX.1).2; omega
  have HX := Lib.hid hX
  obtain ⟨v, hv⟩ : ∃ v, w2.alloc (.cells #[.int .i64 p, .int .i64 K, .int .i64 M] TPa) = v := ⟨_, rfl⟩
  obtain ⟨s2, e2, hbv⟩ := one_box hv
  have H3 := Lib.hid (below_tr H1.out (below_tr hb2 hbv))
  have HT3 := Lib.hid (HT1.out.below (below_tr hb2 hbv))
  have E2 := Lib.hid e2
  have Y3 := Lib.hid (kept_box Y1.out (below_tr hb2 hbv))
  have hE : szE p K M len1 = 0 := (if_pos ⟨HX.out, by omega⟩).trans (if_pos (by omega))
  have hsm : 1 ≤ szN p K M len1 ∧ szN p K M len1 ≤ 1000 := by
    rw [(szE_ok HX.out (by omega)).1]
    have h1 := szU_le (u := unitL (layI p)) (K := K) (m := aheadL (layI p) + len1) (unitL_pos _).1 (by omega)
    have h5 := szU_ge (u := unitL (layI p)) (K := K) (m := aheadL (layI p) + len1) (unitL_pos _).1 (by omega)
    have h2 := unitL_pos (layI p)
    have h3 := aheadL_le (layI p)
    omega
  have HENC := Lib.hid (enc16 w.heap.size p K M f HF.out a1 len1 cap1 (by omega) v HT3.out (HR.out.below H3.out))
  have HEN : encN p K M len1 = K + M := (if_pos hE).trans (by simp only [Int.toNat_natCast])
  unfold EncSaid at HENC
  rw [HEN, hE] at HENC
  simp only [Int.toNat_natCast] at HENC
  obtain ⟨S, hS⟩ : ∃ S, szN p K M len1 = S := ⟨_, rfl⟩
  rw [hS] at HENC hsm
  have HGL := Lib.hid (fun r j => encF_lt (p := p) (K := K) (m := M) (S := S) (n := len1) HF.out r j)
  obtain ⟨G, hG⟩ : ∃ G, encF p K M S len1 f = G := ⟨_, rfl⟩
  rw [hG] at HENC HGL
  obtain ⟨N, hN⟩ : ∃ N, K + M = N := ⟨_, rfl⟩
  rw [hN] at HENC
  have HNN := Lib.hid hN
  have hKN : K < N := by omega
  have hN12 : N ≤ 12 := by omega
  have hnn : ((N : Int) != (K : Int) + (M : Int)) = false := by simp; omega
  obtain ⟨d0, d1, d2⟩ := box_three e2
  have hvs : w2.heap.size < v.heap.size := by omega
  have hsm2 := hsm.2
  clear hN hE HEN hS hG s2 e2 hbv hb2 hX H1 HT1 y1 HA Y1 hsm
  go_wp2_with fail
  refine HENC.out.mono ?_
  rintro e w4 ⟨v4, rfl, A4, c4, rfl, hc4, hx4, hb4⟩
  have H4 := Lib.hid (below_tr H3.out hb4)
  have HT4 := Lib.hid (HT3.out.below hb4)
  have E4 := Lib.hid (kept_box E2.out hb4)
  have Y4 := Lib.hid (kept_box Y3.out hb4)
  obtain ⟨As, Cs, hq1, hq2⟩ := hx4 0 (by omega)
  have HQ1 := Lib.hid hq1
  have HQ2 := Lib.hid hq2
  have hw4 : 0 < w4.heap.size := by have := hb4.size; omega
  clear hx4 hb4 d0 d1 d2 hq1 hq2 HENC hv H3 HT3 E2 Y3
  obtain ⟨d0, d1, d2⟩ := box_three E4.out
  have y0 := box_at (i := 0) (x := .int .u8 x) Y4.out rfl
  have y1 := box_at (i := 1) (x := .int .u8 y) Y4.out rfl
  have y2 := box_at (i := 2) (x := .int .u8 z) Y4.out rfl
  obtain ⟨R, hR⟩ : ∃ R : Nat, (x : Int) % (K : Int) = (R : Int) := ⟨x % K, (Int.natCast_emod _ _).symm⟩
  have hRK : R < K := by have := Int.emod_lt_of_pos (x : Int) (show 0 < (K : Int) by omega); omega
  have hRt : (x : Int).tmod (K : Int) = (R : Int) := by rw [Int.tmod_eq_emod_of_nonneg (by omega)]; exact hR
  have hKz : ¬ K = 0 := by omega
  have hKzI : ¬ (K : Int) = 0 := by omega
  obtain ⟨T, hTT, hTe⟩ : ∃ T : Nat, (M : Int) + 1 = (T : Int) ∧ T = M + 1 := ⟨M + 1, by omega, rfl⟩
  obtain ⟨Q, hQQ, hQe⟩ : ∃ Q : Nat, (T : Int) + (R : Int) = (Q : Int) ∧ Q = M + 1 + R := ⟨T + R, by omega, by omega⟩
  have hx255 : x ≤ 255 := by omega
  have hwx : IntKind.i64.wrap (x : Int) = (x : Int) := by rw [IntKind.wrap_i64]; omega
  have hwy : IntKind.i64.wrap (y : Int) = (y : Int) := by rw [IntKind.wrap_i64]; omega
  have hwz : IntKind.i64.wrap (z : Int) = (z : Int) := by rw [IntKind.wrap_i64]; omega
  have hwT : IntKind.i64.wrap ((M : Int) + 1) = (T : Int) := by rw [hTT, IntKind.wrap_i64]; omega
  have hwQ : IntKind.i64.wrap ((T : Int) + (R : Int)) = (Q : Int) := by rw [hQQ, IntKind.wrap_i64]; omega
  have KEEP := Lib.hid (show ∀ w', Below w4.heap.size w4 w' → w'.cell? ⟨w2.heap.size, 1, none⟩ = some (.int .i64 (K : Nat)) ∧ w'.cell? ⟨w2.heap.size, 2, none⟩ = some (.int .i64 (M : Nat)) ∧ w'.cell? ⟨w.heap.size + 1, 0, none⟩ = some (.int .u8 x) ∧ w'.cell? ⟨w.heap.size + 1, 1, none⟩ = some (.int .u8 y) ∧ w'.cell? ⟨w.heap.size + 1, 2, none⟩ = some (.int .u8 z) from fun w' hb' => by
    obtain ⟨_, k1, k2⟩ := box_three (kept_box E4.out hb')
    have b1 := kept_box Y4.out hb'
    exact ⟨k1, k2, box_at (i := 0) (x := .int .u8 x) b1 rfl, box_at (i := 1) (x := .int .u8 y) b1 rfl, box_at (i := 2) (x := .int .u8 z) b1 rfl⟩)
  have HL := Lib.hid (rlost N Q y z (by omega) (by omega) (by omega) (by omega) w4.drew)
  have HQE := Lib.hid hQe
  clear hR hTT hQQ hTe hQe
  go_wp2_with fail
  go_region_held3 (fun w' => w'.cell? ⟨w2.heap.size, 1, none⟩ = some (.int .i64 (K : Nat)) ∧ w'.cell? ⟨w2.heap.size, 2, none⟩ = some (.int .i64 (M : Nat)) ∧ w'.cell? ⟨w.heap.size + 1, 0, none⟩ = some (.int .u8 x) ∧ w'.cell? ⟨w.heap.size + 1, 1, none⟩ = some (.int .u8 y) ∧ w'.cell? ⟨w.heap.size + 1, 2, none⟩ = some (.int .u8 z))
    (first | exact ⟨d1, d2, y0, y1, y2⟩ | exact KEEP.out _ (below_tr (Below.refl w4.heap.size w4).drew hb5) | assumption)
    ((go_at_call 20; refine HL.out.mono ?_; rintro e w5 ⟨h5, A5, c5, rfl, hc5, hcnt, hr5, hb5⟩))
  have HB5 := Lib.hid (below_tr (Below.refl w4.heap.size w4).drew hb5)
  have H5 := Lib.hid (below_tr H4.out HB5.out)
  have HT5 := Lib.hid (HT4.out.below HB5.out)
  have HR5 := Lib.hid (hr5 0 hw4)
  have HFEW := Lib.hid (show cntT h5 N < K by rw [hcnt, HQE.out]; have := HNN.out; omega)
  have HARG := Lib.hid (show mayX p K M ∧ (N : Int) = (K : Int) + (M : Int) from ⟨HX.out, by have := HNN.out; omega⟩)
  have HDE := Lib.hid (show datE p K M N N h5 (fun _ => S) = 5 from datE_few ⟨HARG.out.1, HARG.out.2, rfl⟩ (by rw [Int.toNat_natCast]; exact HFEW.out))
  have HRN := Lib.hid (show rebN p K M N N h5 (fun _ => S) = 0 from if_neg (by rw [HDE.out]; decide))
  have hz5 := HB5.out.size
  clear hb5 hr5 hcnt d0 d1 d2 y0 y1 y2 KEEP HL hwT hwQ hRt
  obtain ⟨d0, d1, d2⟩ := box_three (kept_box E4.out HB5.out)
  go_wp2_with fail
  refine (reb13 0 p K M As (fun _ => S) Cs G HGL.out A4 N c4 h5 (fun _ _ _ => hsm2) A5 N c5 _ HT5.out (by omega) (HQ1.out.below HB5.out) (fun r hr _ => (HQ2.out r hr).below HB5.out) HR5.out).mono ?_
  rintro e w6 ⟨A6, c6, rfl, _, hb6, _⟩
  rw [HDE.out, HRN.out]
  have HB6 := Lib.hid (below_tr HB5.out hb6)
  have H6 := Lib.hid (below_tr H5.out hb6)
  have HT6 := Lib.hid (HT5.out.below hb6)
  have HR6 := Lib.hid (HR5.out.below hb6)
  have hz6 := hb6.size
  clear hb6 d0 d1 d2 HB5 HR5 HT5 H5
  obtain ⟨d0, d1, d2⟩ := box_three (kept_box E4.out HB6.out)
  go_wp2_with fail
  refine (data11 0 p K M As (fun _ => S) Cs G HGL.out A4 N c4 h5 (fun _ _ _ => hsm2) A5 N c5 _ HT6.out (by omega) (HQ1.out.below HB6.out) (fun r hr _ => (HQ2.out r hr).below HB6.out) HR6.out).mono ?_
  rintro e w7 ⟨v7, rfl, A7, c7, rfl, _, _, hb7⟩
  rw [HDE.out, if_neg (show ¬ (5 : Int) = 0 by decide)]
  have H7 := Lib.hid (below_tr H6.out hb7)
  clear hb7 d0 d1 d2 HB6 HR6 HT6 H6
  go_wp2_with fail
  go_ret
  exact ⟨rfl, H7.out⟩

set_option maxRecDepth 100000 in
theorem lifted (os : Os) (started : os.Started) (H : Type) (enc : TypeId × Value → H) :
    ReturnsInHanded {} Tryz.checked os 6 .any (fun w args => (Rows.reconFewSpec.pre enc Tryz.prog Tryz.f6 Rows.reconFewRow.domain false w args ∧ laidMetH Tryz.prog laidT w) ∧ sizedMet enc Tryz.prog Tryz.f6 (OpenSpec.ofChange Rows.reconFewSpec) false w args) (Rows.reconFewSpec.post enc Tryz.prog Tryz.f6 false true false false) := by
  refine returnsInHanded_of_change_and (C := Tryz.checked) (X := fun w _ => laidMetH Tryz.prog laidT w) (fun _ _ _ hh h => h.of_heap hh) own started (by kernel_rfl) Tryz.func6
    (ChangeSpec.witness_shaped (enc := enc) (C := Tryz.checked) (os := os) (X := fun w _ => laidMetH Tryz.prog laidT w) false (World.doorLaid Tryz.prog 400 os) #[.agg #[.int .u8 0, .int .u8 0, .int .u8 0], .slice none 0 0, .agg #[.int .u8 0, .int .u8 0, .int .u8 0]] 8 rfl (World.shaped_of_RefB (by kernel_rfl) (by kernel_rfl)) (by kernel_rfl) (by kernel_rfl) (by kernel_rfl) (door_met os _)) ?_
  intro W base args ds gs before hval0 hW hcnd _ hL _
  have hval : ∀ (j : Nat) t v, Tryz.f6.params[j]? = some t → args[j]? = some v → Value.okWide Tryz.prog W .any base t v := hval0
  have hW' := hW
  obtain ⟨p, q, hA0, hV, rfl, hfz, hnd⟩ := hW
  have hA : DataW.TrodAll enc Tryz.prog W 0 (fun _ => true) true Tryz.f6.params.toList args.toList ds p := hA0
  rw [Tryz.params6] at hA hval
  obtain ⟨v0, vs0, d0, ds0, p0, q0, hargs, rfl, rfl, h0, r0⟩ := trodAll_cons hA
  obtain ⟨v1, vs1, d1, ds1, p1, q1, rfl, rfl, rfl, h1, r1⟩ := trodAll_cons r0
  obtain ⟨v2, vs2, d2, ds2, p2, q2, rfl, rfl, rfl, h2, r2⟩ := trodAll_cons r1
  obtain ⟨rfl, rfl, rfl⟩ := trodAll_nil r2
  obtain rfl : args = #[v0, v1, v2] := by cases args; simp_all
  obtain ⟨rfl, rfl⟩ := trodVars_none hV
  obtain ⟨cs0, rfl, hsz0, _⟩ : ∃ cs, v0 = .agg cs ∧ cs.size = Tryz.prog.cellsOf 41 ∧ Row.okWide Tryz.prog W .any base 41 cs := by
    have := hval 0 41 v0 rfl rfl
    simpa [Value.okWide, Tryz.underlying41] using this
  rw [show Tryz.prog.cellsOf 41 = 3 by kernel_rfl] at hsz0
  obtain ⟨l0⟩ := cs0
  obtain ⟨e0, f0, g0, rfl⟩ := list3 l0 hsz0
  have k0 := h0
  have lt0 : ∀ x ∈ p0, x.block < W.heap.size := by obtain ⟨m, hm⟩ := k0; exact DataW.trod_lt m _ _ _ hm
  obtain ⟨fuel0, hf0⟩ := h0
  obtain ⟨a0, b0, c0, rfl, rfl, rfl, w0⟩ := three_in hf0
  obtain ⟨a1, len1, cap1, rfl⟩ := okWide_slice Tryz.underlying35 (hval 1 35 v1 rfl rfl)
  have k1 := h1
  have lt1 : ∀ x ∈ p1, x.block < W.heap.size := by obtain ⟨m, hm⟩ := k1; exact DataW.trod_lt m _ _ _ hm
  have w1 : IsBytesN W a1 len1 cap1 := by
    obtain ⟨fuel, hf⟩ := h1
    exact bytesn_in hf
  obtain ⟨cs2, rfl, hsz2, _⟩ : ∃ cs, v2 = .agg cs ∧ cs.size = Tryz.prog.cellsOf 41 ∧ Row.okWide Tryz.prog W .any base 41 cs := by
    have := hval 2 41 v2 rfl rfl
    simpa [Value.okWide, Tryz.underlying41] using this
  rw [show Tryz.prog.cellsOf 41 = 3 by kernel_rfl] at hsz2
  obtain ⟨l2⟩ := cs2
  obtain ⟨e2, f2, g2, rfl⟩ := list3 l2 hsz2
  have k2 := h2
  have lt2 : ∀ x ∈ p2, x.block < W.heap.size := by obtain ⟨m, hm⟩ := k2; exact DataW.trod_lt m _ _ _ hm
  obtain ⟨fuel2, hf2⟩ := h2
  obtain ⟨a2, b2, c2, rfl, rfl, rfl, w2⟩ := three_in hf2
  clear hA0 hval0
  refine (walk a0 b0 c0 a1 len1 cap1 a2 b2 c2 W w0 w1 w2 (tab_of_laid hL)).mono fun e W' ⟨he, bel⟩ => ?_
  subst he
  exact ⟨_, rfl, _, _, _, [], _, [], hW', trodAll_mk1 (shut_bool Tryz.underlying4 _), (trodAll_cons_mk (Below.trod laidOut (by kernel_rfl) (of_decide_eq_true (by kernel_rfl)) k0 bel lt0) (trodAll_cons_mk (Below.trod laidOut (by kernel_rfl) (of_decide_eq_true (by kernel_rfl)) k1 bel lt1) (trodAll_cons_mk (Below.trod laidOut (by kernel_rfl) (of_decide_eq_true (by kernel_rfl)) k2 bel lt2) trodAll_mk0))), rfl, bel.frame _, fun h => by cases h⟩

theorem over : Rows.reconFewRow.holds Tryz.pinned (OpenSpec.ofChange Rows.reconFewSpec) :=
  OpenClaim.holds_of_wide 6 Tryz.f6 rfl rfl rfl rfl rfl rfl rfl ⟨rfl, rfl, rfl, rfl, rfl⟩ rfl rfl rfl rfl rfl (by kernel_rfl) Tryz.func6 (by kernel_rfl)
    (of_decide_eq_true (by kernel_rfl)) (by unfold Func.isWrapper; first | (rw [if_pos (by decide +kernel)]; kernel_rfl) | (rw [if_neg (by decide +kernel)]; exact ⟨rfl, rfl⟩))
    (fun os started H enc _ => lifted os started H enc)

theorem proved : Rows.ReconFewCardSaid :=
  Claim7.holds_tied_plain_at .later [] [.data] true Rows.reconFewCard.stood.harness false
    over (fun _ h => by cases h) (by kernel_rfl) (fun _ h => by cases h) reconFew_row_tie rfl ⟨rfl, rfl⟩ (by kernel_rfl) rfl
    (fun f fn hf hfn => by
      obtain rfl : f = 6 := Option.some.inj ((show Tryz.prog.funcNamed "gambrel/gambrellaw12.ReconFew" = some 6 by kernel_rfl).symm.trans hf) |>.symm
      obtain rfl : fn = Tryz.f6 := (Option.some.inj (Tryz.func6.symm.trans hfn)).symm
      exact ⟨by kernel_rfl, fun j t ht => by
        rw [Tryz.params6] at ht
        have hm : t ∈ [41, 35, 41] := by simpa using Array.mem_of_getElem? ht
        have hall : ([41, 35, 41].all fun u => !Tryz.prog.wantsStandIn u) = true := by kernel_rfl
        exact (show Tryz.prog.wantsStandIn t = false by simpa using List.all_eq_true.1 hall t hm)⟩)
    (by kernel_rfl)
end Go.Proofs.YtgdgimknnjbieaaGreatDoor.reconFew
