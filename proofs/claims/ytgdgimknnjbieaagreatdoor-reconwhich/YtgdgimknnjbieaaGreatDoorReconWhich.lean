/- Layer 12: whichever K shards are there, they tell the same data shards, for all inputs. Condition: the package-level variable gambrel/profile.table holds, when the call begins, what the text of the program lays there; the card ties that to the text, over the pruned copy of the project that the seat holds. -/
import Derived.Test.YtgdgimknnjbieaaGreatDoorRows
import Derived.Test.YtgdgimknnjbieaaGreatDoorPrh
import Derived.Test.YtgdgimknnjbieaaGreatDoorRci
import Derived.Test.YtgdgimknnjbieaaGreatDoorGrg
import Derived.Test.YtgdgimknnjbieaaGreatDoorGrc
import Derived.Test.YtgdgimknnjbieaaGreatDoorGrd
import Derived.Test.YtgdgimknnjbieaaGreatDoorArr
import Derived.Test.YtgdgimknnjbieaaGreatDoorGxx
import Derived.Test.YtgdgimknnjbieaaGreatDoorGxv
import Derived.Test.YtgdgimknnjbieaaGreatDoorGxv
import Derived.Test.YtgdgimknnjbieaaGreatDoorCards
import Derived.Test.YtgdgimknnjbieaaGreatDoorTie
import Derived.SevenTiedAt
import Derived.ChangeMaps5
import Derived.Deep.RegionHeld3
import Derived.WalkKit
import Derived.ProofKit
import Derived.OpenShut
import Derived.ShutString
import Derived.ChangeOld
import Derived.Below
namespace Go.Proofs.YtgdgimknnjbieaaGreatDoor.reconWhich
open Go.ChangeShapes Go.WideShapes Go.ChangeAt Go.RowKit
set_option linter.unusedVariables false

theorem own : ownKnob Tryz.prog.godebug = none := by kernel_rfl
theorem laidOut : laidOutB Tryz.prog = true := by kernel_rfl

set_option maxRecDepth 100000 in
set_option maxHeartbeats 8000000 in
theorem walk (a0 b0 c0 : Int) (a1 : Option Addr) (len1 cap1 : Nat) (a2 b2 c2 z2 : Int) (w : World) (w0 : (0 ≤ a0 ∧ a0 ≤ 255) ∧ (0 ≤ b0 ∧ b0 ≤ 255) ∧ 0 ≤ c0 ∧ c0 ≤ 255) (w1 : IsBytesN w a1 len1 cap1) (hat : (0 ≤ a2 ∧ a2 ≤ 255) ∧ (0 ≤ b2 ∧ b2 ≤ 255) ∧ (0 ≤ c2 ∧ c2 ≤ 255) ∧ 0 ≤ z2 ∧ z2 ≤ 255) (hT : Tab w) :
    Calls Tryz.prog 8 #[.agg (arr3 a0 b0 c0), .slice a1 len1 cap1, .agg (arr4 a2 b2 c2 z2)] w fun e w' => e = .returned (.bool true) ∧ Below w.heap.size w w' := by
  obtain ⟨f, hf, _, hcn, hr⟩ := w1
  obtain ⟨⟨a20, a21⟩, ⟨b20, b21⟩, ⟨c20, c21⟩, z20, z21⟩ := hat
  obtain ⟨x, rfl⟩ := Int.eq_ofNat_of_zero_le a20
  obtain ⟨y, rfl⟩ := Int.eq_ofNat_of_zero_le b20
  obtain ⟨z, rfl⟩ := Int.eq_ofNat_of_zero_le c20
  obtain ⟨q, rfl⟩ := Int.eq_ofNat_of_zero_le z20
  have hx255 : x ≤ 255 := by omega
  have hq255 : q ≤ 255 := by omega
  have hy255 : y ≤ 255 := by omega
  have hz255 : z ≤ 255 := by omega
  have HA := Lib.hid w0
  have h0 := hT.lt
  have HR := Lib.hid (hr w.heap.size (Nat.le_refl _))
  have HF := Lib.hid hf
  have HCN := Lib.hid hcn
  obtain ⟨u, hu⟩ : ∃ u, (w.alloc (.cells #[.int .u8 a0, .int .u8 b0, .int .u8 c0] T3u)).alloc (.cells #[.int .u8 x, .int .u8 y, .int .u8 z, .int .u8 q] T4u) = u := ⟨_, rfl⟩
  obtain ⟨s0, e0, e1, hbu⟩ := two_boxes hu
  have HTU := Lib.hid (hT.below hbu)
  have HU := Lib.hid hbu
  have E0 := Lib.hid e0
  have E1 := Lib.hid e1
  clear s0 e0 e1 hbu hT w0 hr hf hcn a20 b20 c20 z20
  go_enter Tryz.func8, Tryz.ntmps8
  go_wp2_with fail
  refine (awakeQ _ HTU.out).mono ?_
  rintro e w1 ⟨rfl, hb1⟩
  have H1 := Lib.hid (below_tr HU.out hb1)
  have HT1 := Lib.hid (HTU.out.below hb1)
  have y1 := kept_box E0.out hb1
  have Y1 := Lib.hid (kept_box E1.out hb1)
  clear hb1 HTU HU E0 E1 hu
  by_cases hl : 300 < len1
  · go_wp2_with fail
    go_ret
    exact ⟨rfl, H1.out⟩
  go_wp2_with (refine wpList_load_row rfl T3u _ rfl w.heap.size rfl T3u _ (0, 0) _ y1 Tryz.underlying41 rfl size3u ?_)
  refine (some20 a0 b0 c0 HA.out.1 HA.out.2.1 HA.out.2.2 _).mono ?_
  rintro e w2 ⟨p, k, m, rfl, hX, hb2⟩
  obtain ⟨K, rfl⟩ : ∃ K : Nat, k = (K : Int) := ⟨k.toNat, by have := hX.2.1; omega⟩
  obtain ⟨M, rfl⟩ : ∃ M : Nat, m = (M : Int) := ⟨m.toNat, by have := hX.2.2.1; omega⟩
  have hK := hX.2.1
  have hM : 1 ≤ M ∧ M ≤ 4 := by have := hX.2.2; have := (max_pos hX.1).2; omega
  have HX := Lib.hid hX
  obtain ⟨v, hv⟩ : ∃ v, w2.alloc (.cells #[.int .i64 p, .int .i64 K, .int .i64 M] TPa) = v := ⟨_, rfl⟩
  obtain ⟨s2, e2, hbv⟩ := one_box hv
  have H3 := Lib.hid (below_tr H1.out (below_tr hb2 hbv))
  have HT3 := Lib.hid (HT1.out.below (below_tr hb2 hbv))
  have E2 := Lib.hid e2
  have Y3 := Lib.hid (kept_box Y1.out (below_tr hb2 hbv))
  have hE : szE p K M len1 = 0 := (if_pos ⟨HX.out, by omega⟩).trans (if_pos (by omega))
  have hsm : 1 ≤ szN p K M len1 ∧ szN p K M len1 ≤ 1000 := by
    rw [(szE_ok HX.out (by omega)).1]
    have h1 := szU_le (u := unitL (layI p)) (K := K) (m := aheadL (layI p) + len1) (unitL_pos _).1 (by omega)
    have h5 := szU_ge (u := unitL (layI p)) (K := K) (m := aheadL (layI p) + len1) (unitL_pos _).1 (by omega)
    have h2 := unitL_pos (layI p)
    have h3 := aheadL_le (layI p)
    omega
  have HENC := Lib.hid (renc17 w.heap.size p K M f HF.out a1 len1 cap1 (by omega) HCN.out v (by have h5 := (below_tr H1.out hb2).size; omega) (HR.out.below H3.out))
  have HEN : encN p K M len1 = K + M := (if_pos hE).trans (by simp only [Int.toNat_natCast])
  unfold EncSaid at HENC
  rw [HEN, hE] at HENC
  simp only [Int.toNat_natCast] at HENC
  have HSE := Lib.hid (sz_even hE)
  obtain ⟨S, hS⟩ : ∃ S, szN p K M len1 = S := ⟨_, rfl⟩
  rw [hS] at HENC hsm HSE
  have HDL := Lib.hid (fun r j => splF_lt (p := p) (S := S) (n := len1) HF.out r j)
  have HGL := Lib.hid (fun r j => encF_lt (p := p) (K := K) (m := M) (S := S) (n := len1) HF.out r j)
  obtain ⟨D, hD⟩ : ∃ D, splF p S len1 f = D := ⟨_, rfl⟩
  obtain ⟨G, hG⟩ : ∃ G, encF p K M S len1 f = G := ⟨_, rfl⟩
  have HGD := Lib.hid (show G = shF p K M D by rw [← hG, ← hD]; rfl)
  rw [hG] at HENC HGL
  rw [hD] at HDL
  obtain ⟨N, hN⟩ : ∃ N, K + M = N := ⟨_, rfl⟩
  rw [hN] at HENC
  have HNN := Lib.hid hN
  have hKN : K < N := by omega
  have hN12 : N ≤ 12 := by omega
  obtain ⟨d0, d1, d2⟩ := box_three e2
  have hvs : w2.heap.size < v.heap.size := by omega
  have hsm2 := hsm.2
  clear hN hE HEN hS hG hD s2 e2 hbv hb2 hX H1 HT1 y1 HA Y1 hsm
  go_wp2_with fail
  refine HENC.out.mono ?_
  rintro e w4 ⟨v4, rfl, A4, c4, rfl, hc4, hx4, hb4⟩
  have H4 := Lib.hid (below_tr H3.out hb4)
  have HT4 := Lib.hid (HT3.out.below hb4)
  have E4 := Lib.hid (kept_box E2.out hb4)
  have Y4 := Lib.hid (kept_box Y3.out hb4)
  obtain ⟨As, Cs, hq1, hq2⟩ := hx4 0 (by omega)
  have HQ1 := Lib.hid hq1
  have HQ2 := Lib.hid hq2
  have hw4 : 0 < w4.heap.size := by have := hb4.size; omega
  clear hx4 hb4 d0 d1 d2 hq1 hq2 HENC hv H3 HT3 E2 Y3
  obtain ⟨d0, d1, d2⟩ := box_three E4.out
  have y0 := box_at (i := 0) (x := .int .u8 x) Y4.out rfl
  have y1 := box_at (i := 1) (x := .int .u8 y) Y4.out rfl
  have hwx : IntKind.i64.wrap (x : Int) = (x : Int) := by rw [IntKind.wrap_i64]; omega
  have hwy : IntKind.i64.wrap (y : Int) = (y : Int) := by rw [IntKind.wrap_i64]; omega
  have hwz : IntKind.i64.wrap (z : Int) = (z : Int) := by rw [IntKind.wrap_i64]; omega
  have hwq : IntKind.i64.wrap (q : Int) = (q : Int) := by rw [IntKind.wrap_i64]; omega
  have HARG := Lib.hid (show mayX p K M ∧ (N : Int) = (K : Int) + (M : Int) from ⟨HX.out, by have := HNN.out; omega⟩)
  have HDE := Lib.hid (show ∀ h : Nat → Bool, cntT h N = N - min M N → datE p K M N N h (fun _ => S) = 0 from fun h hc => datE_ok ⟨HARG.out.1, HARG.out.2, rfl⟩ (by rw [Int.toNat_natCast, hc]; have := HNN.out; omega) (fun r _ => ⟨rfl, HSE.out⟩))
  have HDA := Lib.hid (show ∀ h : Nat → Bool, cntT h N = N - min M N → ∀ i, i < K → datF p K M (atT h N) G i = D i from fun h hc i hi => by
    have hn := HNN.out
    have h5 := dat_all (p := p) (K := K) (m := M) HX.out (h := h) (by rw [hn, hc]; omega) HDL.out (L := G) (fun r _ _ => by rw [HGD.out]) hi
    rwa [hn] at h5)
  go_wp2_with fail
  refine (rlost N M x y (by omega) (by omega) (by omega) (by omega) w4).mono ?_
  rintro e w5 ⟨h5, A5, c5, rfl, hc5, hcnt5, hr5, hb5⟩
  have HB5 := Lib.hid hb5
  have HT5 := Lib.hid (HT4.out.below hb5)
  have HR5 := Lib.hid (hr5 0 hw4)
  have HC5 := Lib.hid hcnt5
  have hz5 := hb5.size
  have Y5 := Lib.hid (kept_box Y4.out hb5)
  clear hb5 hr5 hcnt5 d0 d1 d2 y0 y1 Y4
  obtain ⟨d0, d1, d2⟩ := box_three (kept_box E4.out HB5.out)
  have y0 := box_at (i := 2) (x := .int .u8 z) Y5.out rfl
  have y1 := box_at (i := 3) (x := .int .u8 q) Y5.out rfl
  go_wp2_with fail
  refine (rlost N M z q (by omega) (by omega) (by omega) (by omega) w5).mono ?_
  rintro e w6 ⟨h6, A6, c6, rfl, hc6, hcnt6, hr6, hb6⟩
  have HB6 := Lib.hid (below_tr HB5.out hb6)
  have HT6 := Lib.hid (HT5.out.below hb6)
  have HR56 := Lib.hid (HR5.out.below hb6)
  have HR6 := Lib.hid (hr6 0 (by omega))
  have HC6 := Lib.hid hcnt6
  have hz6 := hb6.size
  clear hb6 hr6 hcnt6 d0 d1 d2 y0 y1 Y5 HR5 HB5 HT5 hwx hwy hwz hwq
  obtain ⟨d0, d1, d2⟩ := box_three (kept_box E4.out HB6.out)
  have C1 := Lib.hid (data11 0 p K M As (fun _ => S) Cs G HGL.out A4 N c4 h5 (fun _ _ _ => hsm2) A5 N c5 w6 HT6.out (by omega) (HQ1.out.below HB6.out) (fun r hr _ => (HQ2.out r hr).below HB6.out) HR56.out)
  unfold DatSaid at C1
  simp only [HDE.out h5 HC5.out, if_true, Int.toNat_natCast] at C1
  go_wp2_with fail
  refine C1.out.mono ?_
  rintro e w7 ⟨v7, rfl, A7, c7, rfl, _, hx7, hb7⟩
  have HB7 := Lib.hid (below_tr HB6.out hb7)
  have HT7 := Lib.hid (HT6.out.below hb7)
  have HR67 := Lib.hid (HR6.out.below hb7)
  have HX7 := Lib.hid (hx7 0 (by omega))
  have hz7 := hb7.size
  clear hb7 hx7 d0 d1 d2 HB6 HT6 HR6 C1
  obtain ⟨d0, d1, d2⟩ := box_three (kept_box E4.out HB7.out)
  have C2 := Lib.hid (data11 0 p K M As (fun _ => S) Cs G HGL.out A4 N c4 h6 (fun _ _ _ => hsm2) A6 N c6 w7 HT7.out (by omega) (HQ1.out.below HB7.out) (fun r hr _ => (HQ2.out r hr).below HB7.out) HR67.out)
  unfold DatSaid at C2
  simp only [HDE.out h6 HC6.out, if_true, Int.toNat_natCast] at C2
  go_wp2_with fail
  refine C2.out.mono ?_
  rintro e w8 ⟨v8, rfl, A8, c8, rfl, _, hx8, hb8⟩
  have HB8 := Lib.hid (below_tr HB7.out hb8)
  have HX8 := Lib.hid (hx8 0 (by omega))
  have HX78 := Lib.hid (HX7.out.below hb8)
  have H8 := Lib.hid (below_tr H4.out HB8.out)
  clear hb8 hx8 d0 d1 d2 HB7 HT7 HR67 C2 HX7
  obtain ⟨d0, d1, d2⟩ := box_three (kept_box E4.out HB8.out)
  go_wp2_with fail
  refine (rsame14 0 0 _ _ (fun r j => datF_lt r j) (fun r j => datF_lt r j) _ _ A7 A8 K K c7 c8 (by omega) _ HX78.out HX8.out).mono ?_
  rintro e w9 ⟨t, rfl, ht, hb9⟩
  obtain rfl : t = true := ht.2 ⟨rfl, fun r hr => ⟨rfl, fun j _ => by dsimp only; rw [HDA.out h5 HC5.out r hr, HDA.out h6 HC6.out r hr]⟩⟩
  have H9 := Lib.hid (below_tr H8.out hb9)
  have E9 := Lib.hid (kept_box E4.out (below_tr HB8.out hb9))
  clear ht hb9 d0 d1 d2
  obtain ⟨d0, d1, d2⟩ := box_three E9.out
  go_wp2_with fail
  go_ret
  exact ⟨by simp, H9.out⟩

set_option maxRecDepth 100000 in
theorem lifted (os : Os) (started : os.Started) (H : Type) (enc : TypeId × Value → H) :
    ReturnsInHanded {} Tryz.checked os 8 .any (fun w args => (Rows.reconWhichSpec.pre enc Tryz.prog Tryz.f8 Rows.reconWhichRow.domain false w args ∧ laidMetH Tryz.prog laidT w) ∧ sizedMet enc Tryz.prog Tryz.f8 (OpenSpec.ofChange Rows.reconWhichSpec) false w args) (Rows.reconWhichSpec.post enc Tryz.prog Tryz.f8 false true false false) := by
  refine returnsInHanded_of_change_and (C := Tryz.checked) (X := fun w _ => laidMetH Tryz.prog laidT w) (fun _ _ _ hh h => h.of_heap hh) own started (by kernel_rfl) Tryz.func8
    (ChangeSpec.witness_shaped (enc := enc) (C := Tryz.checked) (os := os) (X := fun w _ => laidMetH Tryz.prog laidT w) false (World.doorLaid Tryz.prog 400 os) #[.agg #[.int .u8 0, .int .u8 0, .int .u8 0], .slice none 0 0, .agg #[.int .u8 0, .int .u8 0, .int .u8 0, .int .u8 0]] 8 rfl (World.shaped_of_RefB (by kernel_rfl) (by kernel_rfl)) (by kernel_rfl) (by kernel_rfl) (by kernel_rfl) (door_met os _)) ?_
  intro W base args ds gs before hval0 hW hcnd _ hL _
  have hval : ∀ (j : Nat) t v, Tryz.f8.params[j]? = some t → args[j]? = some v → Value.okWide Tryz.prog W .any base t v := hval0
  have hW' := hW
  obtain ⟨p, q, hA0, hV, rfl, hfz, hnd⟩ := hW
  have hA : DataW.TrodAll enc Tryz.prog W 0 (fun _ => true) true Tryz.f8.params.toList args.toList ds p := hA0
  rw [Tryz.params8] at hA hval
  obtain ⟨v0, vs0, d0, ds0, p0, q0, hargs, rfl, rfl, h0, r0⟩ := trodAll_cons hA
  obtain ⟨v1, vs1, d1, ds1, p1, q1, rfl, rfl, rfl, h1, r1⟩ := trodAll_cons r0
  obtain ⟨v2, vs2, d2, ds2, p2, q2, rfl, rfl, rfl, h2, r2⟩ := trodAll_cons r1
  obtain ⟨rfl, rfl, rfl⟩ := trodAll_nil r2
  obtain rfl : args = #[v0, v1, v2] := by cases args; simp_all
  obtain ⟨rfl, rfl⟩ := trodVars_none hV
  obtain ⟨cs0, rfl, hsz0, _⟩ : ∃ cs, v0 = .agg cs ∧ cs.size = Tryz.prog.cellsOf 41 ∧ Row.okWide Tryz.prog W .any base 41 cs := by
    have := hval 0 41 v0 rfl rfl
    simpa [Value.okWide, Tryz.underlying41] using this
  rw [show Tryz.prog.cellsOf 41 = 3 by kernel_rfl] at hsz0
  obtain ⟨l0⟩ := cs0
  obtain ⟨e0, f0, g0, rfl⟩ := list3 l0 hsz0
  have k0 := h0
  have lt0 : ∀ x ∈ p0, x.block < W.heap.size := by obtain ⟨m, hm⟩ := k0; exact DataW.trod_lt m _ _ _ hm
  obtain ⟨fuel0, hf0⟩ := h0
  obtain ⟨a0, b0, c0, rfl, rfl, rfl, w0⟩ := three_in hf0
  obtain ⟨a1, len1, cap1, rfl⟩ := okWide_slice Tryz.underlying35 (hval 1 35 v1 rfl rfl)
  have k1 := h1
  have lt1 : ∀ x ∈ p1, x.block < W.heap.size := by obtain ⟨m, hm⟩ := k1; exact DataW.trod_lt m _ _ _ hm
  have w1 : IsBytesN W a1 len1 cap1 := by
    obtain ⟨fuel, hf⟩ := h1
    exact bytesn_in hf
  obtain ⟨cs2, rfl, hsz2, _⟩ : ∃ cs, v2 = .agg cs ∧ cs.size = Tryz.prog.cellsOf 42 ∧ Row.okWide Tryz.prog W .any base 42 cs := by
    have := hval 2 42 v2 rfl rfl
    simpa [Value.okWide, Tryz.underlying42] using this
  rw [show Tryz.prog.cellsOf 42 = 4 by kernel_rfl] at hsz2
  obtain ⟨l2⟩ := cs2
  obtain ⟨e2, f2, g2, j2, rfl⟩ := list4 l2 hsz2
  have k2 := h2
  have lt2 : ∀ x ∈ p2, x.block < W.heap.size := by obtain ⟨m, hm⟩ := k2; exact DataW.trod_lt m _ _ _ hm
  obtain ⟨fuel2, hf2⟩ := h2
  obtain ⟨a2, b2, c2, z2, rfl, rfl, rfl, rfl, w2⟩ := four_in hf2
  clear hA0 hval0
  refine (walk a0 b0 c0 a1 len1 cap1 a2 b2 c2 z2 W w0 w1 w2 (tab_of_laid hL)).mono fun e W' ⟨he, bel⟩ => ?_
  subst he
  exact ⟨_, rfl, _, _, _, [], _, [], hW', trodAll_mk1 (shut_bool Tryz.underlying4 _), (trodAll_cons_mk (Below.trod laidOut (by kernel_rfl) (of_decide_eq_true (by kernel_rfl)) k0 bel lt0) (trodAll_cons_mk (Below.trod laidOut (by kernel_rfl) (of_decide_eq_true (by kernel_rfl)) k1 bel lt1) (trodAll_cons_mk (Below.trod laidOut (by kernel_rfl) (of_decide_eq_true (by kernel_rfl)) k2 bel lt2) trodAll_mk0))), rfl, bel.frame _, fun h => by cases h⟩

theorem over : Rows.reconWhichRow.holds Tryz.pinned (OpenSpec.ofChange Rows.reconWhichSpec) :=
  OpenClaim.holds_of_wide 8 Tryz.f8 rfl rfl rfl rfl rfl rfl rfl ⟨rfl, rfl, rfl, rfl, rfl⟩ rfl rfl rfl rfl rfl (by kernel_rfl) Tryz.func8 (by kernel_rfl)
    (of_decide_eq_true (by kernel_rfl)) (by unfold Func.isWrapper; first | (rw [if_pos (by decide +kernel)]; kernel_rfl) | (rw [if_neg (by decide +kernel)]; exact ⟨rfl, rfl⟩))
    (fun os started H enc _ => lifted os started H enc)

theorem proved : Rows.ReconWhichCardSaid :=
  Claim7.holds_tied_plain_at .later [] [.data] true Rows.reconWhichCard.stood.harness false
    over (fun _ h => by cases h) (by kernel_rfl) (fun _ h => by cases h) reconWhich_row_tie rfl ⟨rfl, rfl⟩ (by kernel_rfl) rfl
    (fun f fn hf hfn => by
      obtain rfl : f = 8 := Option.some.inj ((show Tryz.prog.funcNamed "gambrel/gambrellaw12.ReconWhich" = some 8 by kernel_rfl).symm.trans hf) |>.symm
      obtain rfl : fn = Tryz.f8 := (Option.some.inj (Tryz.func8.symm.trans hfn)).symm
      exact ⟨by kernel_rfl, fun j t ht => by
        rw [Tryz.params8] at ht
        have hm : t ∈ [41, 35, 42] := by simpa using Array.mem_of_getElem? ht
        have hall : ([41, 35, 42].all fun u => !Tryz.prog.wantsStandIn u) = true := by kernel_rfl
        exact (show Tryz.prog.wantsStandIn t = false by simpa using List.all_eq_true.1 hall t hm)⟩)
    (by kernel_rfl)
end Go.Proofs.YtgdgimknnjbieaaGreatDoor.reconWhich
