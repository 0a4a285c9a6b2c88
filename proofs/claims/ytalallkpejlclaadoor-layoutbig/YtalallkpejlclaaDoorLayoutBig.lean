/- LayoutBig: for all three bytes, any number of 16 bits, and any params, nothing is split that is too large, and as nothing that may not be. Condition: the package-level variable gambrel/profile.table holds, when the call begins, what the text of the program lays there; the card ties that to the text, over the pruned copy of the project that the seat holds. -/
import Derived.Test.YtalallkpejlclaaDoorRows
import Derived.Test.YtalallkpejlclaaDoorPrh
import Derived.Test.YtalallkpejlclaaDoorLyj
import Derived.Test.YtalallkpejlclaaDoorLyk
import Derived.Test.YtalallkpejlclaaDoorGxv
import Derived.Test.YtalallkpejlclaaDoorGxv
import Derived.Test.YtalallkpejlclaaDoorArr
import Derived.Test.YtalallkpejlclaaDoorCards
import Derived.Test.YtalallkpejlclaaDoorTie
import Derived.SevenTiedAt
import Derived.ChangeMaps5
import Derived.Deep.RegionHeld3
import Derived.WalkKit
import Derived.ProofKit
import Derived.OpenShut
import Derived.ShutString
import Derived.ChangeOld
import Derived.Below
namespace Go.Proofs.YtalallkpejlclaaDoor.layoutBig
open Go.ChangeShapes Go.WideShapes Go.ChangeAt Go.RowKit
set_option linter.unusedVariables false

theorem own : ownKnob Tryd.prog.godebug = none := by kernel_rfl
theorem laidOut : laidOutB Tryd.prog = true := by kernel_rfl

set_option maxRecDepth 100000 in
set_option maxHeartbeats 8000000 in
theorem walk (a0 b0 c0 : Int) (a1 : Int) (a2 b2 c2 : Int) (w : World) (w0 : (0 ≤ a0 ∧ a0 ≤ 255) ∧ (0 ≤ b0 ∧ b0 ≤ 255) ∧ 0 ≤ c0 ∧ c0 ≤ 255) (w1 : 0 ≤ a1 ∧ a1 ≤ 65535) (hT : Tab w) :
    Calls Tryd.prog 8 #[.agg (arr3 a0 b0 c0), .int .u16 a1, .agg (parA a2 b2 c2)] w fun e w' => e = .returned (.bool true) ∧ Below w.heap.size w w' := by
  have HA := Lib.hid w0
  obtain ⟨w10, w11⟩ := w1
  have h0 := hT.lt
  obtain ⟨u, hu⟩ : ∃ u, (w.alloc (.cells #[.int .u8 a0, .int .u8 b0, .int .u8 c0] T3u)).alloc (.cells #[.int .i64 a2, .int .i64 b2, .int .i64 c2] TPa) = u := ⟨_, rfl⟩
  obtain ⟨s0, e0, e1, hbu⟩ := two_boxes hu
  have HTU := Lib.hid (hT.below hbu)
  have HU := Lib.hid hbu
  have E0 := Lib.hid e0
  have E1 := Lib.hid e1
  clear s0 e0 e1 hbu hT w0
  have hmk1 : ∀ w : World, (Instr.makeSlice TBs (.int .i64 4097) (.int .i64 4097)).run Tryd.prog w = .ok (.slice (some ⟨w.heap.size, 0, none⟩) 4097 4097) (w.alloc (.cells (madeCells #[.int .u8 0] 4097) TB)) := run_make_row' (P := Tryd.prog) TBs TB (.int .u8 0) 1 Tryd.underlying24 infoB rfl .i64 .i64 4097 (by omega) (by omega)
  have hmk2 : ∀ w : World, (Instr.makeSlice TBs (.int .i64 4096) (.int .i64 4096)).run Tryd.prog w = .ok (.slice (some ⟨w.heap.size, 0, none⟩) 4096 4096) (w.alloc (.cells (madeCells #[.int .u8 0] 4096) TB)) := run_make_row' (P := Tryd.prog) TBs TB (.int .u8 0) 1 Tryd.underlying24 infoB rfl .i64 .i64 4096 (by omega) (by omega)
  go_enter Tryd.func8, Tryd.ntmps8
  go_wp2_with fail
  refine (awakeL _ HTU.out).mono ?_
  rintro e w1 ⟨rfl, hb1⟩
  have H1 := Lib.hid (below_tr HU.out hb1)
  have HT1 := Lib.hid (HTU.out.below hb1)
  have y1 := kept_box E0.out hb1
  have X1 := Lib.hid (kept_box E1.out hb1)
  clear hb1 HTU HU E0 E1 hu
  go_wp2_with (refine wpList_load_row rfl T3u _ rfl w.heap.size rfl T3u _ (0, 0) _ y1 Tryd.underlying44 rfl size3u ?_)
  refine (some20 a0 b0 c0 HA.out.1 HA.out.2.1 HA.out.2.2 _).mono ?_
  rintro e w2 ⟨p, k, m, rfl, hX, hb2⟩
  obtain ⟨K, rfl⟩ : ∃ K : Nat, k = (K : Int) := ⟨k.toNat, by have := hX.2.1; omega⟩
  have k1 : 1 ≤ K := by have := hX.2.1; omega
  have k8 : K ≤ 8 := by have := hX.2.1; omega
  have HX := Lib.hid hX
  obtain ⟨v, hv⟩ : ∃ v, w2.alloc (.cells #[.int .i64 p, .int .i64 K, .int .i64 m] TPa) = v := ⟨_, rfl⟩
  obtain ⟨s2, e2, hbv⟩ := one_box hv
  have H2 := Lib.hid (below_tr H1.out (below_tr hb2 hbv))
  have HT2 := Lib.hid (HT1.out.below (below_tr hb2 hbv))
  have X2 := Lib.hid (kept_box X1.out (below_tr hb2 hbv))
  have E2 := Lib.hid e2
  obtain ⟨d0, d1, d2⟩ := box_three e2
  clear s2 e2 hbv hb2 hX H1 HT1 y1 HA X1
  go_wp2_with fail
  have hz1 : szE p K m (4097 + a1) = 11 := (szE_big HX.out (by omega)).2
  refine (size10 p K m (4097 + a1) _ HT2.out).mono ?_
  rintro e w3 ⟨rfl, hb3⟩
  rw [hz1]
  have H3 := Lib.hid (below_tr H2.out hb3)
  have HT3 := Lib.hid (HT2.out.below hb3)
  have X3 := Lib.hid (kept_box X2.out hb3)
  have E3 := Lib.hid (kept_box E2.out hb3)
  clear hb3 d0 d1 d2 hz1 H2 HT2 X2 hv
  obtain ⟨d0, d1, d2⟩ := box_three E3.out
  go_wp2_with fail
  have hz2 : szE p K m (-1 - a1) = 1 := (szE_arg (fun h => by omega)).2
  refine (size10 p K m (-1 - a1) _ HT3.out).mono ?_
  rintro e w4 ⟨rfl, hb4⟩
  rw [hz2]
  have H4 := Lib.hid (below_tr H3.out hb4)
  have HT4 := Lib.hid (HT3.out.below hb4)
  have X4 := Lib.hid (kept_box X3.out hb4)
  have E4 := Lib.hid (kept_box E3.out hb4)
  clear hb4 d0 d1 d2 hz2 H3 HT3 X3 E3
  obtain ⟨d0, d1, d2⟩ := box_three E4.out
  have KS := Lib.hid (show ∀ w', Below w4.heap.size w4 w' → w'.cell? ⟨w2.heap.size, 0, none⟩ = some (.int .i64 p) ∧ w'.cell? ⟨w2.heap.size, 1, none⟩ = some (.int .i64 (K : Int)) ∧ w'.cell? ⟨w2.heap.size, 2, none⟩ = some (.int .i64 m) ∧ Below w4.heap.size w4 w' from
    fun w' h => ⟨(h.cell (lt_of_cell d0)).trans d0, (h.cell (lt_of_cell d1)).trans d1, (h.cell (lt_of_cell d2)).trans d2, h⟩)
  have hz3 : szE p K m (4097 : Nat) = 11 := (szE_big HX.out (by omega)).2
  have HSP := Lib.hid (fun (f : Nat → Nat) A c W (h : Tab W) => split_no p K m f A 4097 c W h (by rw [hz3]; decide))
  have hst : Below w4.heap.size w4 w4.drew := (Below.refl _ w4).drew
  have hst1 : Below w4.heap.size w4 (w4.alloc (.cells (madeCells #[.int .u8 0] 4097) TB)).drew := (below_alloc w4 _).drew
  have hz3' : szE p K m 4097 = 11 := hz3
  clear hz3
  go_wp2_with fail
  clear d0 d1 d2
  go_region_held3 (fun w' => w'.cell? ⟨w2.heap.size, 0, none⟩ = some (.int .i64 p) ∧ w'.cell? ⟨w2.heap.size, 1, none⟩ = some (.int .i64 (K : Int)) ∧ w'.cell? ⟨w2.heap.size, 2, none⟩ = some (.int .i64 m) ∧ Below w4.heap.size w4 w')
    (first | exact KS.out _ hst | exact KS.out _ hst1 | exact KS.out _ (below_tr hst1 hb5) | assumption)
    (first | (go_at_call 12; refine (HSP.out (fun _ => 0) _ _ _ (HT4.out.below hst1)).mono ?_; rintro e w5 ⟨v5, rfl, A5, c5, rfl, _, _, hb5⟩))
  all_goals
    have hb45 := below_tr hst1 hb5
    have H5 := Lib.hid (below_tr H4.out hb45)
    have HT5 := Lib.hid (HT4.out.below hb45)
    have X5 := Lib.hid (kept_box X4.out hb45)
    have E5 := Lib.hid (kept_box E4.out hb45)
    clear hst hst1 hb5 hb45 HSP KS H4 HT4 X4 E4
    obtain ⟨d0, d1, d2⟩ := box_three E5.out
    have KS := Lib.hid (show ∀ w', Below w5.heap.size w5 w' → w'.cell? ⟨w2.heap.size, 0, none⟩ = some (.int .i64 p) ∧ w'.cell? ⟨w2.heap.size, 1, none⟩ = some (.int .i64 (K : Int)) ∧ w'.cell? ⟨w2.heap.size, 2, none⟩ = some (.int .i64 m) ∧ Below w5.heap.size w5 w' from
      fun w' h => ⟨(h.cell (lt_of_cell d0)).trans d0, (h.cell (lt_of_cell d1)).trans d1, (h.cell (lt_of_cell d2)).trans d2, h⟩)
    have hz4 : szE p K m 4096 = 0 := (if_pos ⟨HX.out, by omega⟩).trans (if_pos (by omega))
    have hz5 : splN p K m 4096 = K := (if_pos hz4).trans (Int.toNat_natCast K)
    have hrd : Rd (w5.heap.size + 1) (w5.alloc (.cells (madeCells #[.int .u8 0] 4096) TB)).drew (u8s fun _ => 0) (some ⟨w5.heap.size, 0, none⟩) 4096 := Rd.drew (Rd.of_row ((World.rowIs_made w5 (.int .u8 0) 4096 TB).congr (fun _ _ => rfl)) (by omega) (Nat.le_refl _))
    have hst : Below w5.heap.size w5 w5.drew := (Below.refl _ w5).drew
    have hst1 : Below w5.heap.size w5 (w5.alloc (.cells (madeCells #[.int .u8 0] 4096) TB)).drew := (below_alloc w5 _).drew
    have HSP := Lib.hid (split12 (w5.heap.size + 1) p K m (fun _ => 0) (some ⟨w5.heap.size, 0, none⟩) 4096 4096 _ (HT5.out.below hst1) hrd)
    go_wp2_with fail
    clear d0 d1 d2 hrd
    go_region_held3 (fun w' => w'.cell? ⟨w2.heap.size, 0, none⟩ = some (.int .i64 p) ∧ w'.cell? ⟨w2.heap.size, 1, none⟩ = some (.int .i64 (K : Int)) ∧ w'.cell? ⟨w2.heap.size, 2, none⟩ = some (.int .i64 m) ∧ Below w5.heap.size w5 w')
      (first | exact KS.out _ hst | exact KS.out _ hst1 | exact KS.out _ (below_tr hst1 hb6) | assumption)
      (first | (go_at_call 12; refine HSP.out.mono ?_; rintro e w6 ⟨v6, rfl, A6, c6, rfl, _, _, hb6⟩))
    all_goals
      have hb56 := below_tr hst1 hb6
      have H6 := Lib.hid (below_tr H5.out hb56)
      have HT6 := Lib.hid (HT5.out.below hb56)
      have X6 := Lib.hid (kept_box X5.out hb56)
      have E6 := Lib.hid (kept_box E5.out hb56)
      clear hst hst1 hb6 hb56 HSP KS H5 HT5 X5 E5 hmk1 hmk2
      obtain ⟨x0, x1, x2⟩ := box_three X6.out
      go_wp2_with fail
      refine (size10 a2 b2 c2 5 _ HT6.out).mono ?_
      rintro e w7 ⟨rfl, hb7⟩
      have H7 := Lib.hid (below_tr H6.out hb7)
      have HT7 := Lib.hid (HT6.out.below hb7)
      have X7 := Lib.hid (kept_box X6.out hb7)
      have E7 := Lib.hid (kept_box E6.out hb7)
      obtain ⟨t, ht⟩ : ∃ t, decide (mayX a2 b2 c2) = t := ⟨_, rfl⟩
      have hE5 : szE a2 b2 c2 5 = (if t = true then 0 else 1) := by
        rw [← ht]
        unfold szE
        by_cases h : mayX a2 b2 c2
        · rw [if_pos ⟨h, by omega⟩, if_pos (by omega), if_pos (by simpa using h)]
        · rw [if_neg (fun h' => h h'.1), if_neg (by simpa using h)]
      have HTM := Lib.hid (show t = true ↔ mayX a2 b2 c2 by rw [← ht]; simp)
      have hno : ¬ okJ p K m 0 (fun _ => 0) := fun h => by have := h.2.1; omega
      have HJ := Lib.hid (show Calls Tryd.prog 16 #[.agg (parA p K m), .slice none 0 0, .int .i64 0] w7 (fun e w' => ∃ v, e = .returned (.tuple #[v, .int .i64 1]) ∧ Below w7.heap.size w7 w') from by
        refine (join_arg 0 p K m (fun _ _ => 0) (fun _ => 0) none 0 0 (by omega) 0 _ HT7.out Bx.zero hno).mono ?_
        rintro e w' ⟨s8, t8, v8, rfl, hs8, _, _, _, _, _, _, hb8⟩
        obtain rfl : s8 = false := by
          cases s8
          · rfl
          · exact absurd (hs8.1 rfl) hno
        exact ⟨v8, rfl, hb8⟩)
      rw [hE5]
      clear hb7 x0 x1 x2 H6 HT6 X6 E6 hE5 ht hno
      obtain ⟨d0, d1, d2⟩ := box_three E7.out
      cases t
      · simp only [if_neg (show ¬ (false = true) by decide)]
        go_wp2_with fail
        refine HJ.out.mono ?_
        rintro e w8 ⟨v8, rfl, hb8⟩
        have H8 := Lib.hid (below_tr H7.out hb8)
        have X8 := kept_box X7.out hb8
        have E8 := kept_box E7.out hb8
        clear hb8 d0 d1 d2
        obtain ⟨x0, x1, x2⟩ := box_three X8
        obtain ⟨d0, d1, d2⟩ := box_three E8
        clear X8 E8
        go_wp2_with fail
        refine (rmay16 a2 b2 c2 _).mono ?_
        rintro e w9 ⟨t9, rfl, ht9, hb9⟩
        obtain rfl : t9 = false := Bool.eq_iff_iff.2 (ht9.trans HTM.out.symm)
        have H9 := Lib.hid (below_tr H8.out hb9)
        clear ht9 hb9
        go_wp2_with fail
        go_ret
        exact ⟨rfl, H9.out⟩
      · have HMY := Lib.hid (HTM.out.1 rfl)
        clear HTM
        simp only [if_true]
        go_wp2_with fail
        refine HJ.out.mono ?_
        rintro e w8 ⟨v8, rfl, hb8⟩
        have H8 := Lib.hid (below_tr H7.out hb8)
        have X8 := kept_box X7.out hb8
        have E8 := kept_box E7.out hb8
        clear hb8 d0 d1 d2
        obtain ⟨x0, x1, x2⟩ := box_three X8
        obtain ⟨d0, d1, d2⟩ := box_three E8
        clear X8 E8
        go_wp2_with fail
        refine (rmay16 a2 b2 c2 _).mono ?_
        rintro e w9 ⟨t9, rfl, ht9, hb9⟩
        obtain rfl : t9 = true := ht9.2 HMY.out
        have H9 := Lib.hid (below_tr H8.out hb9)
        clear ht9 hb9
        go_wp2_with fail
        go_ret
        exact ⟨rfl, H9.out⟩

set_option maxRecDepth 100000 in
theorem lifted (os : Os) (started : os.Started) (H : Type) (enc : TypeId × Value → H) :
    ReturnsInHanded {} Tryd.checked os 8 .any (fun w args => (Rows.layoutBigSpec.pre enc Tryd.prog Tryd.f8 Rows.layoutBigRow.domain false w args ∧ laidMetH Tryd.prog laidT w) ∧ sizedMet enc Tryd.prog Tryd.f8 (OpenSpec.ofChange Rows.layoutBigSpec) false w args) (Rows.layoutBigSpec.post enc Tryd.prog Tryd.f8 false true false false) := by
  refine returnsInHanded_of_change_and (C := Tryd.checked) (X := fun w _ => laidMetH Tryd.prog laidT w) (fun _ _ _ hh h => h.of_heap hh) own started (by kernel_rfl) Tryd.func8
    (ChangeSpec.witness_shaped (enc := enc) (C := Tryd.checked) (os := os) (X := fun w _ => laidMetH Tryd.prog laidT w) false (World.doorLaid Tryd.prog 400 os) #[.agg #[.int .u8 0, .int .u8 0, .int .u8 0], .int .u16 0, .agg #[.int .i64 0, .int .i64 0, .int .i64 0]] 8 rfl (World.shaped_of_RefB (by kernel_rfl) (by kernel_rfl)) (by kernel_rfl) (by kernel_rfl) (by kernel_rfl) (door_met os _)) ?_
  intro W base args ds gs before hval0 hW hcnd _ hL _
  have hval : ∀ (j : Nat) t v, Tryd.f8.params[j]? = some t → args[j]? = some v → Value.okWide Tryd.prog W .any base t v := hval0
  have hW' := hW
  obtain ⟨p, q, hA0, hV, rfl, hfz, hnd⟩ := hW
  have hA : DataW.TrodAll enc Tryd.prog W 0 (fun _ => true) true Tryd.f8.params.toList args.toList ds p := hA0
  rw [Tryd.params8] at hA hval
  obtain ⟨v0, vs0, d0, ds0, p0, q0, hargs, rfl, rfl, h0, r0⟩ := trodAll_cons hA
  obtain ⟨v1, vs1, d1, ds1, p1, q1, rfl, rfl, rfl, h1, r1⟩ := trodAll_cons r0
  obtain ⟨v2, vs2, d2, ds2, p2, q2, rfl, rfl, rfl, h2, r2⟩ := trodAll_cons r1
  obtain ⟨rfl, rfl, rfl⟩ := trodAll_nil r2
  obtain rfl : args = #[v0, v1, v2] := by cases args; simp_all
  obtain ⟨rfl, rfl⟩ := trodVars_none hV
  obtain ⟨cs0, rfl, hsz0, _⟩ : ∃ cs, v0 = .agg cs ∧ cs.size = Tryd.prog.cellsOf 44 ∧ Row.okWide Tryd.prog W .any base 44 cs := by
    have := hval 0 44 v0 rfl rfl
    simpa [Value.okWide, Tryd.underlying44] using this
  rw [show Tryd.prog.cellsOf 44 = 3 by kernel_rfl] at hsz0
  obtain ⟨l0⟩ := cs0
  obtain ⟨e0, f0, g0, rfl⟩ := list3 l0 hsz0
  have k0 := h0
  have lt0 : ∀ x ∈ p0, x.block < W.heap.size := by obtain ⟨m, hm⟩ := k0; exact DataW.trod_lt m _ _ _ hm
  obtain ⟨fuel0, hf0⟩ := h0
  obtain ⟨a0, b0, c0, rfl, rfl, rfl, w0⟩ := three_in hf0
  obtain ⟨a1, rfl, rfl, rfl, w1⟩ := open_int Tryd.underlying53 (hval 1 53 v1 rfl rfl) h1
  obtain ⟨cs2, rfl, hsz2, _⟩ : ∃ cs, v2 = .agg cs ∧ cs.size = Tryd.prog.cellsOf 23 ∧ Row.okWide Tryd.prog W .any base 23 cs := by
    have := hval 2 23 v2 rfl rfl
    simpa [Value.okWide, Tryd.underlying23] using this
  rw [show Tryd.prog.cellsOf 23 = 3 by kernel_rfl] at hsz2
  obtain ⟨l2⟩ := cs2
  obtain ⟨e2, f2, g2, rfl⟩ := list3 l2 hsz2
  have k2 := h2
  have lt2 : ∀ x ∈ p2, x.block < W.heap.size := by obtain ⟨m, hm⟩ := k2; exact DataW.trod_lt m _ _ _ hm
  obtain ⟨fuel2, hf2⟩ := h2
  obtain ⟨a2, b2, c2, rfl, rfl, rfl⟩ := params_in hf2
  clear hA0 hval0
  refine (walk a0 b0 c0 a1 a2 b2 c2 W w0 (bounds_u16 w1) (tab_of_laid hL)).mono fun e W' ⟨he, bel⟩ => ?_
  subst he
  exact ⟨_, rfl, _, _, _, [], _, [], hW', trodAll_mk1 (shut_bool Tryd.underlying4 _), (trodAll_cons_mk (Below.trod laidOut (by kernel_rfl) (of_decide_eq_true (by kernel_rfl)) k0 bel lt0) (trodAll_cons_mk (shut_int Tryd.underlying53 w1) (trodAll_cons_mk (Below.trod laidOut (by kernel_rfl) (of_decide_eq_true (by kernel_rfl)) k2 bel lt2) trodAll_mk0))), rfl, bel.frame _, fun h => by cases h⟩

theorem over : Rows.layoutBigRow.holds Tryd.pinned (OpenSpec.ofChange Rows.layoutBigSpec) :=
  OpenClaim.holds_of_wide 8 Tryd.f8 rfl rfl rfl rfl rfl rfl rfl ⟨rfl, rfl, rfl, rfl, rfl⟩ rfl rfl rfl rfl rfl (by kernel_rfl) Tryd.func8 (by kernel_rfl)
    (of_decide_eq_true (by kernel_rfl)) (by unfold Func.isWrapper; first | (rw [if_pos (by decide +kernel)]; kernel_rfl) | (rw [if_neg (by decide +kernel)]; exact ⟨rfl, rfl⟩))
    (fun os started H enc _ => lifted os started H enc)

theorem proved : Rows.LayoutBigCardSaid :=
  Claim7.holds_tied_plain_at .later [] [.data] true Rows.layoutBigCard.stood.harness false
    over (fun _ h => by cases h) (by kernel_rfl) (fun _ h => by cases h) layoutBig_row_tie rfl ⟨rfl, rfl⟩ (by kernel_rfl) rfl
    (fun f fn hf hfn => by
      obtain rfl : f = 8 := Option.some.inj ((show Tryd.prog.funcNamed "gambrel/gambrellaw10.LayoutBig" = some 8 by kernel_rfl).symm.trans hf) |>.symm
      obtain rfl : fn = Tryd.f8 := (Option.some.inj (Tryd.func8.symm.trans hfn)).symm
      exact ⟨by kernel_rfl, fun j t ht => by
        rw [Tryd.params8] at ht
        have hm : t ∈ [44, 53, 23] := by simpa using Array.mem_of_getElem? ht
        have hall : ([44, 53, 23].all fun u => !Tryd.prog.wantsStandIn u) = true := by kernel_rfl
        exact (show Tryd.prog.wantsStandIn t = false by simpa using List.all_eq_true.1 hall t hm)⟩)
    (by kernel_rfl)
end Go.Proofs.YtalallkpejlclaaDoor.layoutBig
