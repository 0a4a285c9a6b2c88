/- LayoutSame: for all three bytes, twice, and any bytes, shards of unlike profiles are the same, if their layouts are, and K; how many parity shards there are plays no part (its law asks for 300 bytes at most). Condition: the package-level variable gambrel/profile.table holds, when the call begins, what the text of the program lays there; the card ties that to the text, over the pruned copy of the project that the seat holds. -/
import Derived.Test.YtalallkpejlclaaDoorRows
import Derived.Test.YtalallkpejlclaaDoorPrh
import Derived.Test.YtalallkpejlclaaDoorLyj
import Derived.Test.YtalallkpejlclaaDoorLyg
import Derived.Test.YtalallkpejlclaaDoorLyk
import Derived.Test.YtalallkpejlclaaDoorGxv
import Derived.Test.YtalallkpejlclaaDoorGxv
import Derived.Test.YtalallkpejlclaaDoorArr
import Derived.Test.YtalallkpejlclaaDoorCards
import Derived.Test.YtalallkpejlclaaDoorTie
import Derived.SevenTiedAt
import Derived.ChangeMaps5
import Derived.Deep.RegionHeld3
import Derived.WalkKit
import Derived.ProofKit
import Derived.OpenShut
import Derived.ShutString
import Derived.ChangeOld
import Derived.Below
namespace Go.Proofs.YtalallkpejlclaaDoor.layoutSame
open Go.ChangeShapes Go.WideShapes Go.ChangeAt Go.RowKit
set_option linter.unusedVariables false

theorem own : ownKnob Tryd.prog.godebug = none := by kernel_rfl
theorem laidOut : laidOutB Tryd.prog = true := by kernel_rfl

set_option maxRecDepth 100000 in
set_option maxHeartbeats 8000000 in
theorem walk (a0 b0 c0 a1 b1 c1 : Int) (a2 : Option Addr) (len2 cap2 : Nat) (w : World) (w0 : (0 ≤ a0 ∧ a0 ≤ 255) ∧ (0 ≤ b0 ∧ b0 ≤ 255) ∧ 0 ≤ c0 ∧ c0 ≤ 255) (w1 : (0 ≤ a1 ∧ a1 ≤ 255) ∧ (0 ≤ b1 ∧ b1 ≤ 255) ∧ 0 ≤ c1 ∧ c1 ≤ 255) (w2 : IsBytesN w a2 len2 cap2) (hT : Tab w) :
    Calls Tryd.prog 6 #[.agg (arr3 a0 b0 c0), .agg (arr3 a1 b1 c1), .slice a2 len2 cap2] w fun e w' => e = .returned (.bool true) ∧ Below w.heap.size w w' := by
  obtain ⟨f, hf, hlc, _, hr⟩ := w2
  have HA := Lib.hid w0
  have HB := Lib.hid w1
  have h0 := hT.lt
  have HR := Lib.hid (hr w.heap.size (Nat.le_refl _))
  have HF := Lib.hid hf
  obtain ⟨u, hu⟩ : ∃ u, (w.alloc (.cells #[.int .u8 a0, .int .u8 b0, .int .u8 c0] T3u)).alloc (.cells #[.int .u8 a1, .int .u8 b1, .int .u8 c1] T3u) = u := ⟨_, rfl⟩
  obtain ⟨s0, e0, e1, hbu⟩ := two_boxes hu
  have HTU := Lib.hid (hT.below hbu)
  have HU := Lib.hid hbu
  have E0 := Lib.hid e0
  have E1 := Lib.hid e1
  clear s0 e0 e1 hbu hT w0 w1 hr hf
  go_enter Tryd.func6, Tryd.ntmps6
  go_wp2_with fail
  refine (awakeL _ HTU.out).mono ?_
  rintro e w1 ⟨rfl, hb1⟩
  have H1 := Lib.hid (below_tr HU.out hb1)
  have HT1 := Lib.hid (HTU.out.below hb1)
  have y1 := kept_box E0.out hb1
  have Y2 := Lib.hid (kept_box E1.out hb1)
  clear hb1 HTU HU E0 E1 hu
  by_cases hl : 300 < len2
  · go_wp2_with fail
    go_ret
    exact ⟨rfl, H1.out⟩
  go_wp2_with (refine wpList_load_row rfl T3u _ rfl w.heap.size rfl T3u _ (0, 0) _ y1 Tryd.underlying44 rfl size3u ?_)
  refine (some20 a0 b0 c0 HA.out.1 HA.out.2.1 HA.out.2.2 _).mono ?_
  rintro e w2 ⟨p, k, m, rfl, hX, hb2⟩
  obtain ⟨K, rfl⟩ : ∃ K : Nat, k = (K : Int) := ⟨k.toNat, by have := hX.2.1; omega⟩
  have HX := Lib.hid hX
  obtain ⟨v, hv⟩ : ∃ v, w2.alloc (.cells #[.int .i64 p, .int .i64 K, .int .i64 m] TPa) = v := ⟨_, rfl⟩
  obtain ⟨s2, e2, hbv⟩ := one_box hv
  have H2 := Lib.hid (below_tr H1.out (below_tr hb2 hbv))
  have HT2 := Lib.hid (HT1.out.below (below_tr hb2 hbv))
  have E2 := Lib.hid e2
  have y2 := kept_box Y2.out (below_tr hb2 hbv)
  have hxl : w2.heap.size < v.heap.size := by omega
  clear s2 e2 hbv hb2 hX H1 HT1 y1 HA Y2
  go_wp2_with (refine wpList_load_row rfl T3u _ rfl (w.heap.size + 1) rfl T3u _ (0, 0) _ y2 Tryd.underlying44 rfl size3u ?_)
  refine (some20 a1 b1 c1 HB.out.1 HB.out.2.1 HB.out.2.2 _).mono ?_
  rintro e w3 ⟨q, k2, m2, rfl, hY, hb3⟩
  have HY := Lib.hid (show mayX q K m2 from ⟨hY.1, HX.out.2.1, hY.2.2⟩)
  have KX := Lib.hid (show ∀ o : Obj, (w3.alloc o).heap[w2.heap.size]? = some (.cells #[.int .i64 p, .int .i64 K, .int .i64 m] TPa (0, 0)) ∧ Tab (w3.alloc o) ∧ Below w.heap.size w (w3.alloc o) from fun o =>
    ⟨kept_box E2.out (below_tr hb3 (below_alloc w3 o)), HT2.out.below (below_tr hb3 (below_alloc w3 o)), below_tr H2.out (below_tr hb3 (below_alloc w3 o))⟩)
  obtain ⟨d0, d1, d2⟩ := box_three (KX.out (.cells #[.int .i64 q, .int .i64 k2, .int .i64 m2] TPa)).1
  obtain ⟨u1, hu1⟩ : ∃ u1, w3.alloc (.cells #[.int .i64 q, .int .i64 K, .int .i64 m2] TPa) = u1 := ⟨_, rfl⟩
  obtain ⟨s3, e3, hb4⟩ := one_box hu1
  obtain ⟨x0, x1, x2⟩ := box_three (KX.out (.cells #[.int .i64 q, .int .i64 K, .int .i64 m2] TPa)).1
  have HXB := Lib.hid (KX.out (.cells #[.int .i64 q, .int .i64 K, .int .i64 m2] TPa))
  rw [hu1] at x0 x1 x2 HXB
  have hxg : w2.heap.size < w3.heap.size := Nat.lt_of_lt_of_le hxl hb3.size
  have hxne : ¬ w2.heap.size = w3.heap.size := by omega
  have E3 := Lib.hid e3
  have HS3 := Lib.hid s3
  clear hb3 hY hb4 e3 s3 KX H2 HT2 E2 y2 hv HB
  go_wp2_with fail
  refine (rof9 p u1).mono ?_
  rintro e w5 ⟨rfl, hb5⟩
  obtain ⟨tg, h1⟩ : ∃ x, tagI p = x := ⟨_, rfl⟩
  obtain ⟨bt, h2⟩ : ∃ x, bitsI p = x := ⟨_, rfl⟩
  obtain ⟨pl, h3⟩ : ∃ x, polyI p = x := ⟨_, rfl⟩
  obtain ⟨ly, h4⟩ : ∃ x, layI p = x := ⟨_, rfl⟩
  obtain ⟨mx, h5⟩ : ∃ x, maxI p = x := ⟨_, rfl⟩
  simp only [rowA, h1, h2, h3, h4, h5]
  have HLP := Lib.hid h4
  obtain ⟨u2, hu2⟩ : ∃ u2, w5.alloc (.cells #[.string tg, .int .i64 bt, .int .u32 pl, .int .u8 ly, .int .i64 mx] TRw) = u2 := ⟨_, rfl⟩
  obtain ⟨s5, e5, hbu2⟩ := one_box hu2
  have hb12 := below_tr hb5 hbu2
  have E5 := Lib.hid e5
  have HX2 := Lib.hid (And.intro (kept_box HXB.out.1 hb12) (And.intro (HXB.out.2.1.below hb12) (below_tr HXB.out.2.2 hb12)))
  have HY2 := Lib.hid (kept_box E3.out hb12)
  obtain ⟨z0, z1, z2⟩ := box_three HY2.out
  clear h1 h2 h3 h4 h5 hb5 s5 e5 hbu2 hb12 x0 x1 x2 HXB E3 hu1 d0 d1 d2
  go_wp2_with fail
  refine (rof9 q u2).mono ?_
  rintro e w6 ⟨rfl, hb6⟩
  obtain ⟨tg', h1⟩ : ∃ x, tagI q = x := ⟨_, rfl⟩
  obtain ⟨bt', h2⟩ : ∃ x, bitsI q = x := ⟨_, rfl⟩
  obtain ⟨pl', h3⟩ : ∃ x, polyI q = x := ⟨_, rfl⟩
  obtain ⟨ly', h4⟩ : ∃ x, layI q = x := ⟨_, rfl⟩
  obtain ⟨mx', h5⟩ : ∃ x, maxI q = x := ⟨_, rfl⟩
  simp only [rowA, h1, h2, h3, h4, h5]
  have HLQ := Lib.hid h4
  obtain ⟨u3, hu3⟩ : ∃ u3, w6.alloc (.cells #[.string tg', .int .i64 bt', .int .u32 pl', .int .u8 ly', .int .i64 mx'] TRw) = u3 := ⟨_, rfl⟩
  obtain ⟨s6, e6, hbu3⟩ := one_box hu3
  have hb23 := below_tr hb6 hbu3
  have E6 := Lib.hid e6
  have E5' := Lib.hid (kept_box E5.out hb23)
  have HX3 := Lib.hid (And.intro (kept_box HX2.out.1 hb23) (And.intro (HX2.out.2.1.below hb23) (below_tr HX2.out.2.2 hb23)))
  have HY3 := Lib.hid (kept_box HY2.out hb23)
  obtain ⟨x0, x1, x2⟩ := box_three HX3.out.1
  clear h1 h2 h3 h4 h5 hb6 s6 e6 hbu3 hb23 z0 z1 z2 HX2 HY2 E5 hu2
  have hEx : szE p K m len2 = 0 := (if_pos ⟨HX.out, by omega⟩).trans (if_pos (by omega))
  have hEy : szE q K m2 len2 = 0 := (if_pos ⟨HY.out, by omega⟩).trans (if_pos (by omega))
  have HE := Lib.hid (And.intro hEx hEy)
  have HN := Lib.hid (And.intro (show splN p K m len2 = K from (if_pos hEx).trans (Int.toNat_natCast K)) (show splN q K m2 len2 = K from (if_pos hEy).trans (Int.toNat_natCast K)))
  have HSZ := Lib.hid (And.intro (szE_ok HX.out (show len2 ≤ 4096 by omega)).1 (szE_ok HY.out (show len2 ≤ 4096 by omega)).1)
  have hK8 : K ≤ 8 := by have := HX.out.2.1; omega
  have hp3 : 0 < u3.heap.size := Nat.lt_of_lt_of_le h0 HX3.out.2.2.size
  clear hEx hEy
  go_wp2_with fail
  refine (split12 w.heap.size p K m f a2 len2 cap2 _ HX3.out.2.1 (HR.out.below HX3.out.2.2)).mono ?_
  rintro e w7 ⟨v7, rfl, A7, c7, rfl, _, hx7, hb7⟩
  have hx7' := hx7 0 hp3
  rw [HE.out.1]
  rw [HN.out.1] at hx7' ⊢
  have HX7 := Lib.hid hx7'
  have H7 := Lib.hid (below_tr HX3.out.2.2 hb7)
  have HT7 := Lib.hid (HX3.out.2.1.below hb7)
  have HY7 := Lib.hid (kept_box HY3.out hb7)
  have E57 := Lib.hid (kept_box E5'.out hb7)
  have E67 := Lib.hid (kept_box E6.out hb7)
  obtain ⟨z0, z1, z2⟩ := box_three HY7.out
  have hp7 : 0 < w7.heap.size := Nat.lt_of_lt_of_le h0 H7.out.size
  clear hx7 hx7' hb7 x0 x1 x2 HX3 HY3 E5' E6 hu3
  go_wp2_with fail
  refine (split12 w.heap.size q K m2 f a2 len2 cap2 _ HT7.out (HR.out.below H7.out)).mono ?_
  rintro e w8 ⟨v8, rfl, A8, c8, rfl, _, hx8, hb8⟩
  have hx8' := hx8 0 hp7
  rw [HE.out.2]
  rw [HN.out.2] at hx8' ⊢
  have H8 := Lib.hid (below_tr H7.out hb8)
  have k1 := box_at (i := 3) (x := .int .u8 ly) (kept_box E57.out hb8) rfl
  have k2 := box_at (i := 3) (x := .int .u8 ly') (kept_box E67.out hb8) rfl
  have HC := Lib.hid (rsame14 0 0 _ _ (fun r j => laidB_lt HF.out _) (fun r j => laidB_lt HF.out _) (fun _ => szN p K m len2) (fun _ => szN q K m2 len2) A7 A8 K K c7 c8 (by omega) _ (HX7.out.below hb8) hx8')
  clear hx8 hx8' hb8 z0 z1 z2 H7 HT7 HY7 E57 E67 HX7
  by_cases hly : ly = ly'
  · have HSP := Lib.hid (show sameP K K (fun _ => szN p K m len2) (fun _ => szN q K m2 len2) (splF p (szN p K m len2) len2 f) (splF q (szN q K m2 len2) len2 f) from by
      have hs : szN p K m len2 = szN q K m2 len2 := by rw [HSZ.out.1, HSZ.out.2, HLP.out, HLQ.out, hly]
      refine ⟨rfl, fun r _ => ⟨hs, fun j _ => ?_⟩⟩
      unfold splF
      rw [hs, HLP.out, HLQ.out, hly])
    have hne : (ly != ly') = false := by simp [hly]
    clear hly
    go_wp2_with fail
    refine HC.out.mono ?_
    rintro e w9 ⟨t9, rfl, ht9, hb9⟩
    obtain rfl : t9 = true := ht9.2 HSP.out
    have H9 := Lib.hid (below_tr H8.out hb9)
    clear ht9 hb9
    go_wp2_with fail
    go_ret
    exact ⟨rfl, H9.out⟩
  · have hne : (ly != ly') = true := by simp [hly]
    clear hly
    go_wp2_with fail
    go_ret
    exact ⟨rfl, H8.out⟩

set_option maxRecDepth 100000 in
theorem lifted (os : Os) (started : os.Started) (H : Type) (enc : TypeId × Value → H) :
    ReturnsInHanded {} Tryd.checked os 6 .any (fun w args => (Rows.layoutSameSpec.pre enc Tryd.prog Tryd.f6 Rows.layoutSameRow.domain false w args ∧ laidMetH Tryd.prog laidT w) ∧ sizedMet enc Tryd.prog Tryd.f6 (OpenSpec.ofChange Rows.layoutSameSpec) false w args) (Rows.layoutSameSpec.post enc Tryd.prog Tryd.f6 false true false false) := by
  refine returnsInHanded_of_change_and (C := Tryd.checked) (X := fun w _ => laidMetH Tryd.prog laidT w) (fun _ _ _ hh h => h.of_heap hh) own started (by kernel_rfl) Tryd.func6
    (ChangeSpec.witness_shaped (enc := enc) (C := Tryd.checked) (os := os) (X := fun w _ => laidMetH Tryd.prog laidT w) false (World.doorLaid Tryd.prog 400 os) #[.agg #[.int .u8 0, .int .u8 0, .int .u8 0], .agg #[.int .u8 0, .int .u8 0, .int .u8 0], .slice none 0 0] 8 rfl (World.shaped_of_RefB (by kernel_rfl) (by kernel_rfl)) (by kernel_rfl) (by kernel_rfl) (by kernel_rfl) (door_met os _)) ?_
  intro W base args ds gs before hval0 hW hcnd _ hL _
  have hval : ∀ (j : Nat) t v, Tryd.f6.params[j]? = some t → args[j]? = some v → Value.okWide Tryd.prog W .any base t v := hval0
  have hW' := hW
  obtain ⟨p, q, hA0, hV, rfl, hfz, hnd⟩ := hW
  have hA : DataW.TrodAll enc Tryd.prog W 0 (fun _ => true) true Tryd.f6.params.toList args.toList ds p := hA0
  rw [Tryd.params6] at hA hval
  obtain ⟨v0, vs0, d0, ds0, p0, q0, hargs, rfl, rfl, h0, r0⟩ := trodAll_cons hA
  obtain ⟨v1, vs1, d1, ds1, p1, q1, rfl, rfl, rfl, h1, r1⟩ := trodAll_cons r0
  obtain ⟨v2, vs2, d2, ds2, p2, q2, rfl, rfl, rfl, h2, r2⟩ := trodAll_cons r1
  obtain ⟨rfl, rfl, rfl⟩ := trodAll_nil r2
  obtain rfl : args = #[v0, v1, v2] := by cases args; simp_all
  obtain ⟨rfl, rfl⟩ := trodVars_none hV
  obtain ⟨cs0, rfl, hsz0, _⟩ : ∃ cs, v0 = .agg cs ∧ cs.size = Tryd.prog.cellsOf 44 ∧ Row.okWide Tryd.prog W .any base 44 cs := by
    have := hval 0 44 v0 rfl rfl
    simpa [Value.okWide, Tryd.underlying44] using this
  rw [show Tryd.prog.cellsOf 44 = 3 by kernel_rfl] at hsz0
  obtain ⟨l0⟩ := cs0
  obtain ⟨e0, f0, g0, rfl⟩ := list3 l0 hsz0
  have k0 := h0
  have lt0 : ∀ x ∈ p0, x.block < W.heap.size := by obtain ⟨m, hm⟩ := k0; exact DataW.trod_lt m _ _ _ hm
  obtain ⟨fuel0, hf0⟩ := h0
  obtain ⟨a0, b0, c0, rfl, rfl, rfl, w0⟩ := three_in hf0
  obtain ⟨cs1, rfl, hsz1, _⟩ : ∃ cs, v1 = .agg cs ∧ cs.size = Tryd.prog.cellsOf 44 ∧ Row.okWide Tryd.prog W .any base 44 cs := by
    have := hval 1 44 v1 rfl rfl
    simpa [Value.okWide, Tryd.underlying44] using this
  rw [show Tryd.prog.cellsOf 44 = 3 by kernel_rfl] at hsz1
  obtain ⟨l1⟩ := cs1
  obtain ⟨e1, f1, g1, rfl⟩ := list3 l1 hsz1
  have k1 := h1
  have lt1 : ∀ x ∈ p1, x.block < W.heap.size := by obtain ⟨m, hm⟩ := k1; exact DataW.trod_lt m _ _ _ hm
  obtain ⟨fuel1, hf1⟩ := h1
  obtain ⟨a1, b1, c1, rfl, rfl, rfl, w1⟩ := three_in hf1
  obtain ⟨a2, len2, cap2, rfl⟩ := okWide_slice Tryd.underlying24 (hval 2 24 v2 rfl rfl)
  have k2 := h2
  have lt2 : ∀ x ∈ p2, x.block < W.heap.size := by obtain ⟨m, hm⟩ := k2; exact DataW.trod_lt m _ _ _ hm
  have w2 : IsBytesN W a2 len2 cap2 := by
    obtain ⟨fuel, hf⟩ := h2
    exact bytesn_in hf
  clear hA0 hval0
  refine (walk a0 b0 c0 a1 b1 c1 a2 len2 cap2 W w0 w1 w2 (tab_of_laid hL)).mono fun e W' ⟨he, bel⟩ => ?_
  subst he
  exact ⟨_, rfl, _, _, _, [], _, [], hW', trodAll_mk1 (shut_bool Tryd.underlying4 _), (trodAll_cons_mk (Below.trod laidOut (by kernel_rfl) (of_decide_eq_true (by kernel_rfl)) k0 bel lt0) (trodAll_cons_mk (Below.trod laidOut (by kernel_rfl) (of_decide_eq_true (by kernel_rfl)) k1 bel lt1) (trodAll_cons_mk (Below.trod laidOut (by kernel_rfl) (of_decide_eq_true (by kernel_rfl)) k2 bel lt2) trodAll_mk0))), rfl, bel.frame _, fun h => by cases h⟩

theorem over : Rows.layoutSameRow.holds Tryd.pinned (OpenSpec.ofChange Rows.layoutSameSpec) :=
  OpenClaim.holds_of_wide 6 Tryd.f6 rfl rfl rfl rfl rfl rfl rfl ⟨rfl, rfl, rfl, rfl, rfl⟩ rfl rfl rfl rfl rfl (by kernel_rfl) Tryd.func6 (by kernel_rfl)
    (of_decide_eq_true (by kernel_rfl)) (by unfold Func.isWrapper; first | (rw [if_pos (by decide +kernel)]; kernel_rfl) | (rw [if_neg (by decide +kernel)]; exact ⟨rfl, rfl⟩))
    (fun os started H enc _ => lifted os started H enc)

theorem proved : Rows.LayoutSameCardSaid :=
  Claim7.holds_tied_plain_at .later [] [.data] true Rows.layoutSameCard.stood.harness false
    over (fun _ h => by cases h) (by kernel_rfl) (fun _ h => by cases h) layoutSame_row_tie rfl ⟨rfl, rfl⟩ (by kernel_rfl) rfl
    (fun f fn hf hfn => by
      obtain rfl : f = 6 := Option.some.inj ((show Tryd.prog.funcNamed "gambrel/gambrellaw10.LayoutSame" = some 6 by kernel_rfl).symm.trans hf) |>.symm
      obtain rfl : fn = Tryd.f6 := (Option.some.inj (Tryd.func6.symm.trans hfn)).symm
      exact ⟨by kernel_rfl, fun j t ht => by
        rw [Tryd.params6] at ht
        have hm : t ∈ [44, 44, 24] := by simpa using Array.mem_of_getElem? ht
        have hall : ([44, 44, 24].all fun u => !Tryd.prog.wantsStandIn u) = true := by kernel_rfl
        exact (show Tryd.prog.wantsStandIn t = false by simpa using List.all_eq_true.1 hall t hm)⟩)
    (by kernel_rfl)
end Go.Proofs.YtalallkpejlclaaDoor.layoutSame
