/- LayoutBack: for all three bytes, and any bytes, what is split is joined, just as it was, and all shards are as long as is said (its law asks for 300 bytes at most). Condition: the package-level variable gambrel/profile.table holds, when the call begins, what the text of the program lays there; the card ties that to the text, over the pruned copy of the project that the seat holds. -/
import Derived.Test.YtalallkpejlclaaDoorRows
import Derived.Test.YtalallkpejlclaaDoorPrh
import Derived.Test.YtalallkpejlclaaDoorLyj
import Derived.Test.YtalallkpejlclaaDoorLyk
import Derived.Test.YtalallkpejlclaaDoorGxv
import Derived.Test.YtalallkpejlclaaDoorGxv
import Derived.Test.YtalallkpejlclaaDoorArr
import Derived.Test.YtalallkpejlclaaDoorCards
import Derived.Test.YtalallkpejlclaaDoorTie
import Derived.SevenTiedAt
import Derived.ChangeMaps5
import Derived.Deep.RegionHeld3
import Derived.WalkKit
import Derived.ProofKit
import Derived.OpenShut
import Derived.ShutString
import Derived.ChangeOld
import Derived.Below
namespace Go.Proofs.YtalallkpejlclaaDoor.layoutBack
open Go.ChangeShapes Go.WideShapes Go.ChangeAt Go.RowKit
set_option linter.unusedVariables false

theorem own : ownKnob Tryd.prog.godebug = none := by kernel_rfl
theorem laidOut : laidOutB Tryd.prog = true := by kernel_rfl

/-- in the law's loop -/
def BackAt (N : Nat) (w : World) (s13 : Value) (wr : World) : Prop := ∃ k : Nat, k ≤ N ∧ s13 = .int .i64 k ∧ Below w.heap.size w wr

set_option maxRecDepth 100000 in
set_option maxHeartbeats 8000000 in
theorem walk (a0 b0 c0 : Int) (a1 : Option Addr) (len1 cap1 : Nat) (w : World) (w0 : (0 ≤ a0 ∧ a0 ≤ 255) ∧ (0 ≤ b0 ∧ b0 ≤ 255) ∧ 0 ≤ c0 ∧ c0 ≤ 255) (w1 : IsBytesN w a1 len1 cap1) (hT : Tab w) :
    Calls Tryd.prog 5 #[.agg (arr3 a0 b0 c0), .slice a1 len1 cap1] w fun e w' => e = .returned (.bool true) ∧ Below w.heap.size w w' := by
  obtain ⟨f, hf, hlc, _, hr⟩ := w1
  have HA := Lib.hid w0
  have h0 := hT.lt
  have HR := Lib.hid (hr w.heap.size (Nat.le_refl _))
  have HF := Lib.hid hf
  obtain ⟨u, hu⟩ : ∃ u, w.alloc (.cells #[.int .u8 a0, .int .u8 b0, .int .u8 c0] T3u) = u := ⟨_, rfl⟩
  obtain ⟨s0, e0, hbu⟩ := one_box hu
  have HTU := Lib.hid (hT.below hbu)
  have HU := Lib.hid hbu
  have E0 := Lib.hid e0
  clear s0 e0 hbu hT w0 hr hf
  go_enter Tryd.func5, Tryd.ntmps5
  go_wp2_with fail
  refine (awakeL _ HTU.out).mono ?_
  rintro e w1 ⟨rfl, hb1⟩
  have H1 := Lib.hid (below_tr HU.out hb1)
  have HT1 := Lib.hid (HTU.out.below hb1)
  have y1 := kept_box E0.out hb1
  clear hb1 HTU HU E0 hu
  by_cases hl : 300 < len1
  · go_wp2_with fail
    go_ret
    exact ⟨rfl, H1.out⟩
  go_wp2_with (refine wpList_load_row rfl T3u _ rfl w.heap.size rfl T3u _ (0, 0) _ y1 Tryd.underlying44 rfl size3u ?_)
  refine (some20 a0 b0 c0 HA.out.1 HA.out.2.1 HA.out.2.2 _).mono ?_
  rintro e w2 ⟨p, k, m, rfl, hX, hb2⟩
  obtain ⟨K, rfl⟩ : ∃ K : Nat, k = (K : Int) := ⟨k.toNat, by have := hX.2.1; omega⟩
  have hE : szE p K m len1 = 0 := (if_pos ⟨hX, by omega⟩).trans (if_pos (by omega))
  have HE := Lib.hid hE
  have HN := Lib.hid (show splN p K m len1 = K from (if_pos hE).trans (Int.toNat_natCast K))
  have hK8 : K ≤ 8 := by have := hX.2.1; omega
  have hsm : szN p K m len1 ≤ 5000 := by
    rw [(szE_ok hX (by omega)).1]
    have h1 := szU_le (u := unitL (layI p)) (K := K) (m := aheadL (layI p) + len1) (unitL_pos _).1 (by have := hX.2.1; omega)
    have h2 := unitL_pos (layI p)
    have h3 := aheadL_le (layI p)
    omega
  obtain ⟨v, hv⟩ : ∃ v, w2.alloc (.cells #[.int .i64 p, .int .i64 K, .int .i64 m] TPa) = v := ⟨_, rfl⟩
  obtain ⟨s2, e2, hbv⟩ := one_box hv
  have H2 := Lib.hid (below_tr H1.out (below_tr hb2 hbv))
  have HT2 := Lib.hid (HT1.out.below (below_tr hb2 hbv))
  have E2 := Lib.hid e2
  obtain ⟨d0, d1, d2⟩ := box_three e2
  clear s2 e2 hbv hb2 hX hE H1 HT1 y1 HA
  go_wp2_with fail
  refine (split12 w.heap.size p K m f a1 len1 cap1 _ HT2.out (HR.out.below H2.out)).mono ?_
  rintro e w4 ⟨v4, rfl, A4, c4, rfl, _, hx4, hb4⟩
  have H4 := Lib.hid (below_tr H2.out hb4)
  have HT4 := Lib.hid (HT2.out.below hb4)
  have E4 := Lib.hid (kept_box E2.out hb4)
  have hp2 : 0 < v.heap.size := Nat.lt_of_lt_of_le h0 H2.out.size
  have hx4' := hx4 0 hp2
  have HX4 := Lib.hid hx4'
  rw [HE.out]
  clear hx4 hb4 d0 d1 d2 hx4'
  obtain ⟨d0, d1, d2⟩ := box_three E4.out
  go_wp2_with fail
  refine (join16 0 p K m (splF p (szN p K m len1) len1 f) (fun r j => laidB_lt HF.out _) (fun _ => szN p K m len1) A4 (splN p K m len1) c4 (by rw [HN.out]; omega) (fun _ _ => by omega) len1 _ HT4.out HX4.out).mono ?_
  rintro e w5 hj5
  obtain ⟨v5, rfl, A5, c5, rfl, _, hr5, hb5⟩ := join_back HE.out hj5
  have H5 := Lib.hid (below_tr H4.out hb5)
  have HT5 := Lib.hid (HT4.out.below hb5)
  have E5 := Lib.hid (kept_box E4.out hb5)
  have hp4 : 0 < w4.heap.size := Nat.lt_of_lt_of_le h0 H4.out.size
  have HR5 := Lib.hid (hr5 0 hp4)
  have HX5 := Lib.hid (HX4.out.below hb5)
  clear hj5 hr5 hb5 d0 d1 d2 HX4
  obtain ⟨d0, d1, d2⟩ := box_three E5.out
  go_wp2_with fail
  refine (size10 p K m len1 _ HT5.out).mono ?_
  rintro e w6 ⟨rfl, hb6⟩
  have H6 := Lib.hid (below_tr H5.out hb6)
  have HR6 := Lib.hid (HR5.out.below hb6)
  have HX6 := Lib.hid (HX5.out.below hb6)
  have E6 := Lib.hid (kept_box E5.out hb6)
  rw [HE.out]
  obtain ⟨S, hS⟩ : ∃ S, szN p K m len1 = S := ⟨_, rfl⟩
  rw [hS] at HX6 ⊢
  rw [HN.out] at HX6 ⊢
  obtain ⟨As, Cs, hq1, _⟩ := HX6.out
  have HQ1 := Lib.hid hq1
  clear hb6 d0 d1 d2 hS HR5 HX5 HX6 hq1 hsm
  obtain ⟨d0, d1, d2⟩ := box_three E6.out
  go_wp2_with fail
  go_loop [13] (fun s13 => ∃ k : Nat, k ≤ K ∧ s13 = .int .i64 k) (fun s13 => K - (intOf s13).toNat)
  case atStart => exact ⟨0, Nat.zero_le _, rfl⟩
  case round =>
    obtain ⟨r, hrK, rfl⟩ := hrel
    by_cases hlt : r < K
    · obtain ⟨ad, rfl, c1⟩ := HQ1.out.at_ hlt
      simp only [slis] at c1
      have hne : ((S : Int) != (S : Int)) = false := by simp
      go_wp2_with fail
      exact ⟨⟨r + 1, hlt, by go_num⟩, by simp [intOf]; omega⟩
    · obtain rfl : K = r := by omega
      have v1 := conv_rd c5 HR6.out
      have v2 := conv_rd cap1 (HR.out.below H6.out)
      go_wp2_with fail
      go_ret
      exact ⟨by simp, H6.out⟩

set_option maxRecDepth 100000 in
theorem lifted (os : Os) (started : os.Started) (H : Type) (enc : TypeId × Value → H) :
    ReturnsInHanded {} Tryd.checked os 5 .any (fun w args => (Rows.layoutBackSpec.pre enc Tryd.prog Tryd.f5 Rows.layoutBackRow.domain false w args ∧ laidMetH Tryd.prog laidT w) ∧ sizedMet enc Tryd.prog Tryd.f5 (OpenSpec.ofChange Rows.layoutBackSpec) false w args) (Rows.layoutBackSpec.post enc Tryd.prog Tryd.f5 false true false false) := by
  refine returnsInHanded_of_change_and (C := Tryd.checked) (X := fun w _ => laidMetH Tryd.prog laidT w) (fun _ _ _ hh h => h.of_heap hh) own started (by kernel_rfl) Tryd.func5
    (ChangeSpec.witness_shaped (enc := enc) (C := Tryd.checked) (os := os) (X := fun w _ => laidMetH Tryd.prog laidT w) false (World.doorLaid Tryd.prog 400 os) #[.agg #[.int .u8 0, .int .u8 0, .int .u8 0], .slice none 0 0] 8 rfl (World.shaped_of_RefB (by kernel_rfl) (by kernel_rfl)) (by kernel_rfl) (by kernel_rfl) (by kernel_rfl) (door_met os _)) ?_
  intro W base args ds gs before hval0 hW hcnd _ hL _
  have hval : ∀ (j : Nat) t v, Tryd.f5.params[j]? = some t → args[j]? = some v → Value.okWide Tryd.prog W .any base t v := hval0
  have hW' := hW
  obtain ⟨p, q, hA0, hV, rfl, hfz, hnd⟩ := hW
  have hA : DataW.TrodAll enc Tryd.prog W 0 (fun _ => true) true Tryd.f5.params.toList args.toList ds p := hA0
  rw [Tryd.params5] at hA hval
  obtain ⟨v0, vs0, d0, ds0, p0, q0, hargs, rfl, rfl, h0, r0⟩ := trodAll_cons hA
  obtain ⟨v1, vs1, d1, ds1, p1, q1, rfl, rfl, rfl, h1, r1⟩ := trodAll_cons r0
  obtain ⟨rfl, rfl, rfl⟩ := trodAll_nil r1
  obtain rfl : args = #[v0, v1] := by cases args; simp_all
  obtain ⟨rfl, rfl⟩ := trodVars_none hV
  obtain ⟨cs0, rfl, hsz0, _⟩ : ∃ cs, v0 = .agg cs ∧ cs.size = Tryd.prog.cellsOf 44 ∧ Row.okWide Tryd.prog W .any base 44 cs := by
    have := hval 0 44 v0 rfl rfl
    simpa [Value.okWide, Tryd.underlying44] using this
  rw [show Tryd.prog.cellsOf 44 = 3 by kernel_rfl] at hsz0
  obtain ⟨l0⟩ := cs0
  obtain ⟨e0, f0, g0, rfl⟩ := list3 l0 hsz0
  have k0 := h0
  have lt0 : ∀ x ∈ p0, x.block < W.heap.size := by obtain ⟨m, hm⟩ := k0; exact DataW.trod_lt m _ _ _ hm
  obtain ⟨fuel0, hf0⟩ := h0
  obtain ⟨a0, b0, c0, rfl, rfl, rfl, w0⟩ := three_in hf0
  obtain ⟨a1, len1, cap1, rfl⟩ := okWide_slice Tryd.underlying24 (hval 1 24 v1 rfl rfl)
  have k1 := h1
  have lt1 : ∀ x ∈ p1, x.block < W.heap.size := by obtain ⟨m, hm⟩ := k1; exact DataW.trod_lt m _ _ _ hm
  have w1 : IsBytesN W a1 len1 cap1 := by
    obtain ⟨fuel, hf⟩ := h1
    exact bytesn_in hf
  clear hA0 hval0
  refine (walk a0 b0 c0 a1 len1 cap1 W w0 w1 (tab_of_laid hL)).mono fun e W' ⟨he, bel⟩ => ?_
  subst he
  exact ⟨_, rfl, _, _, _, [], _, [], hW', trodAll_mk1 (shut_bool Tryd.underlying4 _), (trodAll_cons_mk (Below.trod laidOut (by kernel_rfl) (of_decide_eq_true (by kernel_rfl)) k0 bel lt0) (trodAll_cons_mk (Below.trod laidOut (by kernel_rfl) (of_decide_eq_true (by kernel_rfl)) k1 bel lt1) trodAll_mk0)), rfl, bel.frame _, fun h => by cases h⟩

theorem over : Rows.layoutBackRow.holds Tryd.pinned (OpenSpec.ofChange Rows.layoutBackSpec) :=
  OpenClaim.holds_of_wide 5 Tryd.f5 rfl rfl rfl rfl rfl rfl rfl ⟨rfl, rfl, rfl, rfl, rfl⟩ rfl rfl rfl rfl rfl (by kernel_rfl) Tryd.func5 (by kernel_rfl)
    (of_decide_eq_true (by kernel_rfl)) (by unfold Func.isWrapper; first | (rw [if_pos (by decide +kernel)]; kernel_rfl) | (rw [if_neg (by decide +kernel)]; exact ⟨rfl, rfl⟩))
    (fun os started H enc _ => lifted os started H enc)

theorem proved : Rows.LayoutBackCardSaid :=
  Claim7.holds_tied_plain_at .later [] [.data] true Rows.layoutBackCard.stood.harness false
    over (fun _ h => by cases h) (by kernel_rfl) (fun _ h => by cases h) layoutBack_row_tie rfl ⟨rfl, rfl⟩ (by kernel_rfl) rfl
    (fun f fn hf hfn => by
      obtain rfl : f = 5 := Option.some.inj ((show Tryd.prog.funcNamed "gambrel/gambrellaw10.LayoutBack" = some 5 by kernel_rfl).symm.trans hf) |>.symm
      obtain rfl : fn = Tryd.f5 := (Option.some.inj (Tryd.func5.symm.trans hfn)).symm
      exact ⟨by kernel_rfl, fun j t ht => by
        rw [Tryd.params5] at ht
        have hm : t ∈ [44, 24] := by simpa using Array.mem_of_getElem? ht
        have hall : ([44, 24].all fun u => !Tryd.prog.wantsStandIn u) = true := by kernel_rfl
        exact (show Tryd.prog.wantsStandIn t = false by simpa using List.all_eq_true.1 hall t hm)⟩)
    (by kernel_rfl)
end Go.Proofs.YtalallkpejlclaaDoor.layoutBack
