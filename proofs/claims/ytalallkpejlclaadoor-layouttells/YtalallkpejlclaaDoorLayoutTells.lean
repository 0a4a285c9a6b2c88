/- LayoutTells: for all params, any number, and any bytes, how many bytes a shard has and what the bytes are, split, are as the document says (its law asks for 300 bytes at most). Condition: the package-level variable gambrel/profile.table holds, when the call begins, what the text of the program lays there; the card ties that to the text, over the pruned copy of the project that the seat holds. -/
import Derived.Test.YtalallkpejlclaaDoorRows
import Derived.Test.YtalallkpejlclaaDoorPrh
import Derived.Test.YtalallkpejlclaaDoorLyg
import Derived.Test.YtalallkpejlclaaDoorLyj
import Derived.Test.YtalallkpejlclaaDoorLyk
import Derived.Test.YtalallkpejlclaaDoorGxv
import Derived.Test.YtalallkpejlclaaDoorArr
import Derived.Test.YtalallkpejlclaaDoorCards
import Derived.Test.YtalallkpejlclaaDoorTie
import Derived.SevenTiedAt
import Derived.ChangeMaps5
import Derived.Deep.RegionHeld3
import Derived.WalkKit
import Derived.ProofKit
import Derived.OpenShut
import Derived.ShutString
import Derived.ChangeOld
import Derived.Below
namespace Go.Proofs.YtalallkpejlclaaDoor.layoutTells
open Go.ChangeShapes Go.WideShapes Go.ChangeAt Go.RowKit
set_option linter.unusedVariables false

theorem own : ownKnob Tryd.prog.godebug = none := by kernel_rfl
theorem laidOut : laidOutB Tryd.prog = true := by kernel_rfl

set_option maxRecDepth 100000 in
set_option maxHeartbeats 8000000 in
theorem walk (a0 b0 c0 : Int) (a1 : Int) (a2 : Option Addr) (len2 cap2 : Nat) (w : World) (w1 : (Lit.int .i64 a1).wf = true) (w2 : IsBytesN w a2 len2 cap2) (hT : Tab w) :
    Calls Tryd.prog 3 #[.agg (parA a0 b0 c0), .int .i64 a1, .slice a2 len2 cap2] w fun e w' => e = .returned (.bool true) ∧ Below w.heap.size w w' := by
  obtain ⟨f, hf, hlc, hnil, hr⟩ := w2
  have hr0 := hr w.heap.size (Nat.le_refl _)
  have h0 := hT.lt
  obtain ⟨v, hv⟩ : ∃ v, w.alloc (.cells #[.int .i64 a0, .int .i64 b0, .int .i64 c0] TPa) = v := ⟨_, rfl⟩
  obtain ⟨_, e0, hbv⟩ := one_box hv
  have E0 := Lib.hid e0
  have HV := Lib.hid hbv
  have HT := Lib.hid (hT.below hbv)
  have HR := Lib.hid hr0
  have HF := Lib.hid hf
  have HNIL := Lib.hid hnil
  clear e0 hbv hT hr hr0 hf hnil w1
  go_enter Tryd.func3, Tryd.ntmps3
  go_wp2_with fail
  refine (awakeL _ HT.out).mono ?_
  rintro e w1 ⟨rfl, hb1⟩
  have H1 := Lib.hid (below_tr HV.out hb1)
  have HT1 := Lib.hid (HT.out.below hb1)
  have E1 := Lib.hid (kept_box E0.out hb1)
  clear hb1 HT
  by_cases hl : 300 < len2
  · go_wp2_with fail
    go_ret
    exact ⟨rfl, H1.out⟩
  obtain ⟨d0, d1, d2⟩ := box_three E1.out
  go_wp2_with fail
  refine (size10 a0 b0 c0 a1 _ HT1.out).mono ?_
  rintro e w2 ⟨rfl, hb2⟩
  have H2 := Lib.hid (below_tr H1.out hb2)
  have HT2 := Lib.hid (HT1.out.below hb2)
  have E2 := Lib.hid (kept_box E1.out hb2)
  clear hb2 d0 d1 d2
  obtain ⟨d0, d1, d2⟩ := box_three E2.out
  go_wp2_with fail
  refine (rsize11 a0 b0 c0 a1 _).mono ?_
  rintro e w3 ⟨rfl, hb3⟩
  have H3 := Lib.hid (below_tr H2.out hb3)
  have HT3 := Lib.hid (HT2.out.below hb3)
  have E3 := Lib.hid (kept_box E2.out hb3)
  obtain ⟨s, hs⟩ : ∃ s, szN a0 b0 c0 a1 = s := ⟨_, rfl⟩
  obtain ⟨t, ht⟩ : ∃ t, szE a0 b0 c0 a1 = t := ⟨_, rfl⟩
  rw [hs, ht]
  clear hb3 d0 d1 d2 hs ht
  obtain ⟨d0, d1, d2⟩ := box_three E3.out
  go_wp2_with fail
  refine (split12 w.heap.size a0 b0 c0 f a2 len2 cap2 _ HT3.out (HR.out.below H3.out)).mono ?_
  rintro e w4 ⟨v4, rfl, A4, c4, rfl, _, hx4, hb4⟩
  have H4 := Lib.hid (below_tr H3.out hb4)
  have E4 := Lib.hid (kept_box E3.out hb4)
  have hp3 : 0 < w3.heap.size := Nat.lt_of_lt_of_le h0 H3.out.size
  have HX4 := Lib.hid (hx4 0 hp3)
  clear hx4 hb4 d0 d1 d2
  obtain ⟨d0, d1, d2⟩ := box_three E4.out
  have hp4 : 0 < w4.heap.size := Nat.lt_of_lt_of_le h0 H4.out.size
  go_wp2_with fail
  refine (rsplit13 w.heap.size a0 b0 c0 f HF.out a2 len2 cap2 HNIL.out _ hp4 (HR.out.below H4.out)).mono ?_
  rintro e w5 ⟨v5, rfl, A5, c5, rfl, _, hx5, hb5⟩
  have H5 := Lib.hid (below_tr H4.out hb5)
  have HX5 := Lib.hid (hx5 0 hp4)
  have hN : splN a0 b0 c0 len2 ≤ 100000 := by
    unfold splN
    split
    · rename_i h
      obtain ⟨K, rfl, _, _, _, _⟩ := sz_ok h
      omega
    · omega
  have HC := Lib.hid (rsame14 0 0 _ _ (fun r j => laidB_lt HF.out _) (fun r j => laidB_lt HF.out _) (fun _ => szN a0 b0 c0 len2) (fun _ => szN a0 b0 c0 len2) A4 A5 _ _ c4 c5 hN _ (HX4.out.below hb5) HX5.out)
  have HSP := Lib.hid (show sameP (splN a0 b0 c0 len2) (splN a0 b0 c0 len2) (fun _ => szN a0 b0 c0 len2) (fun _ => szN a0 b0 c0 len2) (splF a0 (szN a0 b0 c0 len2) len2 f) (splF a0 (szN a0 b0 c0 len2) len2 f) from ⟨rfl, fun _ _ => ⟨rfl, fun _ _ => rfl⟩⟩)
  obtain ⟨x, hx⟩ : ∃ x, szE a0 b0 c0 len2 = x := ⟨_, rfl⟩
  rw [hx]
  clear hx hx5 hb5 d0 d1 d2 HX4 HX5
  go_wp2_with fail
  refine HC.out.mono ?_
  rintro e w6 ⟨t6, rfl, ht6, hb6⟩
  obtain rfl : t6 = true := ht6.2 HSP.out
  have H6 := Lib.hid (below_tr H5.out hb6)
  clear ht6 hb6
  go_wp2_with fail
  go_ret
  exact ⟨rfl, H6.out⟩

set_option maxRecDepth 100000 in
theorem lifted (os : Os) (started : os.Started) (H : Type) (enc : TypeId × Value → H) :
    ReturnsInHanded {} Tryd.checked os 3 .any (fun w args => (Rows.layoutTellsSpec.pre enc Tryd.prog Tryd.f3 Rows.layoutTellsRow.domain false w args ∧ laidMetH Tryd.prog laidT w) ∧ sizedMet enc Tryd.prog Tryd.f3 (OpenSpec.ofChange Rows.layoutTellsSpec) false w args) (Rows.layoutTellsSpec.post enc Tryd.prog Tryd.f3 false true false false) := by
  refine returnsInHanded_of_change_and (C := Tryd.checked) (X := fun w _ => laidMetH Tryd.prog laidT w) (fun _ _ _ hh h => h.of_heap hh) own started (by kernel_rfl) Tryd.func3
    (ChangeSpec.witness_shaped (enc := enc) (C := Tryd.checked) (os := os) (X := fun w _ => laidMetH Tryd.prog laidT w) false (World.doorLaid Tryd.prog 400 os) #[.agg #[.int .i64 0, .int .i64 0, .int .i64 0], .int .i64 0, .slice none 0 0] 8 rfl (World.shaped_of_RefB (by kernel_rfl) (by kernel_rfl)) (by kernel_rfl) (by kernel_rfl) (by kernel_rfl) (door_met os _)) ?_
  intro W base args ds gs before hval0 hW hcnd _ hL _
  have hval : ∀ (j : Nat) t v, Tryd.f3.params[j]? = some t → args[j]? = some v → Value.okWide Tryd.prog W .any base t v := hval0
  have hW' := hW
  obtain ⟨p, q, hA0, hV, rfl, hfz, hnd⟩ := hW
  have hA : DataW.TrodAll enc Tryd.prog W 0 (fun _ => true) true Tryd.f3.params.toList args.toList ds p := hA0
  rw [Tryd.params3] at hA hval
  obtain ⟨v0, vs0, d0, ds0, p0, q0, hargs, rfl, rfl, h0, r0⟩ := trodAll_cons hA
  obtain ⟨v1, vs1, d1, ds1, p1, q1, rfl, rfl, rfl, h1, r1⟩ := trodAll_cons r0
  obtain ⟨v2, vs2, d2, ds2, p2, q2, rfl, rfl, rfl, h2, r2⟩ := trodAll_cons r1
  obtain ⟨rfl, rfl, rfl⟩ := trodAll_nil r2
  obtain rfl : args = #[v0, v1, v2] := by cases args; simp_all
  obtain ⟨rfl, rfl⟩ := trodVars_none hV
  obtain ⟨cs0, rfl, hsz0, _⟩ : ∃ cs, v0 = .agg cs ∧ cs.size = Tryd.prog.cellsOf 23 ∧ Row.okWide Tryd.prog W .any base 23 cs := by
    have := hval 0 23 v0 rfl rfl
    simpa [Value.okWide, Tryd.underlying23] using this
  rw [show Tryd.prog.cellsOf 23 = 3 by kernel_rfl] at hsz0
  obtain ⟨l0⟩ := cs0
  obtain ⟨e0, f0, g0, rfl⟩ := list3 l0 hsz0
  have k0 := h0
  have lt0 : ∀ x ∈ p0, x.block < W.heap.size := by obtain ⟨m, hm⟩ := k0; exact DataW.trod_lt m _ _ _ hm
  obtain ⟨fuel0, hf0⟩ := h0
  obtain ⟨a0, b0, c0, rfl, rfl, rfl⟩ := params_in hf0
  obtain ⟨a1, rfl, rfl, rfl, w1⟩ := open_int Tryd.underlying3 (hval 1 3 v1 rfl rfl) h1
  obtain ⟨a2, len2, cap2, rfl⟩ := okWide_slice Tryd.underlying24 (hval 2 24 v2 rfl rfl)
  have k2 := h2
  have lt2 : ∀ x ∈ p2, x.block < W.heap.size := by obtain ⟨m, hm⟩ := k2; exact DataW.trod_lt m _ _ _ hm
  have w2 : IsBytesN W a2 len2 cap2 := by
    obtain ⟨fuel, hf⟩ := h2
    exact bytesn_in hf
  clear hA0 hval0
  refine (walk a0 b0 c0 a1 a2 len2 cap2 W w1 w2 (tab_of_laid hL)).mono fun e W' ⟨he, bel⟩ => ?_
  subst he
  exact ⟨_, rfl, _, _, _, [], _, [], hW', trodAll_mk1 (shut_bool Tryd.underlying4 _), (trodAll_cons_mk (Below.trod laidOut (by kernel_rfl) (of_decide_eq_true (by kernel_rfl)) k0 bel lt0) (trodAll_cons_mk (shut_int Tryd.underlying3 w1) (trodAll_cons_mk (Below.trod laidOut (by kernel_rfl) (of_decide_eq_true (by kernel_rfl)) k2 bel lt2) trodAll_mk0))), rfl, bel.frame _, fun h => by cases h⟩

theorem over : Rows.layoutTellsRow.holds Tryd.pinned (OpenSpec.ofChange Rows.layoutTellsSpec) :=
  OpenClaim.holds_of_wide 3 Tryd.f3 rfl rfl rfl rfl rfl rfl rfl ⟨rfl, rfl, rfl, rfl, rfl⟩ rfl rfl rfl rfl rfl (by kernel_rfl) Tryd.func3 (by kernel_rfl)
    (of_decide_eq_true (by kernel_rfl)) (by unfold Func.isWrapper; first | (rw [if_pos (by decide +kernel)]; kernel_rfl) | (rw [if_neg (by decide +kernel)]; exact ⟨rfl, rfl⟩))
    (fun os started H enc _ => lifted os started H enc)

theorem proved : Rows.LayoutTellsCardSaid :=
  Claim7.holds_tied_plain_at .later [] [.data] true Rows.layoutTellsCard.stood.harness false
    over (fun _ h => by cases h) (by kernel_rfl) (fun _ h => by cases h) layoutTells_row_tie rfl ⟨rfl, rfl⟩ (by kernel_rfl) rfl
    (fun f fn hf hfn => by
      obtain rfl : f = 3 := Option.some.inj ((show Tryd.prog.funcNamed "gambrel/gambrellaw10.LayoutTells" = some 3 by kernel_rfl).symm.trans hf) |>.symm
      obtain rfl : fn = Tryd.f3 := (Option.some.inj (Tryd.func3.symm.trans hfn)).symm
      exact ⟨by kernel_rfl, fun j t ht => by
        rw [Tryd.params3] at ht
        have hm : t ∈ [23, 3, 24] := by simpa using Array.mem_of_getElem? ht
        have hall : ([23, 3, 24].all fun u => !Tryd.prog.wantsStandIn u) = true := by kernel_rfl
        exact (show Tryd.prog.wantsStandIn t = false by simpa using List.all_eq_true.1 hall t hm)⟩)
    (by kernel_rfl)
end Go.Proofs.YtalallkpejlclaaDoor.layoutTells
