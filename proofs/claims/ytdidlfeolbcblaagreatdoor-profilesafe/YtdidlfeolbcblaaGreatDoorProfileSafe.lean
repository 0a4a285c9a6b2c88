/- ProfileSafe: of all params that may be, the parity rows are safe. Condition: the package-level variable gambrel/profile.table holds, when the call begins, what the text of the program lays there; the card ties that to the text, over the pruned copy of the project that the seat holds. -/
import Derived.Test.YtdidlfeolbcblaaGreatDoorRows
import Derived.Test.YtdidlfeolbcblaaGreatDoorPrh
import Derived.Test.YtdidlfeolbcblaaGreatDoorPre
import Derived.Test.YtdidlfeolbcblaaGreatDoorGxv
import Derived.Test.YtdidlfeolbcblaaGreatDoorGxw
import Derived.Test.YtdidlfeolbcblaaGreatDoorGxv
import Derived.Test.YtdidlfeolbcblaaGreatDoorGxt
import Derived.Test.YtdidlfeolbcblaaGreatDoorArr
import Derived.Test.YtdidlfeolbcblaaGreatDoorCards
import Derived.Test.YtdidlfeolbcblaaGreatDoorTie
import Derived.SevenTiedAt
import Derived.ChangeMaps5
import Derived.Deep.RegionHeld3
import Derived.WalkKit
import Derived.ProofKit
import Derived.OpenShut
import Derived.ShutString
import Derived.ChangeOld
import Derived.Below
namespace Go.Proofs.YtdidlfeolbcblaaGreatDoor.profileSafe
open Go.ChangeShapes Go.WideShapes Go.ChangeAt Go.RowKit
set_option linter.unusedVariables false

theorem own : ownKnob Tryz.prog.godebug = none := by kernel_rfl
theorem laidOut : laidOutB Tryz.prog = true := by kernel_rfl

set_option maxRecDepth 100000 in
set_option maxHeartbeats 8000000 in
theorem walk (a0 b0 c0 : Int) (w : World) (w0 : (0 ≤ a0 ∧ a0 ≤ 255) ∧ (0 ≤ b0 ∧ b0 ≤ 255) ∧ 0 ≤ c0 ∧ c0 ≤ 255) (hT : Tab w) :
    Calls Tryz.prog 5 #[.agg (arr3 a0 b0 c0)] w fun e w' => e = .returned (.bool true) ∧ Below w.heap.size w w' := by
  have HA := Lib.hid w0
  obtain ⟨u, hu⟩ : ∃ u, w.alloc (.cells #[.int .u8 a0, .int .u8 b0, .int .u8 c0] T3u) = u := ⟨_, rfl⟩
  obtain ⟨s0, e0, hbu⟩ := one_box hu
  have HTU := Lib.hid (hT.below hbu)
  have HU := Lib.hid hbu
  have E0 := Lib.hid e0
  clear s0 e0 hbu hT w0
  go_enter Tryz.func5, Tryz.ntmps5
  go_wp2_with fail
  refine (awakeP _ HTU.out).mono ?_
  rintro e w1 ⟨rfl, hb1⟩
  have H1 := Lib.hid (below_tr HU.out hb1)
  have HT1 := Lib.hid (HTU.out.below hb1)
  have y1 := kept_box E0.out hb1
  clear hb1 HTU HU E0 hu
  go_wp2_with (refine wpList_load_row rfl T3u _ rfl w.heap.size rfl T3u _ (0, 0) _ y1 Tryz.underlying51 rfl size3u ?_)
  refine (some20 a0 b0 c0 HA.out.1 HA.out.2.1 HA.out.2.2 _).mono ?_
  rintro e w2 ⟨p, k, m, rfl, hX, hb2⟩
  obtain ⟨K, N, rfl, rfl, sK, sN, hs, k8, n4⟩ := hX.nat
  have HX := Lib.hid hX
  have SK := Lib.hid sK
  have SN := Lib.hid sN
  have KN := Lib.hid (And.intro k8 n4)
  obtain ⟨v, hv⟩ : ∃ v, w2.alloc (.cells #[.int .i64 p, .int .i64 K, .int .i64 N] TPa) = v := ⟨_, rfl⟩
  obtain ⟨s2, e2, hbv⟩ := one_box hv
  have H2 := Lib.hid (below_tr H1.out (below_tr hb2 hbv))
  have HT2 := Lib.hid (HT1.out.below (below_tr hb2 hbv))
  have E2 := Lib.hid e2
  obtain ⟨c0, c1, c2⟩ := box_three e2
  clear s2 e2 hbv hb2 hX sK sN hs k8 n4 H1 HT1 y1 HA
  go_wp2_with fail
  refine (par12 p K N _ HT2.out).mono ?_
  rintro e w3 ⟨t, A3, c3, g3, rfl, ht, _, hx3, hg3, hb3⟩
  obtain rfl : t = true := ht.2 HX.out
  simp only [cond, errOf, if_true, Int.toNat_natCast] at hx3 ⊢
  have X3 := Lib.hid hx3
  have H3 := Lib.hid hb3
  have HT3 := Lib.hid (HT2.out.below hb3)
  have f0 := box_at (i := 0) (x := .int .i64 p) (kept_box E2.out hb3) rfl
  clear ht hx3 hg3 hb3 c0 c1 c2
  go_wp2_with fail
  refine (field_yes p HX.out.1 _ HT3.out).mono ?_
  rintro e w4 ⟨b, rfl, hf4, hn4, hb4⟩
  have X4 := Lib.hid ((X3.out.above hn4).below hb4)
  have HL := Lib.hid (Live.start H3.out hf4 hn4 hb4)
  have HT4 := Lib.hid (HT3.out.below hb4)
  clear hf4 hn4 hb4 X3 HT3 f0
  go_wp2_with fail
  refine (safe_any (qP p) b (wdP p) N (fun _ => K) (ivs (rowsE p K N)) A3 c3 _ HL.out.1 X4.out).mono ?_
  rintro e w5 ⟨s, t, rfl, hs, ht, hf5, ht5⟩
  obtain rfl : s = true := hs.2 ⟨ivs_may _ SN.out SK.out, by have := KN.out; omega, KN.out.1⟩
  obtain rfl : t = true := ht.2 ⟨rfl, by rw [elM_ivs]; exact rows_safe HX.out⟩
  simp only [errOf, if_true]
  have HL5 := Lib.hid (HL.out.next hf5 ht5)
  obtain ⟨d0, d1, d2⟩ := box_three (kept_box E2.out HL5.out.2.1)
  have HT5 := Lib.hid (HT2.out.below HL5.out.2.1)
  clear hs ht hf5 ht5 HL X4 HT4 HT2
  go_wp2_with fail
  refine (may15 p K N _ HT5.out).mono ?_
  rintro e w6 ⟨t, rfl, ht, hb6⟩
  obtain rfl : t = true := ht.2 HX.out
  have hB := below_tr HL5.out.2.1 hb6
  have q2 := box_at (i := 2) (x := .int .i64 N) (kept_box E2.out hB) rfl
  have HE := Lib.hid (below_tr H2.out hB)
  clear ht hb6 hB d0 d1 d2 HT5 HL5 E2
  go_wp2_with fail
  go_ret
  exact ⟨rfl, HE.out⟩

set_option maxRecDepth 100000 in
theorem lifted (os : Os) (started : os.Started) (H : Type) (enc : TypeId × Value → H) :
    ReturnsInHanded {} Tryz.checked os 5 .any (fun w args => (Rows.profileSafeSpec.pre enc Tryz.prog Tryz.f5 Rows.profileSafeRow.domain false w args ∧ laidMetH Tryz.prog laidT w) ∧ sizedMet enc Tryz.prog Tryz.f5 (OpenSpec.ofChange Rows.profileSafeSpec) false w args) (Rows.profileSafeSpec.post enc Tryz.prog Tryz.f5 false true false false) := by
  refine returnsInHanded_of_change_and (C := Tryz.checked) (X := fun w _ => laidMetH Tryz.prog laidT w) (fun _ _ _ hh h => h.of_heap hh) own started (by kernel_rfl) Tryz.func5
    (ChangeSpec.witness_shaped (enc := enc) (C := Tryz.checked) (os := os) (X := fun w _ => laidMetH Tryz.prog laidT w) false (World.doorLaid Tryz.prog 400 os) #[.agg #[.int .u8 0, .int .u8 0, .int .u8 0]] 8 rfl (World.shaped_of_RefB (by kernel_rfl) (by kernel_rfl)) (by kernel_rfl) (by kernel_rfl) (by kernel_rfl) (door_met os _)) ?_
  intro W base args ds gs before hval0 hW hcnd _ hL _
  have hval : ∀ (j : Nat) t v, Tryz.f5.params[j]? = some t → args[j]? = some v → Value.okWide Tryz.prog W .any base t v := hval0
  have hW' := hW
  obtain ⟨p, q, hA0, hV, rfl, hfz, hnd⟩ := hW
  have hA : DataW.TrodAll enc Tryz.prog W 0 (fun _ => true) true Tryz.f5.params.toList args.toList ds p := hA0
  rw [Tryz.params5] at hA hval
  obtain ⟨v0, vs0, d0, ds0, p0, q0, hargs, rfl, rfl, h0, r0⟩ := trodAll_cons hA
  obtain ⟨rfl, rfl, rfl⟩ := trodAll_nil r0
  obtain rfl : args = #[v0] := by cases args; simp_all
  obtain ⟨rfl, rfl⟩ := trodVars_none hV
  obtain ⟨cs0, rfl, hsz0, _⟩ : ∃ cs, v0 = .agg cs ∧ cs.size = Tryz.prog.cellsOf 51 ∧ Row.okWide Tryz.prog W .any base 51 cs := by
    have := hval 0 51 v0 rfl rfl
    simpa [Value.okWide, Tryz.underlying51] using this
  rw [show Tryz.prog.cellsOf 51 = 3 by kernel_rfl] at hsz0
  obtain ⟨l0⟩ := cs0
  obtain ⟨e0, f0, g0, rfl⟩ := list3 l0 hsz0
  have k0 := h0
  have lt0 : ∀ x ∈ p0, x.block < W.heap.size := by obtain ⟨m, hm⟩ := k0; exact DataW.trod_lt m _ _ _ hm
  obtain ⟨fuel0, hf0⟩ := h0
  obtain ⟨a0, b0, c0, rfl, rfl, rfl, w0⟩ := three_in hf0
  clear hA0 hval0
  refine (walk a0 b0 c0 W w0 (tab_of_laid hL)).mono fun e W' ⟨he, bel⟩ => ?_
  subst he
  exact ⟨_, rfl, _, _, _, [], _, [], hW', trodAll_mk1 (shut_bool Tryz.underlying4 _), (trodAll_cons_mk (Below.trod laidOut (by kernel_rfl) (of_decide_eq_true (by kernel_rfl)) k0 bel lt0) trodAll_mk0), rfl, bel.frame _, fun h => by cases h⟩

theorem over : Rows.profileSafeRow.holds Tryz.pinned (OpenSpec.ofChange Rows.profileSafeSpec) :=
  OpenClaim.holds_of_wide 5 Tryz.f5 rfl rfl rfl rfl rfl rfl rfl ⟨rfl, rfl, rfl, rfl, rfl⟩ rfl rfl rfl rfl rfl (by kernel_rfl) Tryz.func5 (by kernel_rfl)
    (of_decide_eq_true (by kernel_rfl)) (by unfold Func.isWrapper; first | (rw [if_pos (by decide +kernel)]; kernel_rfl) | (rw [if_neg (by decide +kernel)]; exact ⟨rfl, rfl⟩))
    (fun os started H enc _ => lifted os started H enc)

theorem proved : Rows.ProfileSafeCardSaid :=
  Claim7.holds_tied_plain_at .later [] [.data] true Rows.profileSafeCard.stood.harness false
    over (fun _ h => by cases h) (by kernel_rfl) (fun _ h => by cases h) profileSafe_row_tie rfl ⟨rfl, rfl⟩ (by kernel_rfl) rfl
    (fun f fn hf hfn => by
      obtain rfl : f = 5 := Option.some.inj ((show Tryz.prog.funcNamed "gambrel/gambrellaw09.ProfileSafe" = some 5 by kernel_rfl).symm.trans hf) |>.symm
      obtain rfl : fn = Tryz.f5 := (Option.some.inj (Tryz.func5.symm.trans hfn)).symm
      exact ⟨by kernel_rfl, fun j t ht => by
        rw [Tryz.params5] at ht
        have hm : t ∈ [51] := by simpa using Array.mem_of_getElem? ht
        have hall : ([51].all fun u => !Tryz.prog.wantsStandIn u) = true := by kernel_rfl
        exact (show Tryz.prog.wantsStandIn t = false by simpa using List.all_eq_true.1 hall t hm)⟩)
    (by kernel_rfl)
end Go.Proofs.YtdidlfeolbcblaaGreatDoor.profileSafe
