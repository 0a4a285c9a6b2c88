/- CodecEncodes: for all params and any bytes, all shards of them are as the document says (its law asks for 300 bytes at most). Condition: the package-level variable gambrel/profile.table holds, when the call begins, what the text of the program lays there; the card ties that to the text, over the pruned copy of the project that the seat holds. -/
import Derived.Test.YtgbipbcejjlpiaaGreatDoorRows
import Derived.Test.YtgbipbcejjlpiaaGreatDoorPrh
import Derived.Test.YtgbipbcejjlpiaaGreatDoorGyd
import Derived.Test.YtgbipbcejjlpiaaGreatDoorGyb
import Derived.Test.YtgbipbcejjlpiaaGreatDoorGxx
import Derived.Test.YtgbipbcejjlpiaaGreatDoorGxv
import Derived.Test.YtgbipbcejjlpiaaGreatDoorArr
import Derived.Test.YtgbipbcejjlpiaaGreatDoorCards
import Derived.Test.YtgbipbcejjlpiaaGreatDoorTie
import Derived.SevenTiedAt
import Derived.ChangeMaps5
import Derived.Deep.RegionHeld3
import Derived.WalkKit
import Derived.ProofKit
import Derived.OpenShut
import Derived.ShutString
import Derived.ChangeOld
import Derived.Below
namespace Go.Proofs.YtgbipbcejjlpiaaGreatDoor.codecEncodes
open Go.ChangeShapes Go.WideShapes Go.ChangeAt Go.RowKit
set_option linter.unusedVariables false

theorem own : ownKnob Tryz.prog.godebug = none := by kernel_rfl
theorem laidOut : laidOutB Tryz.prog = true := by kernel_rfl

set_option maxRecDepth 100000 in
set_option maxHeartbeats 8000000 in
theorem walk (a0 b0 c0 : Int) (a1 : Option Addr) (len1 cap1 : Nat) (w : World) (w1 : IsBytesN w a1 len1 cap1) (hT : Tab w) :
    Calls Tryz.prog 4 #[.agg (parA a0 b0 c0), .slice a1 len1 cap1] w fun e w' => e = .returned (.bool true) ∧ Below w.heap.size w w' := by
  obtain ⟨f, hf, _, hnil, hr⟩ := w1
  obtain ⟨v, hv⟩ : ∃ v, w.alloc (.cells #[.int .i64 a0, .int .i64 b0, .int .i64 c0] TPa) = v := ⟨_, rfl⟩
  obtain ⟨s0, e0, hbv⟩ := one_box hv
  have E0 := Lib.hid e0
  have HV := Lib.hid hbv
  have HT := Lib.hid (hT.below hbv)
  have HF := Lib.hid hf
  have HR := Lib.hid (hr w.heap.size (Nat.le_refl _))
  have HNIL := Lib.hid hnil
  have HS0 := Lib.hid (show w.heap.size < v.heap.size by omega)
  clear e0 hbv hT hf hr hnil s0
  go_enter Tryz.func4, Tryz.ntmps4
  go_wp2_with fail
  refine (awakeK _ HT.out).mono ?_
  rintro e w1 ⟨rfl, hb1⟩
  have H1 := Lib.hid (below_tr HV.out hb1)
  have HT1 := Lib.hid (HT.out.below hb1)
  have E1 := Lib.hid (kept_box E0.out hb1)
  have HS1 := Lib.hid (Nat.lt_of_lt_of_le HS0.out hb1.size)
  clear hb1 HT
  by_cases hl : 300 < len1
  · go_wp2_with fail
    go_ret
    exact ⟨rfl, H1.out⟩
  obtain ⟨d0, d1, d2⟩ := box_three E1.out
  go_wp2_with fail
  refine (enc16 w.heap.size a0 b0 c0 f HF.out a1 len1 cap1 (by omega) _ HT1.out (HR.out.below H1.out)).mono ?_
  rintro e w2 ⟨v2, rfl, A2, c2, rfl, _, hx2, hb2⟩
  have H2 := Lib.hid (below_tr H1.out hb2)
  have E2 := Lib.hid (kept_box E1.out hb2)
  have HS2 := Lib.hid (Nat.lt_of_lt_of_le HS1.out hb2.size)
  have HX2 := Lib.hid (hx2 w.heap.size HS1.out)
  clear hb2 hx2 d0 d1 d2
  obtain ⟨d0, d1, d2⟩ := box_three E2.out
  go_wp2_with fail
  refine (renc17 w.heap.size a0 b0 c0 f HF.out a1 len1 cap1 (by omega) HNIL.out _ HS2.out (HR.out.below H2.out)).mono ?_
  rintro e w3 ⟨v3, rfl, A3, c3, rfl, _, hx3, hb3⟩
  have H3 := Lib.hid (below_tr H2.out hb3)
  have hN : encN a0 b0 c0 len1 ≤ 100000 := by
    unfold encN
    split
    · rename_i h
      obtain ⟨K, rfl, _, k8, _, hX⟩ := sz_ok h
      have := (max_pos hX.1).2
      have := hX.2.2.2
      rw [Int.toNat_natCast]
      omega
    · omega
  have HC := Lib.hid (rsame14 w.heap.size w.heap.size _ _ (fun r j => encF_lt HF.out r j) (fun r j => encF_lt HF.out r j) _ _ A2 A3 _ _ c2 c3 hN _ (HX2.out.below hb3) (hx3 w.heap.size HS2.out))
  obtain ⟨x, hx⟩ : ∃ x, szE a0 b0 c0 len1 = x := ⟨_, rfl⟩
  rw [hx]
  clear hx hx3 hb3 d0 d1 d2 HX2 hN
  go_wp2_with fail
  refine HC.out.mono ?_
  rintro e w6 ⟨t6, rfl, ht6, hb6⟩
  obtain rfl : t6 = true := ht6.2 ⟨rfl, fun _ _ => ⟨rfl, fun _ _ => rfl⟩⟩
  have H6 := Lib.hid (below_tr H3.out hb6)
  clear ht6 hb6
  go_wp2_with fail
  go_ret
  exact ⟨rfl, H6.out⟩

set_option maxRecDepth 100000 in
theorem lifted (os : Os) (started : os.Started) (H : Type) (enc : TypeId × Value → H) :
    ReturnsInHanded {} Tryz.checked os 4 .any (fun w args => (Rows.codecEncodesSpec.pre enc Tryz.prog Tryz.f4 Rows.codecEncodesRow.domain false w args ∧ laidMetH Tryz.prog laidT w) ∧ sizedMet enc Tryz.prog Tryz.f4 (OpenSpec.ofChange Rows.codecEncodesSpec) false w args) (Rows.codecEncodesSpec.post enc Tryz.prog Tryz.f4 false true false false) := by
  refine returnsInHanded_of_change_and (C := Tryz.checked) (X := fun w _ => laidMetH Tryz.prog laidT w) (fun _ _ _ hh h => h.of_heap hh) own started (by kernel_rfl) Tryz.func4
    (ChangeSpec.witness_shaped (enc := enc) (C := Tryz.checked) (os := os) (X := fun w _ => laidMetH Tryz.prog laidT w) false (World.doorLaid Tryz.prog 400 os) #[.agg #[.int .i64 0, .int .i64 0, .int .i64 0], .slice none 0 0] 8 rfl (World.shaped_of_RefB (by kernel_rfl) (by kernel_rfl)) (by kernel_rfl) (by kernel_rfl) (by kernel_rfl) (door_met os _)) ?_
  intro W base args ds gs before hval0 hW hcnd _ hL _
  have hval : ∀ (j : Nat) t v, Tryz.f4.params[j]? = some t → args[j]? = some v → Value.okWide Tryz.prog W .any base t v := hval0
  have hW' := hW
  obtain ⟨p, q, hA0, hV, rfl, hfz, hnd⟩ := hW
  have hA : DataW.TrodAll enc Tryz.prog W 0 (fun _ => true) true Tryz.f4.params.toList args.toList ds p := hA0
  rw [Tryz.params4] at hA hval
  obtain ⟨v0, vs0, d0, ds0, p0, q0, hargs, rfl, rfl, h0, r0⟩ := trodAll_cons hA
  obtain ⟨v1, vs1, d1, ds1, p1, q1, rfl, rfl, rfl, h1, r1⟩ := trodAll_cons r0
  obtain ⟨rfl, rfl, rfl⟩ := trodAll_nil r1
  obtain rfl : args = #[v0, v1] := by cases args; simp_all
  obtain ⟨rfl, rfl⟩ := trodVars_none hV
  obtain ⟨cs0, rfl, hsz0, _⟩ : ∃ cs, v0 = .agg cs ∧ cs.size = Tryz.prog.cellsOf 23 ∧ Row.okWide Tryz.prog W .any base 23 cs := by
    have := hval 0 23 v0 rfl rfl
    simpa [Value.okWide, Tryz.underlying23] using this
  rw [show Tryz.prog.cellsOf 23 = 3 by kernel_rfl] at hsz0
  obtain ⟨l0⟩ := cs0
  obtain ⟨e0, f0, g0, rfl⟩ := list3 l0 hsz0
  have k0 := h0
  have lt0 : ∀ x ∈ p0, x.block < W.heap.size := by obtain ⟨m, hm⟩ := k0; exact DataW.trod_lt m _ _ _ hm
  obtain ⟨fuel0, hf0⟩ := h0
  obtain ⟨a0, b0, c0, rfl, rfl, rfl⟩ := params_in hf0
  obtain ⟨a1, len1, cap1, rfl⟩ := okWide_slice Tryz.underlying34 (hval 1 34 v1 rfl rfl)
  have k1 := h1
  have lt1 : ∀ x ∈ p1, x.block < W.heap.size := by obtain ⟨m, hm⟩ := k1; exact DataW.trod_lt m _ _ _ hm
  have w1 : IsBytesN W a1 len1 cap1 := by
    obtain ⟨fuel, hf⟩ := h1
    exact bytesn_in hf
  clear hA0 hval0
  refine (walk a0 b0 c0 a1 len1 cap1 W w1 (tab_of_laid hL)).mono fun e W' ⟨he, bel⟩ => ?_
  subst he
  exact ⟨_, rfl, _, _, _, [], _, [], hW', trodAll_mk1 (shut_bool Tryz.underlying4 _), (trodAll_cons_mk (Below.trod laidOut (by kernel_rfl) (of_decide_eq_true (by kernel_rfl)) k0 bel lt0) (trodAll_cons_mk (Below.trod laidOut (by kernel_rfl) (of_decide_eq_true (by kernel_rfl)) k1 bel lt1) trodAll_mk0)), rfl, bel.frame _, fun h => by cases h⟩

theorem over : Rows.codecEncodesRow.holds Tryz.pinned (OpenSpec.ofChange Rows.codecEncodesSpec) :=
  OpenClaim.holds_of_wide 4 Tryz.f4 rfl rfl rfl rfl rfl rfl rfl ⟨rfl, rfl, rfl, rfl, rfl⟩ rfl rfl rfl rfl rfl (by kernel_rfl) Tryz.func4 (by kernel_rfl)
    (of_decide_eq_true (by kernel_rfl)) (by unfold Func.isWrapper; first | (rw [if_pos (by decide +kernel)]; kernel_rfl) | (rw [if_neg (by decide +kernel)]; exact ⟨rfl, rfl⟩))
    (fun os started H enc _ => lifted os started H enc)

theorem proved : Rows.CodecEncodesCardSaid :=
  Claim7.holds_tied_plain_at .later [] [.data] true Rows.codecEncodesCard.stood.harness false
    over (fun _ h => by cases h) (by kernel_rfl) (fun _ h => by cases h) codecEncodes_row_tie rfl ⟨rfl, rfl⟩ (by kernel_rfl) rfl
    (fun f fn hf hfn => by
      obtain rfl : f = 4 := Option.some.inj ((show Tryz.prog.funcNamed "gambrel/gambrellaw11.CodecEncodes" = some 4 by kernel_rfl).symm.trans hf) |>.symm
      obtain rfl : fn = Tryz.f4 := (Option.some.inj (Tryz.func4.symm.trans hfn)).symm
      exact ⟨by kernel_rfl, fun j t ht => by
        rw [Tryz.params4] at ht
        have hm : t ∈ [23, 34] := by simpa using Array.mem_of_getElem? ht
        have hall : ([23, 34].all fun u => !Tryz.prog.wantsStandIn u) = true := by kernel_rfl
        exact (show Tryz.prog.wantsStandIn t = false by simpa using List.all_eq_true.1 hall t hm)⟩)
    (by kernel_rfl)
end Go.Proofs.YtgbipbcejjlpiaaGreatDoor.codecEncodes
