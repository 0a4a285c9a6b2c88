/- LayoutJoins: for all params, any rows of bytes, and any number, what the shards are of, or that they are of nothing, is as the document says (its law asks for 12 rows of 300 bytes at most). Condition: the package-level variable gambrel/profile.table holds, when the call begins, what the text of the program lays there; the card ties that to the text, over the pruned copy of the project that the seat holds. -/
import Derived.Test.YtalallkpejlclaaDoorRows
import Derived.Test.YtalallkpejlclaaDoorPrh
import Derived.Test.YtalallkpejlclaaDoorLyj
import Derived.Test.YtalallkpejlclaaDoorLyi
import Derived.Test.YtalallkpejlclaaDoorLyk
import Derived.Test.YtalallkpejlclaaDoorGxv
import Derived.Test.YtalallkpejlclaaDoorArr
import Derived.Test.YtalallkpejlclaaDoorCards
import Derived.Test.YtalallkpejlclaaDoorTie
import Derived.SevenTiedAt
import Derived.ChangeMaps5
import Derived.Deep.RegionHeld3
import Derived.WalkKit
import Derived.ProofKit
import Derived.OpenShut
import Derived.ShutString
import Derived.ChangeOld
import Derived.Below
namespace Go.Proofs.YtalallkpejlclaaDoor.layoutJoins
open Go.ChangeShapes Go.WideShapes Go.ChangeAt Go.RowKit
set_option linter.unusedVariables false

theorem own : ownKnob Tryd.prog.godebug = none := by kernel_rfl
theorem laidOut : laidOutB Tryd.prog = true := by kernel_rfl

set_option maxRecDepth 100000 in
set_option maxHeartbeats 8000000 in
theorem walk (a0 b0 c0 : Int) (a1 : Option Addr) (len1 cap1 : Nat) (a2 : Int) (w : World) (w1 : IsRowsN w a1 len1 cap1) (w2 : (Lit.int .i64 a2).wf = true) (hT : Tab w) :
    Calls Tryd.prog 4 #[.agg (parA a0 b0 c0), .slice a1 len1 cap1, .int .i64 a2] w fun e w' => e = .returned (.bool true) ∧ Below w.heap.size w w' := by
  obtain ⟨As, Ls, Cs, F, hF, hlc, hnil, hr1, hr2⟩ := w1
  have h0 := hT.lt
  obtain ⟨v, hv⟩ : ∃ v, w.alloc (.cells #[.int .i64 a0, .int .i64 b0, .int .i64 c0] TPa) = v := ⟨_, rfl⟩
  obtain ⟨_, e0, hbv⟩ := one_box hv
  have E0 := Lib.hid e0
  have HV := Lib.hid hbv
  have HT := Lib.hid (hT.below hbv)
  have HF := Lib.hid hF
  have HR1 := Lib.hid (hr1 w.heap.size (Nat.le_refl _))
  have HR2 := Lib.hid (fun r hr => hr2 r hr w.heap.size (Nat.le_refl _))
  have HNIL := Lib.hid hnil
  clear e0 hbv hT hF hr1 hr2 hnil w2
  go_enter Tryd.func4, Tryd.ntmps4
  go_wp2_with fail
  refine (awakeL _ HT.out).mono ?_
  rintro e w1 ⟨rfl, hb1⟩
  have H1 := Lib.hid (below_tr HV.out hb1)
  have HT1 := Lib.hid (HT.out.below hb1)
  have E1 := Lib.hid (kept_box E0.out hb1)
  clear hb1 HT
  go_wp2_with fail
  refine (few15 w.heap.size As Ls Cs a1 len1 cap1 _ (HR1.out.below H1.out)).mono ?_
  rintro e w' ⟨t, rfl, ht, rfl⟩
  cases t
  · clear ht
    go_wp2_with fail
    go_ret
    exact ⟨rfl, H1.out⟩
  obtain ⟨hN, hL⟩ := ht rfl
  have HL := Lib.hid hL
  obtain ⟨d0, d1, d2⟩ := box_three E1.out
  clear ht hL
  go_wp2_with fail
  refine (join16 w.heap.size a0 b0 c0 F HF.out Ls a1 len1 cap1 (by omega) (fun r hr => by have := HL.out r hr; omega) a2 _ HT1.out ⟨As, Cs, HR1.out.below H1.out, fun r hr => (HR2.out r hr).below H1.out⟩).mono ?_
  rintro e w2 ⟨s2, t2, v2, rfl, hs2, ht2, A2, c2, rfl, _, hr2, hb2⟩
  have H2 := Lib.hid (below_tr H1.out hb2)
  have E2 := Lib.hid (kept_box E1.out hb2)
  have hp1 : 0 < w1.heap.size := Nat.lt_of_lt_of_le h0 H1.out.size
  have hp2 : 0 < w2.heap.size := Nat.lt_of_lt_of_le h0 H2.out.size
  have X2 := Lib.hid (hr2 0 hp1)
  have HS2 := Lib.hid hs2
  have HT2 := Lib.hid ht2
  clear hs2 ht2 hr2 hb2 d0 d1 d2
  obtain ⟨d0, d1, d2⟩ := box_three E2.out
  go_wp2_with fail
  refine (rjoin17 w.heap.size a0 b0 c0 F HF.out Ls As Cs a1 len1 cap1 (by omega) (fun r hr => by have := HL.out r hr; omega) a2 _ hp2 (HR1.out.below H2.out) (fun r hr => (HR2.out r hr).below H2.out) HNIL.out).mono ?_
  rintro e w3 ⟨s3, t3, v3, rfl, hs3, ht3, A3, c3, rfl, _, hr3, hb3⟩
  obtain rfl : s3 = s2 := Bool.eq_iff_iff.2 (hs3.trans HS2.out.symm)
  obtain rfl : t3 = t2 := Bool.eq_iff_iff.2 (ht3.trans HT2.out.symm)
  have H3 := Lib.hid (below_tr H2.out hb3)
  have v1 := conv_rd c2 (X2.out.below hb3)
  have v2 := conv_rd c3 (hr3 0 hp2)
  obtain ⟨x, hx⟩ : ∃ x, err3 s3 t3 = x := ⟨_, rfl⟩
  rw [hx]
  clear hs3 ht3 hr3 hb3 hx d0 d1 d2 X2 HS2 HT2
  go_wp2_with fail
  go_ret
  exact ⟨by simp, H3.out⟩

set_option maxRecDepth 100000 in
theorem lifted (os : Os) (started : os.Started) (H : Type) (enc : TypeId × Value → H) :
    ReturnsInHanded {} Tryd.checked os 4 .any (fun w args => (Rows.layoutJoinsSpec.pre enc Tryd.prog Tryd.f4 Rows.layoutJoinsRow.domain false w args ∧ laidMetH Tryd.prog laidT w) ∧ sizedMet enc Tryd.prog Tryd.f4 (OpenSpec.ofChange Rows.layoutJoinsSpec) false w args) (Rows.layoutJoinsSpec.post enc Tryd.prog Tryd.f4 false true false false) := by
  refine returnsInHanded_of_change_and (C := Tryd.checked) (X := fun w _ => laidMetH Tryd.prog laidT w) (fun _ _ _ hh h => h.of_heap hh) own started (by kernel_rfl) Tryd.func4
    (ChangeSpec.witness_shaped (enc := enc) (C := Tryd.checked) (os := os) (X := fun w _ => laidMetH Tryd.prog laidT w) false (World.doorLaid Tryd.prog 400 os) #[.agg #[.int .i64 0, .int .i64 0, .int .i64 0], .slice none 0 0, .int .i64 0] 8 rfl (World.shaped_of_RefB (by kernel_rfl) (by kernel_rfl)) (by kernel_rfl) (by kernel_rfl) (by kernel_rfl) (door_met os _)) ?_
  intro W base args ds gs before hval0 hW hcnd _ hL _
  have hval : ∀ (j : Nat) t v, Tryd.f4.params[j]? = some t → args[j]? = some v → Value.okWide Tryd.prog W .any base t v := hval0
  have hW' := hW
  obtain ⟨p, q, hA0, hV, rfl, hfz, hnd⟩ := hW
  have hA : DataW.TrodAll enc Tryd.prog W 0 (fun _ => true) true Tryd.f4.params.toList args.toList ds p := hA0
  rw [Tryd.params4] at hA hval
  obtain ⟨v0, vs0, d0, ds0, p0, q0, hargs, rfl, rfl, h0, r0⟩ := trodAll_cons hA
  obtain ⟨v1, vs1, d1, ds1, p1, q1, rfl, rfl, rfl, h1, r1⟩ := trodAll_cons r0
  obtain ⟨v2, vs2, d2, ds2, p2, q2, rfl, rfl, rfl, h2, r2⟩ := trodAll_cons r1
  obtain ⟨rfl, rfl, rfl⟩ := trodAll_nil r2
  obtain rfl : args = #[v0, v1, v2] := by cases args; simp_all
  obtain ⟨rfl, rfl⟩ := trodVars_none hV
  obtain ⟨cs0, rfl, hsz0, _⟩ : ∃ cs, v0 = .agg cs ∧ cs.size = Tryd.prog.cellsOf 23 ∧ Row.okWide Tryd.prog W .any base 23 cs := by
    have := hval 0 23 v0 rfl rfl
    simpa [Value.okWide, Tryd.underlying23] using this
  rw [show Tryd.prog.cellsOf 23 = 3 by kernel_rfl] at hsz0
  obtain ⟨l0⟩ := cs0
  obtain ⟨e0, f0, g0, rfl⟩ := list3 l0 hsz0
  have k0 := h0
  have lt0 : ∀ x ∈ p0, x.block < W.heap.size := by obtain ⟨m, hm⟩ := k0; exact DataW.trod_lt m _ _ _ hm
  obtain ⟨fuel0, hf0⟩ := h0
  obtain ⟨a0, b0, c0, rfl, rfl, rfl⟩ := params_in hf0
  obtain ⟨a1, len1, cap1, rfl⟩ := okWide_slice Tryd.underlying31 (hval 1 31 v1 rfl rfl)
  have k1 := h1
  have lt1 : ∀ x ∈ p1, x.block < W.heap.size := by obtain ⟨m, hm⟩ := k1; exact DataW.trod_lt m _ _ _ hm
  have w1 : IsRowsN W a1 len1 cap1 := by
    obtain ⟨fuel, hf⟩ := h1
    exact rowsn_in hf
  obtain ⟨a2, rfl, rfl, rfl, w2⟩ := open_int Tryd.underlying3 (hval 2 3 v2 rfl rfl) h2
  clear hA0 hval0
  refine (walk a0 b0 c0 a1 len1 cap1 a2 W w1 w2 (tab_of_laid hL)).mono fun e W' ⟨he, bel⟩ => ?_
  subst he
  exact ⟨_, rfl, _, _, _, [], _, [], hW', trodAll_mk1 (shut_bool Tryd.underlying4 _), (trodAll_cons_mk (Below.trod laidOut (by kernel_rfl) (of_decide_eq_true (by kernel_rfl)) k0 bel lt0) (trodAll_cons_mk (Below.trod laidOut (by kernel_rfl) (of_decide_eq_true (by kernel_rfl)) k1 bel lt1) (trodAll_cons_mk (shut_int Tryd.underlying3 w2) trodAll_mk0))), rfl, bel.frame _, fun h => by cases h⟩

theorem over : Rows.layoutJoinsRow.holds Tryd.pinned (OpenSpec.ofChange Rows.layoutJoinsSpec) :=
  OpenClaim.holds_of_wide 4 Tryd.f4 rfl rfl rfl rfl rfl rfl rfl ⟨rfl, rfl, rfl, rfl, rfl⟩ rfl rfl rfl rfl rfl (by kernel_rfl) Tryd.func4 (by kernel_rfl)
    (of_decide_eq_true (by kernel_rfl)) (by unfold Func.isWrapper; first | (rw [if_pos (by decide +kernel)]; kernel_rfl) | (rw [if_neg (by decide +kernel)]; exact ⟨rfl, rfl⟩))
    (fun os started H enc _ => lifted os started H enc)

theorem proved : Rows.LayoutJoinsCardSaid :=
  Claim7.holds_tied_plain_at .later [] [.data] true Rows.layoutJoinsCard.stood.harness false
    over (fun _ h => by cases h) (by kernel_rfl) (fun _ h => by cases h) layoutJoins_row_tie rfl ⟨rfl, rfl⟩ (by kernel_rfl) rfl
    (fun f fn hf hfn => by
      obtain rfl : f = 4 := Option.some.inj ((show Tryd.prog.funcNamed "gambrel/gambrellaw10.LayoutJoins" = some 4 by kernel_rfl).symm.trans hf) |>.symm
      obtain rfl : fn = Tryd.f4 := (Option.some.inj (Tryd.func4.symm.trans hfn)).symm
      exact ⟨by kernel_rfl, fun j t ht => by
        rw [Tryd.params4] at ht
        have hm : t ∈ [23, 31, 3] := by simpa using Array.mem_of_getElem? ht
        have hall : ([23, 31, 3].all fun u => !Tryd.prog.wantsStandIn u) = true := by kernel_rfl
        exact (show Tryd.prog.wantsStandIn t = false by simpa using List.all_eq_true.1 hall t hm)⟩)
    (by kernel_rfl)
end Go.Proofs.YtalallkpejlclaaDoor.layoutJoins
