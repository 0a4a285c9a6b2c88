/- Layer 12: what any shards are with any other data shard is what the document says, for all inputs. Condition: the package-level variable gambrel/profile.table holds, when the call begins, what the text of the program lays there; the card ties that to the text, over the pruned copy of the project that the seat holds. -/
import Derived.Test.YtgdgimknnjbieaaGreatDoorRows
import Derived.Test.YtgdgimknnjbieaaGreatDoorPrh
import Derived.Test.YtgdgimknnjbieaaGreatDoorRci
import Derived.Test.YtgdgimknnjbieaaGreatDoorGrg
import Derived.Test.YtgdgimknnjbieaaGreatDoorGrg
import Derived.Test.YtgdgimknnjbieaaGreatDoorArr
import Derived.Test.YtgdgimknnjbieaaGreatDoorGxx
import Derived.Test.YtgdgimknnjbieaaGreatDoorGxv
import Derived.Test.YtgdgimknnjbieaaGreatDoorCards
import Derived.Test.YtgdgimknnjbieaaGreatDoorTie
import Derived.SevenTiedAt
import Derived.ChangeMaps5
import Derived.Deep.RegionHeld3
import Derived.WalkKit
import Derived.ProofKit
import Derived.OpenShut
import Derived.ShutString
import Derived.ChangeOld
import Derived.Below
namespace Go.Proofs.YtgdgimknnjbieaaGreatDoor.reconUpdates
open Go.ChangeShapes Go.WideShapes Go.ChangeAt Go.RowKit
set_option linter.unusedVariables false

theorem own : ownKnob Tryz.prog.godebug = none := by kernel_rfl
theorem laidOut : laidOutB Tryz.prog = true := by kernel_rfl

set_option maxRecDepth 100000 in
set_option maxHeartbeats 8000000 in
theorem walk (a0 b0 c0 : Int) (a1 : Option Addr) (len1 cap1 : Nat) (i2 : Int) (a2 : Option Addr) (len2 cap2 : Nat) (w : World) (w1 : IsRowsN w a1 len1 cap1) (w2 : (Lit.int .i64 i2).wf = true) (x2 : IsBytesN w a2 len2 cap2) (hT : Tab w) :
    Calls Tryz.prog 4 #[.agg (parA a0 b0 c0), .slice a1 len1 cap1, .agg #[.int .i64 i2, .slice a2 len2 cap2]] w fun e w' => e = .returned (.bool true) ∧ Below w.heap.size w w' := by
  obtain ⟨As, Ls, Cs, F, hF, _, _, hr1, hr2⟩ := w1
  obtain ⟨f, hf, _, _, hx⟩ := x2
  obtain ⟨v, hv⟩ : ∃ v, (w.alloc (.cells #[.int .i64 a0, .int .i64 b0, .int .i64 c0] TPa)).alloc (.cells #[.int .i64 i2, .slice a2 len2 cap2] 37) = v := ⟨_, rfl⟩
  obtain ⟨s0, e0, e1, hbv⟩ := two_boxes hv
  have E0 := Lib.hid e0
  have E1 := Lib.hid e1
  have HV := Lib.hid hbv
  have HT := Lib.hid (hT.below hbv)
  have HF := Lib.hid hF
  have Hf := Lib.hid hf
  have HR1 := Lib.hid (hr1 w.heap.size (Nat.le_refl _))
  have HR2 := Lib.hid (fun r hr => hr2 r hr w.heap.size (Nat.le_refl _))
  have HH := Lib.hid (hx w.heap.size (Nat.le_refl _))
  have HS0 := Lib.hid (show w.heap.size < v.heap.size by omega)
  have l0 := box_at (i := 0) (x := .int .i64 i2) e1 rfl
  have l1 := box_at (i := 1) (x := .slice a2 len2 cap2) e1 rfl
  clear e0 e1 hbv hT hF hr1 hr2 hx hf s0 w2
  go_enter Tryz.func4, Tryz.ntmps4
  go_wp2_with fail
  refine (awakeQ _ HT.out).mono ?_
  rintro e w1 ⟨rfl, hb1⟩
  have V1 := Lib.hid (show Below v.heap.size v w1 from hb1)
  have H1 := Lib.hid (below_tr HV.out hb1)
  have HT1 := Lib.hid (HT.out.below hb1)
  have HS1 := Lib.hid (Nat.lt_of_lt_of_le HS0.out hb1.size)
  clear hb1 HT l0 l1
  have l0 := box_at (i := 0) (x := .int .i64 i2) (kept_box E1.out V1.out) rfl
  have l1 := box_at (i := 1) (x := .slice a2 len2 cap2) (kept_box E1.out V1.out) rfl
  go_wp2_with fail
  refine (few15 w.heap.size As Ls Cs a1 len1 cap1 _ (HR1.out.below H1.out)).mono ?_
  rintro e w' ⟨t, rfl, ht, rfl⟩
  cases t
  · clear ht
    go_wp2_with fail
    go_ret
    exact ⟨rfl, H1.out⟩
  obtain ⟨hN, hL⟩ := ht rfl
  have HN := Lib.hid hN
  have HL := Lib.hid (show ∀ r, r < len1 → Ls r ≤ 1000 from fun r hr => Nat.le_trans (hL r hr) (by omega))
  clear ht hL hN
  by_cases h20 : 300 < len2
  · have hd : decide (((len2 : Nat) : Int) > 300) = true := by simp; omega
    have hd2 : decide ((300 : Int) < ((len2 : Nat) : Int)) = true := by simp; omega
    go_wp2_with fail
    go_ret
    exact ⟨rfl, H1.out⟩
  have hd : decide (((len2 : Nat) : Int) > 300) = false := by simp; omega
  have hd2 : decide ((300 : Int) < ((len2 : Nat) : Int)) = false := by simp; omega
  clear h20
  obtain ⟨d0, d1, d2⟩ := box_three (kept_box E0.out V1.out)
  have HIN := Lib.hid (show ∀ w', Below w.heap.size w w' → Rd w.heap.size w' (slis As Ls Cs) a1 len1 ∧ (∀ r, r < len1 → Rd w.heap.size w' (u8s (F r)) (As r) (Ls r)) ∧ Rd w.heap.size w' (u8s f) a2 len2 from fun w' hb => ⟨HR1.out.below hb, fun r hr => (HR2.out r hr).below hb, HH.out.below hb⟩)
  clear HR1 HR2 HH
  have C1 := Lib.hid (fun w' (hT' : Tab w') (h0 : w.heap.size < w'.heap.size) (hb : Below w.heap.size w w') => upd16 w.heap.size a0 b0 c0 As Ls Cs F HF.out a1 len1 cap1 (by have := HN.out; omega) HL.out i2 f Hf.out a2 len2 cap2 w' hT' h0 (HIN.out w' hb).1 (HIN.out w' hb).2.1 (HIN.out w' hb).2.2)
  have C2 := Lib.hid (fun w' (h0 : w.heap.size < w'.heap.size) (hb : Below w.heap.size w w') => rupd w.heap.size a0 b0 c0 As Ls Cs F HF.out a1 len1 cap1 (by have := HN.out; omega) HL.out i2 f Hf.out a2 len2 cap2 w' h0 (HIN.out w' hb).1 (HIN.out w' hb).2.1 (HIN.out w' hb).2.2)
  unfold UpdSaid at C1 C2
  have HD2 := Lib.hid (fun r j => updF_lt (p := a0) (K := b0.toNat) (M := c0.toNat) (i := i2.toNat) (F := F) (g := f) HF.out Hf.out r j)
  have hnr : updN a0 b0 c0 i2 len1 len2 Ls ≤ 100000 := by
    unfold updN
    split
    · have := HN.out; omega
    · omega
  obtain ⟨nr, hnr'⟩ : ∃ x, updN a0 b0 c0 i2 len1 len2 Ls = x := ⟨_, rfl⟩
  rw [hnr'] at hnr C1 C2
  obtain ⟨x, hx⟩ : ∃ x, updE a0 b0 c0 i2 len1 len2 Ls = x := ⟨_, rfl⟩
  rw [hx] at C1 C2
  obtain ⟨FR, hFR⟩ : ∃ FR, updF a0 b0.toNat c0.toNat F i2.toNat f = FR := ⟨_, rfl⟩
  rw [hFR] at C1 C2 HD2
  obtain ⟨S, hS⟩ : ∃ S, Ls 0 = S := ⟨_, rfl⟩
  rw [hS] at C1 C2
  have HNB := Lib.hid hnr
  clear hnr' hx hFR hS hnr
  go_wp2_with fail
  refine (C1.out _ HT1.out HS1.out H1.out).mono ?_
  rintro e w2 ⟨A2, c2, rfl, _, hb2, hx2⟩
  have V2 := Lib.hid (below_tr V1.out hb2)
  have H2 := Lib.hid (below_tr H1.out hb2)
  have HS2 := Lib.hid (Nat.lt_of_lt_of_le HS1.out hb2.size)
  have HX2 := Lib.hid (hx2 w.heap.size HS1.out (HIN.out _ H1.out).2.1 (HIN.out _ H1.out).2.2)
  clear hb2 hx2 d0 d1 d2 l0 l1 HT1 V1 H1 HS1 C1
  obtain ⟨d0, d1, d2⟩ := box_three (kept_box E0.out V2.out)
  have l0 := box_at (i := 0) (x := .int .i64 i2) (kept_box E1.out V2.out) rfl
  have l1 := box_at (i := 1) (x := .slice a2 len2 cap2) (kept_box E1.out V2.out) rfl
  go_wp2_with fail
  refine (C2.out _ HS2.out H2.out).mono ?_
  rintro e w3 ⟨A3, c3, rfl, _, hb3, hx3⟩
  have H3 := Lib.hid (below_tr H2.out hb3)
  have HX3 := Lib.hid (hx3 w.heap.size HS2.out (HIN.out _ H2.out).2.1 (HIN.out _ H2.out).2.2)
  have HX23 := Lib.hid (HX2.out.below hb3)
  clear hb3 hx3 d0 d1 d2 l0 l1 V2 H2 HS2 C2 HX2 HIN HL HN HF Hf
  go_wp2_with fail
  refine (rsame14 w.heap.size w.heap.size _ _ HD2.out HD2.out _ _ A2 A3 nr nr c2 c3 HNB.out _ HX23.out HX3.out).mono ?_
  rintro e w6 ⟨t, rfl, ht, hb6⟩
  obtain rfl : t = true := ht.2 ⟨rfl, fun _ _ => ⟨rfl, fun _ _ => rfl⟩⟩
  have H6 := Lib.hid (below_tr H3.out hb6)
  clear ht hb6
  go_wp2_with fail
  go_ret
  exact ⟨by simp, H6.out⟩

set_option maxRecDepth 100000 in
theorem lifted (os : Os) (started : os.Started) (H : Type) (enc : TypeId × Value → H) :
    ReturnsInHanded {} Tryz.checked os 4 .any (fun w args => (Rows.reconUpdatesSpec.pre enc Tryz.prog Tryz.f4 Rows.reconUpdatesRow.domain false w args ∧ laidMetH Tryz.prog laidT w) ∧ sizedMet enc Tryz.prog Tryz.f4 (OpenSpec.ofChange Rows.reconUpdatesSpec) false w args) (Rows.reconUpdatesSpec.post enc Tryz.prog Tryz.f4 false true false false) := by
  refine returnsInHanded_of_change_and (C := Tryz.checked) (X := fun w _ => laidMetH Tryz.prog laidT w) (fun _ _ _ hh h => h.of_heap hh) own started (by kernel_rfl) Tryz.func4
    (ChangeSpec.witness_shaped (enc := enc) (C := Tryz.checked) (os := os) (X := fun w _ => laidMetH Tryz.prog laidT w) false (World.doorLaid Tryz.prog 400 os) #[.agg #[.int .i64 0, .int .i64 0, .int .i64 0], .slice none 0 0, .agg #[.int .i64 0, .slice none 0 0]] 8 rfl (World.shaped_of_RefB (by kernel_rfl) (by kernel_rfl)) (by kernel_rfl) (by kernel_rfl) (by kernel_rfl) (door_met os _)) ?_
  intro W base args ds gs before hval0 hW hcnd _ hL _
  have hval : ∀ (j : Nat) t v, Tryz.f4.params[j]? = some t → args[j]? = some v → Value.okWide Tryz.prog W .any base t v := hval0
  have hW' := hW
  obtain ⟨p, q, hA0, hV, rfl, hfz, hnd⟩ := hW
  have hA : DataW.TrodAll enc Tryz.prog W 0 (fun _ => true) true Tryz.f4.params.toList args.toList ds p := hA0
  rw [Tryz.params4] at hA hval
  obtain ⟨v0, vs0, d0, ds0, p0, q0, hargs, rfl, rfl, h0, r0⟩ := trodAll_cons hA
  obtain ⟨v1, vs1, d1, ds1, p1, q1, rfl, rfl, rfl, h1, r1⟩ := trodAll_cons r0
  obtain ⟨v2, vs2, d2, ds2, p2, q2, rfl, rfl, rfl, h2, r2⟩ := trodAll_cons r1
  obtain ⟨rfl, rfl, rfl⟩ := trodAll_nil r2
  obtain rfl : args = #[v0, v1, v2] := by cases args; simp_all
  obtain ⟨rfl, rfl⟩ := trodVars_none hV
  obtain ⟨cs0, rfl, hsz0, _⟩ : ∃ cs, v0 = .agg cs ∧ cs.size = Tryz.prog.cellsOf 23 ∧ Row.okWide Tryz.prog W .any base 23 cs := by
    have := hval 0 23 v0 rfl rfl
    simpa [Value.okWide, Tryz.underlying23] using this
  rw [show Tryz.prog.cellsOf 23 = 3 by kernel_rfl] at hsz0
  obtain ⟨l0⟩ := cs0
  obtain ⟨e0, f0, g0, rfl⟩ := list3 l0 hsz0
  have k0 := h0
  have lt0 : ∀ x ∈ p0, x.block < W.heap.size := by obtain ⟨m, hm⟩ := k0; exact DataW.trod_lt m _ _ _ hm
  obtain ⟨fuel0, hf0⟩ := h0
  obtain ⟨a0, b0, c0, rfl, rfl, rfl⟩ := params_in hf0
  obtain ⟨a1, len1, cap1, rfl⟩ := okWide_slice Tryz.underlying24 (hval 1 24 v1 rfl rfl)
  have k1 := h1
  have lt1 : ∀ x ∈ p1, x.block < W.heap.size := by obtain ⟨m, hm⟩ := k1; exact DataW.trod_lt m _ _ _ hm
  have w1 : IsRowsN W a1 len1 cap1 := by
    obtain ⟨fuel, hf⟩ := h1
    exact rowsn_in hf
  obtain ⟨cs2, rfl, hsz2, _⟩ : ∃ cs, v2 = .agg cs ∧ cs.size = Tryz.prog.cellsOf 37 ∧ Row.okWide Tryz.prog W .any base 37 cs := by
    have := hval 2 37 v2 rfl rfl
    simpa [Value.okWide, Tryz.underlying37] using this
  rw [show Tryz.prog.cellsOf 37 = 2 by kernel_rfl] at hsz2
  obtain ⟨l2⟩ := cs2
  obtain ⟨e2, f2, rfl⟩ := list2s l2 hsz2
  have k2 := h2
  have lt2 : ∀ x ∈ p2, x.block < W.heap.size := by obtain ⟨m, hm⟩ := k2; exact DataW.trod_lt m _ _ _ hm
  obtain ⟨fuel2, hf2⟩ := h2
  obtain ⟨i2, a2, len2, cap2, rfl, rfl, w2, x2⟩ := change_in hf2
  clear hA0 hval0
  refine (walk a0 b0 c0 a1 len1 cap1 i2 a2 len2 cap2 W w1 w2 x2 (tab_of_laid hL)).mono fun e W' ⟨he, bel⟩ => ?_
  subst he
  exact ⟨_, rfl, _, _, _, [], _, [], hW', trodAll_mk1 (shut_bool Tryz.underlying4 _), (trodAll_cons_mk (Below.trod laidOut (by kernel_rfl) (of_decide_eq_true (by kernel_rfl)) k0 bel lt0) (trodAll_cons_mk (Below.trod laidOut (by kernel_rfl) (of_decide_eq_true (by kernel_rfl)) k1 bel lt1) (trodAll_cons_mk (Below.trod laidOut (by kernel_rfl) (of_decide_eq_true (by kernel_rfl)) k2 bel lt2) trodAll_mk0))), rfl, bel.frame _, fun h => by cases h⟩

theorem over : Rows.reconUpdatesRow.holds Tryz.pinned (OpenSpec.ofChange Rows.reconUpdatesSpec) :=
  OpenClaim.holds_of_wide 4 Tryz.f4 rfl rfl rfl rfl rfl rfl rfl ⟨rfl, rfl, rfl, rfl, rfl⟩ rfl rfl rfl rfl rfl (by kernel_rfl) Tryz.func4 (by kernel_rfl)
    (of_decide_eq_true (by kernel_rfl)) (by unfold Func.isWrapper; first | (rw [if_pos (by decide +kernel)]; kernel_rfl) | (rw [if_neg (by decide +kernel)]; exact ⟨rfl, rfl⟩))
    (fun os started H enc _ => lifted os started H enc)

theorem proved : Rows.ReconUpdatesCardSaid :=
  Claim7.holds_tied_plain_at .later [] [.data] true Rows.reconUpdatesCard.stood.harness false
    over (fun _ h => by cases h) (by kernel_rfl) (fun _ h => by cases h) reconUpdates_row_tie rfl ⟨rfl, rfl⟩ (by kernel_rfl) rfl
    (fun f fn hf hfn => by
      obtain rfl : f = 4 := Option.some.inj ((show Tryz.prog.funcNamed "gambrel/gambrellaw12.ReconUpdates" = some 4 by kernel_rfl).symm.trans hf) |>.symm
      obtain rfl : fn = Tryz.f4 := (Option.some.inj (Tryz.func4.symm.trans hfn)).symm
      exact ⟨by kernel_rfl, fun j t ht => by
        rw [Tryz.params4] at ht
        have hm : t ∈ [23, 24, 37] := by simpa using Array.mem_of_getElem? ht
        have hall : ([23, 24, 37].all fun u => !Tryz.prog.wantsStandIn u) = true := by kernel_rfl
        exact (show Tryz.prog.wantsStandIn t = false by simpa using List.all_eq_true.1 hall t hm)⟩)
    (by kernel_rfl)
end Go.Proofs.YtgdgimknnjbieaaGreatDoor.reconUpdates
