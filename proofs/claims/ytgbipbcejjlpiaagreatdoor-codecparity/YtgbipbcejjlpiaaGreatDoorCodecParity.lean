/- CodecParity: for all params and any rows of bytes, the parity shards of them, and whether they are verified, are as the document says (its law asks for 12 rows of 300 bytes at most). Condition: the package-level variable gambrel/profile.table holds, when the call begins, what the text of the program lays there; the card ties that to the text, over the pruned copy of the project that the seat holds. -/
import Derived.Test.YtgbipbcejjlpiaaGreatDoorRows
import Derived.Test.YtgbipbcejjlpiaaGreatDoorPrh
import Derived.Test.YtgbipbcejjlpiaaGreatDoorGyd
import Derived.Test.YtgbipbcejjlpiaaGreatDoorGyb
import Derived.Test.YtgbipbcejjlpiaaGreatDoorGxx
import Derived.Test.YtgbipbcejjlpiaaGreatDoorGxv
import Derived.Test.YtgbipbcejjlpiaaGreatDoorArr
import Derived.Test.YtgbipbcejjlpiaaGreatDoorCards
import Derived.Test.YtgbipbcejjlpiaaGreatDoorTie
import Derived.SevenTiedAt
import Derived.ChangeMaps5
import Derived.Deep.RegionHeld3
import Derived.WalkKit
import Derived.ProofKit
import Derived.OpenShut
import Derived.ShutString
import Derived.ChangeOld
import Derived.Below
namespace Go.Proofs.YtgbipbcejjlpiaaGreatDoor.codecParity
open Go.ChangeShapes Go.WideShapes Go.ChangeAt Go.RowKit
set_option linter.unusedVariables false

theorem own : ownKnob Tryz.prog.godebug = none := by kernel_rfl
theorem laidOut : laidOutB Tryz.prog = true := by kernel_rfl

set_option maxRecDepth 100000 in
set_option maxHeartbeats 8000000 in
theorem walk (a0 b0 c0 : Int) (a1 : Option Addr) (len1 cap1 : Nat) (w : World) (w1 : IsRowsN w a1 len1 cap1) (hT : Tab w) :
    Calls Tryz.prog 3 #[.agg (parA a0 b0 c0), .slice a1 len1 cap1] w fun e w' => e = .returned (.bool true) ∧ Below w.heap.size w w' := by
  obtain ⟨As, Ls, Cs, F, hF, hlc, _, hr1, hr2⟩ := w1
  obtain ⟨v, hv⟩ : ∃ v, w.alloc (.cells #[.int .i64 a0, .int .i64 b0, .int .i64 c0] TPa) = v := ⟨_, rfl⟩
  obtain ⟨s0, e0, hbv⟩ := one_box hv
  have E0 := Lib.hid e0
  have HV := Lib.hid hbv
  have HT := Lib.hid (hT.below hbv)
  have HF := Lib.hid hF
  have HR1 := Lib.hid (hr1 w.heap.size (Nat.le_refl _))
  have HR2 := Lib.hid (fun r hr => hr2 r hr w.heap.size (Nat.le_refl _))
  have HLC := Lib.hid hlc
  have HS0 := Lib.hid (show w.heap.size < v.heap.size by omega)
  clear e0 hbv hT hF hr1 hr2 hlc s0
  go_enter Tryz.func3, Tryz.ntmps3
  go_wp2_with fail
  refine (awakeK _ HT.out).mono ?_
  rintro e w1 ⟨rfl, hb1⟩
  have H1 := Lib.hid (below_tr HV.out hb1)
  have HT1 := Lib.hid (HT.out.below hb1)
  have E1 := Lib.hid (kept_box E0.out hb1)
  have HS1 := Lib.hid (Nat.lt_of_lt_of_le HS0.out hb1.size)
  clear hb1 HT
  go_wp2_with fail
  refine (few15 w.heap.size As Ls Cs a1 len1 cap1 _ (HR1.out.below H1.out)).mono ?_
  rintro e w' ⟨t, rfl, ht, rfl⟩
  cases t
  · clear ht
    go_wp2_with fail
    go_ret
    exact ⟨rfl, H1.out⟩
  obtain ⟨hN, hL⟩ := ht rfl
  have HN := Lib.hid hN
  have HL := Lib.hid (show ∀ r, r < len1 → Ls r ≤ 1000 from fun r hr => Nat.le_trans (hL r hr) (by omega))
  obtain ⟨d0, d1, d2⟩ := box_three E1.out
  clear ht hL hN
  go_wp2_with fail
  refine (par11 w.heap.size a0 b0 c0 As Ls Cs F HF.out a1 len1 cap1 (by have := HN.out; omega) HLC.out HL.out _ HT1.out (HR1.out.below H1.out) (fun r hr => (HR2.out r hr).below H1.out)).mono ?_
  rintro e w2 ⟨t, v2, rfl, ht, A2, c2, rfl, _, hx2, hb2⟩
  have H2 := Lib.hid (below_tr H1.out hb2)
  have HT2 := Lib.hid (HT1.out.below hb2)
  have E2 := Lib.hid (kept_box E1.out hb2)
  have HS2 := Lib.hid (Nat.lt_of_lt_of_le HS1.out hb2.size)
  have HX2 := Lib.hid (hx2 w.heap.size HS1.out)
  have HTT := Lib.hid ht
  clear hb2 hx2 ht d0 d1 d2 HT1
  obtain ⟨d0, d1, d2⟩ := box_three E2.out
  go_wp2_with fail
  refine (rpar12 w.heap.size a0 b0 c0 As Ls Cs F HF.out a1 len1 cap1 (by have := HN.out; omega) HL.out _ HS2.out (HR1.out.below H2.out) (fun r hr => (HR2.out r hr).below H2.out)).mono ?_
  rintro e w3 ⟨t', v3, rfl, ht, A3, c3, rfl, _, hx3, hb3⟩
  obtain rfl : t = t' := Bool.eq_iff_iff.2 (HTT.out.trans ht.symm)
  have H3 := Lib.hid (below_tr H2.out hb3)
  have HT3 := Lib.hid (HT2.out.below hb3)
  have E3 := Lib.hid (kept_box E2.out hb3)
  have HX3 := Lib.hid (hx3 w.heap.size HS2.out)
  have HX2' := Lib.hid (HX2.out.below hb3)
  have HS3 := Lib.hid (Nat.lt_of_lt_of_le HS2.out hb3.size)
  obtain ⟨n, hn⟩ : ∃ n, cond t c0.toNat 0 = n := ⟨_, rfl⟩
  have HN4 := Lib.hid (show n ≤ 100000 by
    rw [← hn]
    cases t
    · exact Nat.zero_le _
    · have h5 := (HTT.out.1 rfl).1
      have := (max_pos h5.1).2
      have := h5.2.2.2
      show c0.toNat ≤ _
      omega)
  rw [hn] at HX2' HX3 ⊢
  obtain ⟨x, hx⟩ : ∃ x, errOf t = x := ⟨_, rfl⟩
  rw [hx]
  obtain ⟨tv, htv⟩ : ∃ tv : Bool, (tv = true ↔ verP a0 b0 c0 len1 Ls F) := by
    by_cases h : verP a0 b0 c0 len1 Ls F
    · exact ⟨true, by simp [h]⟩
    · exact ⟨false, by simp [h]⟩
  have HTV := Lib.hid htv
  have ST := Lib.hid (show ∀ w', Below w3.heap.size w3 w' → w'.cell? ⟨w.heap.size, 0, none⟩ = some (.int .i64 a0) ∧ w'.cell? ⟨w.heap.size, 1, none⟩ = some (.int .i64 b0) ∧ w'.cell? ⟨w.heap.size, 2, none⟩ = some (.int .i64 c0) ∧ Below w3.heap.size w3 w' from fun w' h => by
    obtain ⟨h0, h1, h2⟩ := box_three (kept_box E3.out h)
    exact ⟨h0, h1, h2, h⟩)
  have KS := Lib.hid (show ∀ w1 w', Below w1.heap.size w1 w' → (w1.cell? ⟨w.heap.size, 0, none⟩ = some (.int .i64 a0) ∧ w1.cell? ⟨w.heap.size, 1, none⟩ = some (.int .i64 b0) ∧ w1.cell? ⟨w.heap.size, 2, none⟩ = some (.int .i64 c0) ∧ Below w3.heap.size w3 w1) → _ from fun w1 w' hb h => ST.out w' (below_tr h.2.2.2 hb))
  have CS := Lib.hid (show ∀ w1, (w1.cell? ⟨w.heap.size, 0, none⟩ = some (.int .i64 a0) ∧ w1.cell? ⟨w.heap.size, 1, none⟩ = some (.int .i64 b0) ∧ w1.cell? ⟨w.heap.size, 2, none⟩ = some (.int .i64 c0) ∧ Below w3.heap.size w3 w1) → Calls Tryz.prog 13 #[.slice A2 n c2, .slice A3 n c3] w1 fun e w' => e = .returned (.bool true) ∧ Below w1.heap.size w1 w' from fun w1 h =>
    (rsame14 w.heap.size w.heap.size _ _ (fun r j => parF_lt r j) (fun r j => parF_lt r j) _ _ A2 A3 n n c2 c3 HN4.out w1 (HX2'.out.below h.2.2.2) (HX3.out.below h.2.2.2)).mono fun e w' ⟨t1, he, ht, hb⟩ => ⟨by rw [he, ht.2 ⟨rfl, fun _ _ => ⟨rfl, fun _ _ => rfl⟩⟩], hb⟩)
  have CV := Lib.hid (show ∀ w1, (w1.cell? ⟨w.heap.size, 0, none⟩ = some (.int .i64 a0) ∧ w1.cell? ⟨w.heap.size, 1, none⟩ = some (.int .i64 b0) ∧ w1.cell? ⟨w.heap.size, 2, none⟩ = some (.int .i64 c0) ∧ Below w3.heap.size w3 w1) → Calls Tryz.prog 14 #[.agg (parA a0 b0 c0), .slice a1 len1 cap1] w1 fun e w' => e = .returned (.bool tv) ∧ Below w1.heap.size w1 w' from fun w1 h =>
    (ver14 w.heap.size a0 b0 c0 As Ls Cs F HF.out a1 len1 cap1 (by have := HN.out; omega) HLC.out HL.out w1 (HT3.out.below h.2.2.2) (Nat.lt_of_lt_of_le HS3.out h.2.2.2.size) ((HR1.out.below H3.out).below h.2.2.2) (fun r hr => ((HR2.out r hr).below H3.out).below h.2.2.2)).mono fun e w' ⟨t1, he, ht, hb⟩ => ⟨by rw [he, Bool.eq_iff_iff.2 (ht.trans HTV.out.symm)], hb⟩)
  have CR := Lib.hid (show ∀ w1, (w1.cell? ⟨w.heap.size, 0, none⟩ = some (.int .i64 a0) ∧ w1.cell? ⟨w.heap.size, 1, none⟩ = some (.int .i64 b0) ∧ w1.cell? ⟨w.heap.size, 2, none⟩ = some (.int .i64 c0) ∧ Below w3.heap.size w3 w1) → Calls Tryz.prog 15 #[.agg (parA a0 b0 c0), .slice a1 len1 cap1] w1 fun e w' => e = .returned (.bool tv) ∧ Below w1.heap.size w1 w' from fun w1 h =>
    (rver15 w.heap.size a0 b0 c0 As Ls Cs F HF.out a1 len1 cap1 (by have := HN.out; omega) HLC.out HL.out w1 (Nat.lt_of_lt_of_le HS3.out h.2.2.2.size) ((HR1.out.below H3.out).below h.2.2.2) (fun r hr => ((HR2.out r hr).below H3.out).below h.2.2.2)).mono fun e w' ⟨t1, he, ht, hb⟩ => ⟨by rw [he, Bool.eq_iff_iff.2 (ht.trans HTV.out.symm)], hb⟩)
  have hst := ST.out w3.drew (Below.refl w3.heap.size w3).drew
  have HEND := Lib.hid (show ∀ w', (w'.cell? ⟨w.heap.size, 0, none⟩ = some (.int .i64 a0) ∧ w'.cell? ⟨w.heap.size, 1, none⟩ = some (.int .i64 b0) ∧ w'.cell? ⟨w.heap.size, 2, none⟩ = some (.int .i64 c0) ∧ Below w3.heap.size w3 w') → Below w.heap.size w w' from fun w' h => below_tr H3.out h.2.2.2)
  clear hn hx ht hb3 hx3 htv HTT d0 d1 d2 HX2 HX2' HX3 HTV ST E0 E1 E2 HT2 HT3 HR1 HR2 HL HN HN4 HLC HF H1 H2 H3 HS0 HS1 HS2 HS3 HV
  obtain ⟨d0, d1, d2⟩ := box_three E3.out
  clear E3
  go_wp2_with fail
  go_region_held3 (fun w' => w'.cell? ⟨w.heap.size, 0, none⟩ = some (.int .i64 a0) ∧ w'.cell? ⟨w.heap.size, 1, none⟩ = some (.int .i64 b0) ∧ w'.cell? ⟨w.heap.size, 2, none⟩ = some (.int .i64 c0) ∧ Below w3.heap.size w3 w')
    (first | exact hst | assumption | (refine KS.out _ _ ‹_› ?_; assumption))
    (first | (go_at_call 13; refine (CS.out _ ?_).mono ?_; assumption; rintro e w' ⟨rfl, hb⟩) | (go_at_call 14; refine (CV.out _ ?_).mono ?_; assumption; rintro e w' ⟨rfl, hb⟩) | (go_at_call 15; refine (CR.out _ ?_).mono ?_; assumption; rintro e w' ⟨rfl, hb⟩))
  all_goals
    rename_i hh
    have HE := Lib.hid (HEND.out _ hh)
    clear hh hst KS CS CV CR HEND
    go_wp2_with fail
    go_ret
    exact ⟨by simp, HE.out⟩

set_option maxRecDepth 100000 in
theorem lifted (os : Os) (started : os.Started) (H : Type) (enc : TypeId × Value → H) :
    ReturnsInHanded {} Tryz.checked os 3 .any (fun w args => (Rows.codecParitySpec.pre enc Tryz.prog Tryz.f3 Rows.codecParityRow.domain false w args ∧ laidMetH Tryz.prog laidT w) ∧ sizedMet enc Tryz.prog Tryz.f3 (OpenSpec.ofChange Rows.codecParitySpec) false w args) (Rows.codecParitySpec.post enc Tryz.prog Tryz.f3 false true false false) := by
  refine returnsInHanded_of_change_and (C := Tryz.checked) (X := fun w _ => laidMetH Tryz.prog laidT w) (fun _ _ _ hh h => h.of_heap hh) own started (by kernel_rfl) Tryz.func3
    (ChangeSpec.witness_shaped (enc := enc) (C := Tryz.checked) (os := os) (X := fun w _ => laidMetH Tryz.prog laidT w) false (World.doorLaid Tryz.prog 400 os) #[.agg #[.int .i64 0, .int .i64 0, .int .i64 0], .slice none 0 0] 8 rfl (World.shaped_of_RefB (by kernel_rfl) (by kernel_rfl)) (by kernel_rfl) (by kernel_rfl) (by kernel_rfl) (door_met os _)) ?_
  intro W base args ds gs before hval0 hW hcnd _ hL _
  have hval : ∀ (j : Nat) t v, Tryz.f3.params[j]? = some t → args[j]? = some v → Value.okWide Tryz.prog W .any base t v := hval0
  have hW' := hW
  obtain ⟨p, q, hA0, hV, rfl, hfz, hnd⟩ := hW
  have hA : DataW.TrodAll enc Tryz.prog W 0 (fun _ => true) true Tryz.f3.params.toList args.toList ds p := hA0
  rw [Tryz.params3] at hA hval
  obtain ⟨v0, vs0, d0, ds0, p0, q0, hargs, rfl, rfl, h0, r0⟩ := trodAll_cons hA
  obtain ⟨v1, vs1, d1, ds1, p1, q1, rfl, rfl, rfl, h1, r1⟩ := trodAll_cons r0
  obtain ⟨rfl, rfl, rfl⟩ := trodAll_nil r1
  obtain rfl : args = #[v0, v1] := by cases args; simp_all
  obtain ⟨rfl, rfl⟩ := trodVars_none hV
  obtain ⟨cs0, rfl, hsz0, _⟩ : ∃ cs, v0 = .agg cs ∧ cs.size = Tryz.prog.cellsOf 23 ∧ Row.okWide Tryz.prog W .any base 23 cs := by
    have := hval 0 23 v0 rfl rfl
    simpa [Value.okWide, Tryz.underlying23] using this
  rw [show Tryz.prog.cellsOf 23 = 3 by kernel_rfl] at hsz0
  obtain ⟨l0⟩ := cs0
  obtain ⟨e0, f0, g0, rfl⟩ := list3 l0 hsz0
  have k0 := h0
  have lt0 : ∀ x ∈ p0, x.block < W.heap.size := by obtain ⟨m, hm⟩ := k0; exact DataW.trod_lt m _ _ _ hm
  obtain ⟨fuel0, hf0⟩ := h0
  obtain ⟨a0, b0, c0, rfl, rfl, rfl⟩ := params_in hf0
  obtain ⟨a1, len1, cap1, rfl⟩ := okWide_slice Tryz.underlying24 (hval 1 24 v1 rfl rfl)
  have k1 := h1
  have lt1 : ∀ x ∈ p1, x.block < W.heap.size := by obtain ⟨m, hm⟩ := k1; exact DataW.trod_lt m _ _ _ hm
  have w1 : IsRowsN W a1 len1 cap1 := by
    obtain ⟨fuel, hf⟩ := h1
    exact rowsn_in hf
  clear hA0 hval0
  refine (walk a0 b0 c0 a1 len1 cap1 W w1 (tab_of_laid hL)).mono fun e W' ⟨he, bel⟩ => ?_
  subst he
  exact ⟨_, rfl, _, _, _, [], _, [], hW', trodAll_mk1 (shut_bool Tryz.underlying4 _), (trodAll_cons_mk (Below.trod laidOut (by kernel_rfl) (of_decide_eq_true (by kernel_rfl)) k0 bel lt0) (trodAll_cons_mk (Below.trod laidOut (by kernel_rfl) (of_decide_eq_true (by kernel_rfl)) k1 bel lt1) trodAll_mk0)), rfl, bel.frame _, fun h => by cases h⟩

theorem over : Rows.codecParityRow.holds Tryz.pinned (OpenSpec.ofChange Rows.codecParitySpec) :=
  OpenClaim.holds_of_wide 3 Tryz.f3 rfl rfl rfl rfl rfl rfl rfl ⟨rfl, rfl, rfl, rfl, rfl⟩ rfl rfl rfl rfl rfl (by kernel_rfl) Tryz.func3 (by kernel_rfl)
    (of_decide_eq_true (by kernel_rfl)) (by unfold Func.isWrapper; first | (rw [if_pos (by decide +kernel)]; kernel_rfl) | (rw [if_neg (by decide +kernel)]; exact ⟨rfl, rfl⟩))
    (fun os started H enc _ => lifted os started H enc)

theorem proved : Rows.CodecParityCardSaid :=
  Claim7.holds_tied_plain_at .later [] [.data] true Rows.codecParityCard.stood.harness false
    over (fun _ h => by cases h) (by kernel_rfl) (fun _ h => by cases h) codecParity_row_tie rfl ⟨rfl, rfl⟩ (by kernel_rfl) rfl
    (fun f fn hf hfn => by
      obtain rfl : f = 3 := Option.some.inj ((show Tryz.prog.funcNamed "gambrel/gambrellaw11.CodecParity" = some 3 by kernel_rfl).symm.trans hf) |>.symm
      obtain rfl : fn = Tryz.f3 := (Option.some.inj (Tryz.func3.symm.trans hfn)).symm
      exact ⟨by kernel_rfl, fun j t ht => by
        rw [Tryz.params3] at ht
        have hm : t ∈ [23, 24] := by simpa using Array.mem_of_getElem? ht
        have hall : ([23, 24].all fun u => !Tryz.prog.wantsStandIn u) = true := by kernel_rfl
        exact (show Tryz.prog.wantsStandIn t = false by simpa using List.all_eq_true.1 hall t hm)⟩)
    (by kernel_rfl)
end Go.Proofs.YtgbipbcejjlpiaaGreatDoor.codecParity
