/- ProfileAll: for every number: the profiles' numbers rise, each has a row, with a tag of its own, and what is a profile is one of these. Condition: the package-level variable gambrel/profile.table holds, when the call begins, what the text of the program lays there; the card ties that to the text, over the pruned copy of the project that the seat holds. -/
import Derived.Test.YtdidlfeolbcblaaGreatDoorRows
import Derived.Test.YtdidlfeolbcblaaGreatDoorPrh
import Derived.Test.YtdidlfeolbcblaaGreatDoorPre
import Derived.Test.YtdidlfeolbcblaaGreatDoorPrc
import Derived.Test.YtdidlfeolbcblaaGreatDoorGxv
import Derived.Test.YtdidlfeolbcblaaGreatDoorArr
import Derived.Test.YtdidlfeolbcblaaGreatDoorCards
import Derived.Test.YtdidlfeolbcblaaGreatDoorTie
import Derived.SevenTiedAt
import Derived.ChangeMaps5
import Derived.Deep.RegionHeld3
import Derived.WalkKit
import Derived.ProofKit
import Derived.OpenShut
import Derived.ShutString
import Derived.ChangeOld
import Derived.Below
namespace Go.Proofs.YtdidlfeolbcblaaGreatDoor.profileAll
open Go.ChangeShapes Go.WideShapes Go.ChangeAt Go.RowKit
set_option linter.unusedVariables false

theorem own : ownKnob Tryz.prog.godebug = none := by kernel_rfl
theorem laidOut : laidOutB Tryz.prog = true := by kernel_rfl

/-- in the law's loop -/
def AllIn (p : Int) (v : World) (s5 s6 : Value) (wr : World) : Prop := ∃ (k : Nat) (t : Bool), k ≤ 6 ∧ s5 = .bool t ∧ s6 = .int .i64 k ∧ Hid (t = true ↔ 1 ≤ p ∧ p ≤ k) ∧ Below v.heap.size v wr

theorem tag_back (k : Nat) (hk : k < 6) : tagN (tagI ((k : Int) + 1)) = k + 1 := tagN_tag (k + 1) (by omega) (by omega)

set_option maxRecDepth 100000 in
set_option maxHeartbeats 8000000 in
theorem walk (a0 : Int) (w : World) (w0 : (Lit.int .i64 a0).wf = true) (hT : Tab w) :
    Calls Tryz.prog 4 #[.int .i64 a0] w fun e w' => e = .returned (.bool true) ∧ Below w.heap.size w w' := by
  have HT := Lib.hid hT
  clear hT w0
  go_enter Tryz.func4, Tryz.ntmps4
  go_wp2_with fail
  refine (awakeP _ HT.out).mono ?_
  rintro e w1 ⟨rfl, hb1⟩
  have H1 := Lib.hid hb1
  have HT1 := Lib.hid (HT.out.below hb1)
  clear hb1 HT
  go_wp2_with fail
  refine (all19 _).mono ?_
  rintro e v ⟨rfl, hrow, hbv⟩
  obtain ⟨gl, hgl⟩ : ∃ gl, w1.heap.size = gl := ⟨_, rfl⟩
  have hbv' := hbv
  rw [hgl] at hrow hbv' ⊢
  have hlt : ∀ i, i < 6 → gl < v.heap.size := fun i hi => World.block_lt_of_cell? v ⟨gl, i, none⟩ (hrow.cell (i := i) hi)
  have KEEP := Lib.hid (show ∀ w', Below v.heap.size v w' → (∀ i, i < 6 → w'.cell? ⟨gl, i, none⟩ = some (.int .i64 ((i : Int) + 1))) ∧ Tab w' ∧ Below w.heap.size w w' from
    fun w' h => ⟨fun i hi => (h.cell (p := ⟨gl, i, none⟩) (hlt i hi)).trans (hrow.cell (i := i) hi), (HT1.out.below hbv).below h, below_tr (below_tr H1.out hbv) h⟩)
  clear hrow hbv hbv' hlt hgl HT1 H1
  go_wp2_with fail
  go_loopw [5, 6] (fun s5 s6 wr => AllIn a0 v s5 s6 wr) (fun _ s6 _ => 6 - (intOf s6).toNat)
  case atStart => exact ⟨0, false, by omega, rfl, rfl, Lib.hid (by simp; omega), Below.refl _ _⟩
  case round =>
    obtain ⟨k, t, hk, rfl, rfl, ht, hb⟩ := hrel
    by_cases hlt : k < 6
    · obtain ⟨hc, kT, _⟩ := KEEP.out _ hb
      have hck := hc k hlt
      have HT := Lib.hid kT
      have HB := Lib.hid hb
      have hI : isI ((k : Int) + 1) = true := by simp [isI]; omega
      clear hc kT hb
      go_wp2_with fail
      refine (of8 ((k : Int) + 1) _ HT.out).mono ?_
      rintro e w3 ⟨rfl, hb3⟩
      obtain ⟨s, hs⟩ : ∃ s, tagI ((k : Int) + 1) = s := ⟨_, rfl⟩
      have HTN := Lib.hid (show tagN s = k + 1 by rw [← hs]; exact tag_back k hlt)
      simp only [rowA, hs, hI]
      obtain ⟨v3, hv3⟩ : ∃ v3, w3.alloc (.cells #[.string s, .int .i64 (bitsI ((k : Int) + 1)), .int .u32 (polyI ((k : Int) + 1)), .int .u8 (layI ((k : Int) + 1)), .int .i64 (maxI ((k : Int) + 1))] TPr) = v3 := ⟨_, rfl⟩
      obtain ⟨s3, e3, hbv3⟩ := one_box hv3
      have c0 := box_at (i := 0) (x := .string s) e3 rfl
      have H3 := Lib.hid (below_tr HB.out (below_tr hb3 hbv3))
      clear hb3 e3 s3 hbv3 HT HB hs hI hck
      go_wp2_with fail
      refine (tagged10 s _ (KEEP.out _ H3.out).2.1).mono ?_
      rintro e w4 ⟨rfl, hb4⟩
      have HB4 := Lib.hid (below_tr H3.out hb4)
      have hck := (KEEP.out _ HB4.out).1 k hlt
      rw [HTN.out, show decide (k + 1 ≠ 0) = true by simp, show (((k + 1 : Nat)) : Int) = (k : Int) + 1 by omega]
      clear hb4 H3 HTN c0 hv3
      cases t
      · by_cases he : a0 = (k : Int) + 1
        · have hd : ((k : Int) + 1 == a0) = true := by simp [he]
          have HS := Lib.hid (show AllIn a0 v (.bool true) (.int .i64 ((k : Int) + 1)) w4 from ⟨k + 1, true, hlt, rfl, by rw [show (((k + 1 : Nat)) : Int) = (k : Int) + 1 by omega], Lib.hid (by simp; omega), HB4.out⟩)
          clear ht he HB4
          go_wp2_with fail
          exact ⟨HS.out, by simp [intOf]; omega⟩
        · have hd : ((k : Int) + 1 == a0) = false := by simp; omega
          have hn := ht.out
          have HS := Lib.hid (show AllIn a0 v (.bool false) (.int .i64 ((k : Int) + 1)) w4 from ⟨k + 1, false, hlt, rfl, by rw [show (((k + 1 : Nat)) : Int) = (k : Int) + 1 by omega], Lib.hid (by simp at hn ⊢; omega), HB4.out⟩)
          clear ht he HB4 hn
          go_wp2_with fail
          exact ⟨HS.out, by simp [intOf]; omega⟩
      · have hn := ht.out.1 rfl
        have HS := Lib.hid (show AllIn a0 v (.bool true) (.int .i64 ((k : Int) + 1)) w4 from ⟨k + 1, true, hlt, rfl, by rw [show (((k + 1 : Nat)) : Int) = (k : Int) + 1 by omega], Lib.hid (by simp; omega), HB4.out⟩)
        clear ht HB4 hn
        go_wp2_with fail
        exact ⟨HS.out, by simp [intOf]; omega⟩
    · obtain rfl : k = 6 := by omega
      have HT := Lib.hid (KEEP.out _ hb).2.1
      have HB := Lib.hid hb
      have hte : isI a0 = t := by
        have := ht.out
        unfold isI
        cases t <;> simp at this ⊢ <;> omega
      clear ht hb hk hlt
      go_wp2_with fail
      refine (of8 a0 _ HT.out).mono ?_
      rintro e w3 ⟨rfl, hb3⟩
      have HE := Lib.hid (KEEP.out _ (below_tr HB.out (below_tr hb3 (below_alloc w3 (.cells (rowA a0) TPr))))).2.2
      simp only [rowA, hte] at HE ⊢
      clear hb3 HB HT hte KEEP
      cases t
      · go_wp2_with fail
        go_ret
        exact ⟨rfl, HE.out⟩
      · go_wp2_with fail
        go_ret
        exact ⟨rfl, HE.out⟩

set_option maxRecDepth 100000 in
theorem lifted (os : Os) (started : os.Started) (H : Type) (enc : TypeId × Value → H) :
    ReturnsInHanded {} Tryz.checked os 4 .any (fun w args => (Rows.profileAllSpec.pre enc Tryz.prog Tryz.f4 Rows.profileAllRow.domain false w args ∧ laidMetH Tryz.prog laidT w) ∧ sizedMet enc Tryz.prog Tryz.f4 (OpenSpec.ofChange Rows.profileAllSpec) false w args) (Rows.profileAllSpec.post enc Tryz.prog Tryz.f4 false true false false) := by
  refine returnsInHanded_of_change_and (C := Tryz.checked) (X := fun w _ => laidMetH Tryz.prog laidT w) (fun _ _ _ hh h => h.of_heap hh) own started (by kernel_rfl) Tryz.func4
    (ChangeSpec.witness_shaped (enc := enc) (C := Tryz.checked) (os := os) (X := fun w _ => laidMetH Tryz.prog laidT w) false (World.doorLaid Tryz.prog 400 os) #[.int .i64 0] 8 rfl (World.shaped_of_RefB (by kernel_rfl) (by kernel_rfl)) (by kernel_rfl) (by kernel_rfl) (by kernel_rfl) (door_met os _)) ?_
  intro W base args ds gs before hval0 hW hcnd _ hL _
  have hval : ∀ (j : Nat) t v, Tryz.f4.params[j]? = some t → args[j]? = some v → Value.okWide Tryz.prog W .any base t v := hval0
  have hW' := hW
  obtain ⟨p, q, hA0, hV, rfl, hfz, hnd⟩ := hW
  have hA : DataW.TrodAll enc Tryz.prog W 0 (fun _ => true) true Tryz.f4.params.toList args.toList ds p := hA0
  rw [Tryz.params4] at hA hval
  obtain ⟨v0, vs0, d0, ds0, p0, q0, hargs, rfl, rfl, h0, r0⟩ := trodAll_cons hA
  obtain ⟨rfl, rfl, rfl⟩ := trodAll_nil r0
  obtain rfl : args = #[v0] := by cases args; simp_all
  obtain ⟨rfl, rfl⟩ := trodVars_none hV
  obtain ⟨a0, rfl, rfl, rfl, w0⟩ := open_int Tryz.underlying3 (hval 0 3 v0 rfl rfl) h0
  clear hA0 hval0
  refine (walk a0 W w0 (tab_of_laid hL)).mono fun e W' ⟨he, bel⟩ => ?_
  subst he
  exact ⟨_, rfl, _, _, _, [], _, [], hW', trodAll_mk1 (shut_bool Tryz.underlying4 _), (trodAll_cons_mk (shut_int Tryz.underlying3 w0) trodAll_mk0), rfl, bel.frame _, fun h => by cases h⟩

theorem over : Rows.profileAllRow.holds Tryz.pinned (OpenSpec.ofChange Rows.profileAllSpec) :=
  OpenClaim.holds_of_wide 4 Tryz.f4 rfl rfl rfl rfl rfl rfl rfl ⟨rfl, rfl, rfl, rfl, rfl⟩ rfl rfl rfl rfl rfl (by kernel_rfl) Tryz.func4 (by kernel_rfl)
    (of_decide_eq_true (by kernel_rfl)) (by unfold Func.isWrapper; first | (rw [if_pos (by decide +kernel)]; kernel_rfl) | (rw [if_neg (by decide +kernel)]; exact ⟨rfl, rfl⟩))
    (fun os started H enc _ => lifted os started H enc)

theorem proved : Rows.ProfileAllCardSaid :=
  Claim7.holds_tied_plain_at .later [] [.data] true Rows.profileAllCard.stood.harness false
    over (fun _ h => by cases h) (by kernel_rfl) (fun _ h => by cases h) profileAll_row_tie rfl ⟨rfl, rfl⟩ (by kernel_rfl) rfl
    (fun f fn hf hfn => by
      obtain rfl : f = 4 := Option.some.inj ((show Tryz.prog.funcNamed "gambrel/gambrellaw09.ProfileAll" = some 4 by kernel_rfl).symm.trans hf) |>.symm
      obtain rfl : fn = Tryz.f4 := (Option.some.inj (Tryz.func4.symm.trans hfn)).symm
      exact ⟨by kernel_rfl, fun j t ht => by
        rw [Tryz.params4] at ht
        have hm : t ∈ [3] := by simpa using Array.mem_of_getElem? ht
        have hall : ([3].all fun u => !Tryz.prog.wantsStandIn u) = true := by kernel_rfl
        exact (show Tryz.prog.wantsStandIn t = false by simpa using List.all_eq_true.1 hall t hm)⟩)
    (by kernel_rfl)
end Go.Proofs.YtdidlfeolbcblaaGreatDoor.profileAll
