/- CauchySafe: whatever rows come in (10 rows of 10 numbers at most are asked): Safe tells what the document's own tells, and its error; for every field choice, no condition. -/
import Derived.Test.YtgcochamjicjiaaGreatRows
import Derived.Test.YtgcochamjicjiaaGreatCyh
import Derived.Test.YtgcochamjicjiaaGreatCyl
import Derived.Test.YtgcochamjicjiaaGreatMto
import Derived.Test.YtgcochamjicjiaaGreatArr
import Derived.Deep.RegionHeld3
import Derived.WalkKit
import Derived.ProofKit
import Derived.OpenShut
import Derived.ShutString
import Derived.ChangeOld
import Derived.Below
namespace Go.Proofs.YtgcochamjicjiaaGreat.cauchySafe
open Go.ChangeShapes Go.WideShapes Go.ChangeAt Go.RowKit
set_option linter.unusedVariables false

theorem own : ownKnob Tryz.prog.godebug = none := by kernel_rfl
theorem laidOut : laidOutB Tryz.prog = true := by kernel_rfl

set_option maxRecDepth 100000 in
set_option maxHeartbeats 8000000 in
theorem walk (a0 : Bool) (a1 : Option Addr) (len1 cap1 : Nat) (w : World) (w1 : IsMat w a1 len1 cap1) :
    Calls Tryz.prog 3 #[.bool a0, .slice a1 len1 cap1] w fun e w' => e = .returned (.bool true) ∧ Below w.heap.size w w' := by
  obtain ⟨F, La, _, _, hma⟩ := w1
  have HMA := Lib.hid hma
  clear hma
  go_enter Tryz.func3, Tryz.ntmps3
  go_wp2_with fail
  refine (awakeC _).mono ?_
  rintro e w1 ⟨rfl, hb1⟩
  have H1 := Lib.hid hb1
  clear hb1
  go_wp2_with fail
  refine (few10 w.heap.size F La a1 len1 cap1 _ ((HMA.out _ (Nat.le_refl _)).below H1.out)).mono ?_
  rintro e w' ⟨t, rfl, ht, rfl⟩
  cases t
  · clear ht
    go_wp2_with fail
    go_ret
    exact ⟨rfl, H1.out⟩
  clear ht
  go_wp2_with fail
  refine (cfield9 a0 _).mono ?_
  rintro e w2 ⟨q, wd, b, rfl, hFl, hnb, hb2⟩
  have hL := Live.start H1.out hFl hnb hb2
  have HL := Lib.hid hL
  have HG := Lib.hid hFl.1
  have hlow : w.heap.size ≤ b := hL.2.2
  have KEEP := Lib.hid (show ∀ w', Live q.p b wd w w' → Mx b w' F La a1 len1 from fun w' h => (HMA.out b hlow).below h.2.1)
  clear hFl hnb hb2 H1 hL HMA
  go_wp2_with fail
  refine (safe_any q b wd len1 La F a1 cap1 _ HL.out.1 (KEEP.out _ HL.out)).mono ?_
  rintro e w3 ⟨s, t, rfl, hs, ht, hf3, ht3⟩
  have HL3 := Lib.hid (HL.out.next hf3 ht3)
  have HS := Lib.hid hs
  have HT := Lib.hid ht
  clear hs ht hf3 ht3 HL
  go_wp2_with fail
  refine (rsafe9 q b wd len1 HG.out La F a1 cap1 _ HL3.out.1.lt (KEEP.out _ HL3.out)).mono ?_
  rintro e w4 ⟨s', t', rfl, hs', ht', hb4⟩
  obtain rfl : s = s' := Bool.eq_iff_iff.2 (HS.out.trans hs'.symm)
  obtain rfl : t = t' := Bool.eq_iff_iff.2 (HT.out.trans ht'.symm)
  have HE := Lib.hid (HL3.out.below hb4).2.1
  clear hs' ht' hb4 HL3 HS HT KEEP
  cases s
  · cases t
    · simp only [errOf, if_neg (show ¬ (false = true) by decide)]
      go_wp2_with fail
      go_ret
      exact ⟨rfl, HE.out⟩
    · simp only [errOf, if_neg (show ¬ (false = true) by decide)]
      go_wp2_with fail
      go_ret
      exact ⟨rfl, HE.out⟩
  · cases t
    · simp only [errOf, if_true]
      go_wp2_with fail
      go_ret
      exact ⟨rfl, HE.out⟩
    · simp only [errOf, if_true]
      go_wp2_with fail
      go_ret
      exact ⟨rfl, HE.out⟩

set_option maxRecDepth 100000 in
theorem lifted (os : Os) (started : os.Started) (H : Type) (enc : TypeId × Value → H) :
    ReturnsInHanded {} Tryz.checked os 3 .any (Rows.cauchySafeSpec.pre6 enc Tryz.prog Tryz.f3 Rows.cauchySafeRow.domain false) (Rows.cauchySafeSpec.post enc Tryz.prog Tryz.f3 false true false false) := by
  refine returnsInHanded_of_change (C := Tryz.checked) own started (by kernel_rfl) Tryz.func3
    (ChangeSpec.witness6 (enc := enc) (C := Tryz.checked) false ⟨#[], #[.bool false, .slice none 0 0], []⟩ 8 (by kernel_rfl) (by kernel_rfl) (by kernel_rfl) (by kernel_rfl)) ?_
  intro W base args ds gs before hval0 hW hcnd _
  have hval : ∀ (j : Nat) t v, Tryz.f3.params[j]? = some t → args[j]? = some v → Value.okWide Tryz.prog W .any base t v := hval0
  have hW' := hW
  obtain ⟨p, q, hA0, hV, rfl, hfz, hnd⟩ := hW
  have hA : DataW.TrodAll enc Tryz.prog W 0 (fun _ => true) true Tryz.f3.params.toList args.toList ds p := hA0
  rw [Tryz.params3] at hA hval
  obtain ⟨v0, vs0, d0, ds0, p0, q0, hargs, rfl, rfl, h0, r0⟩ := trodAll_cons hA
  obtain ⟨v1, vs1, d1, ds1, p1, q1, rfl, rfl, rfl, h1, r1⟩ := trodAll_cons r0
  obtain ⟨rfl, rfl, rfl⟩ := trodAll_nil r1
  obtain rfl : args = #[v0, v1] := by cases args; simp_all
  obtain ⟨rfl, rfl⟩ := trodVars_none hV
  obtain ⟨a0, rfl, rfl, rfl⟩ := open_bool Tryz.underlying4 (hval 0 4 v0 rfl rfl) h0
  obtain ⟨a1, len1, cap1, rfl⟩ := okWide_slice Tryz.underlying22 (hval 1 22 v1 rfl rfl)
  have k1 := h1
  have lt1 : ∀ x ∈ p1, x.block < W.heap.size := by obtain ⟨m, hm⟩ := k1; exact DataW.trod_lt m _ _ _ hm
  have w1 : IsMat W a1 len1 cap1 := by
    obtain ⟨fuel, hf⟩ := h1
    exact mat_in hf
  clear hA0 hval0
  refine (walk a0 a1 len1 cap1 W w1).mono fun e W' ⟨he, bel⟩ => ?_
  subst he
  exact ⟨_, rfl, _, _, _, [], _, [], hW', trodAll_mk1 (shut_bool Tryz.underlying4 _), (trodAll_cons_mk (shut_bool Tryz.underlying4 _) (trodAll_cons_mk (Below.trod laidOut (by kernel_rfl) (of_decide_eq_true (by kernel_rfl)) k1 bel lt1) trodAll_mk0)), rfl, bel.frame _, fun h => by cases h⟩

theorem over : Rows.cauchySafeRow.holds Tryz.pinned (OpenSpec.ofChange Rows.cauchySafeSpec) :=
  OpenClaim.holds_of_wide 3 Tryz.f3 rfl rfl rfl rfl rfl rfl rfl ⟨rfl, rfl, rfl, rfl, rfl⟩ rfl rfl rfl rfl rfl (by kernel_rfl) Tryz.func3 (by kernel_rfl)
    (of_decide_eq_true (by kernel_rfl)) (by unfold Func.isWrapper; first | (rw [if_pos (by decide +kernel)]; kernel_rfl) | (rw [if_neg (by decide +kernel)]; exact ⟨rfl, rfl⟩))
    (fun os started H enc _ => lifted os started H enc)

theorem proved : Rows.CauchySafeSaid := over
end Go.Proofs.YtgcochamjicjiaaGreat.cauchySafe
