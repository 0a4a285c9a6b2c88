/- Proved: for every bool and every two int the law JvanTells answers true (the rows of powers, and the parity rows, are those of the document), and its arguments read as they did. No conditions. -/
import Derived.Test.YtecnfkchlebafaaGreatRows
import Derived.Test.YtecnfkchlebafaaGreatJvh
import Derived.Test.YtecnfkchlebafaaGreatMto
import Derived.Test.YtecnfkchlebafaaGreatArr
import Derived.Deep.RegionHeld3
import Derived.WalkKit
import Derived.ProofKit
import Derived.OpenShut
import Derived.ShutString
import Derived.ChangeOld
import Derived.Below
namespace Go.Proofs.YtecnfkchlebafaaGreat.jvanTells
open Go.ChangeShapes Go.WideShapes Go.ChangeAt Go.RowKit
set_option linter.unusedVariables false

theorem own : ownKnob Tryz.prog.godebug = none := by kernel_rfl
theorem laidOut : laidOutB Tryz.prog = true := by kernel_rfl

theorem few {t : Bool} {n m : Nat} (h : t = true → n ≤ 20 ∧ m ≤ 20) : cond t n 0 ≤ 1000 ∧ ∀ r, r < cond t n 0 → m ≤ 1000 := by
  cases t
  · exact ⟨Nat.zero_le _, fun r hr => absurd hr (Nat.not_lt_zero _)⟩
  · have := h rfl
    exact ⟨by simp only [cond]; omega, fun _ _ => by omega⟩

set_option maxRecDepth 100000 in
set_option maxHeartbeats 4000000 in
theorem walk (a0 : Bool) (a1 a2 : Int) (w : World) (w1 : (Lit.int .i64 a1).wf = true) (w2 : (Lit.int .i64 a2).wf = true) :
    Calls Tryz.prog 3 #[.bool a0, .int .i64 a1, .int .i64 a2] w fun e w' => e = .returned (.bool true) ∧ Below w.heap.size w w' := by
  have h63 := bounds_i64 w1
  obtain ⟨u, hu⟩ : ∃ u : Bool, u = true ↔ fitsI a1 a2 := by
    by_cases h : fitsI a1 a2
    · exact ⟨true, by simp [h]⟩
    · exact ⟨false, by simp [h]⟩
  have H63 := Lib.hid (show a1 ≤ 9223372036854775807 by omega)
  have HU := Lib.hid hu
  have FU := Lib.hid (few (t := u) (n := a1.toNat + a2.toNat) (m := a1.toNat) (fun h => by obtain ⟨h1, h2, h3⟩ := hu.1 h; have := h1.1; have := h2.1; omega))
  have FI := Lib.hid (few (t := u) (n := a2.toNat) (m := a1.toNat) (fun h => by obtain ⟨h1, h2, h3⟩ := hu.1 h; have := h1.1; have := h2.1; omega))
  clear hu h63
  go_enter Tryz.func3, Tryz.ntmps3
  go_wp2_with fail
  refine (awakeJ _).mono ?_
  rintro e w1 ⟨rfl, hb1⟩
  have H1 := Lib.hid hb1
  clear hb1
  go_wp2_with fail
  refine (jfield9 a0 _).mono ?_
  rintro e w2 ⟨q, wd, b, rfl, hFl, hnb, hb2⟩
  have HL := Lib.hid (Live.start H1.out hFl hnb hb2)
  have HG := Lib.hid hFl.1
  clear hFl hnb hb2 H1
  go_wp2_with fail
  refine (jext_any q b wd a1 a2 H63.out u _ HU.out HL.out.1).mono ?_
  rintro e w3 ⟨A3, c3, rfl, hx3, hf3, ht3⟩
  have HL3 := Lib.hid (HL.out.next hf3 ht3)
  have X3 := Lib.hid hx3
  clear hx3 hf3 ht3 HL
  go_wp2_with fail
  refine (rext_any q b wd a1 a2 u _ HU.out HG.out HL3.out.1.lt).mono ?_
  rintro e w4 ⟨A4, c4, rfl, hx4, hb4⟩
  have HL4 := Lib.hid (HL3.out.below hb4)
  have X4 := Lib.hid (X3.out.below hb4)
  have Y4 := Lib.hid hx4
  clear hx4 hb4 HL3 X3
  go_wp2_with fail
  refine (jpar_any q b wd a1 a2 H63.out u _ HU.out HL4.out.1).mono ?_
  rintro e w5 ⟨A5, c5, rfl, hx5, hf5, ht5⟩
  have HL5 := Lib.hid (HL4.out.next hf5 ht5)
  have X5 := Lib.hid (X4.out.turned ht5)
  have Y5 := Lib.hid (Y4.out.turned ht5)
  have Z5 := Lib.hid hx5
  clear hx5 hf5 ht5 HL4 X4 Y4
  go_wp2_with fail
  refine (rpar_any q b wd a1 a2 u _ HU.out HG.out HL5.out.1.lt).mono ?_
  rintro e w6 ⟨A6, c6, rfl, hx6, hb6⟩
  have HL6 := Lib.hid (HL5.out.below hb6)
  have X6 := Lib.hid (X5.out.below hb6)
  have Y6 := Lib.hid (Y5.out.below hb6)
  have Z6 := Lib.hid (Z5.out.below hb6)
  have U6 := Lib.hid hx6
  clear hx6 hb6 HL5 X5 Y5 Z5
  have HE := Lib.hid (fun n => (HL6.out.below (below_drewN' w6 n)).2.1)
  obtain ⟨n1, hn1⟩ : ∃ n, cond u (a1.toNat + a2.toNat) 0 = n := ⟨_, rfl⟩
  obtain ⟨n2, hn2⟩ : ∃ n, cond u a2.toNat 0 = n := ⟨_, rfl⟩
  rw [hn1] at X6 Y6 FU ⊢
  rw [hn2] at Z6 U6 FI ⊢
  clear hn1 hn2 HU HG H63
  go_wp2_with fail
  refine (jwas12 u _).mono ?_
  rintro e w' ⟨rfl, rfl⟩
  go_wp2_with fail
  refine (same19 b b _ _ _ _ A3 A4 n1 c3 c4 FU.out.1 FU.out.2 _ X6.out Y6.out (fun _ _ => rfl) (fun _ _ _ _ => rfl)).mono ?_
  rintro e w9 ⟨rfl, q9, rfl⟩
  go_wp2_with fail
  refine (jwas12 u _).mono ?_
  rintro e w' ⟨rfl, rfl⟩
  go_wp2_with fail
  refine (same19 b b _ _ _ _ A5 A6 n2 c5 c6 FI.out.1 FI.out.2 _ (Z6.out.below (below_drewN' w6 q9)) (U6.out.below (below_drewN' w6 q9)) (fun _ _ => rfl) (fun _ _ _ _ => rfl)).mono ?_
  rintro e w10 ⟨rfl, q10, rfl⟩
  go_wp2_with fail
  go_ret
  exact ⟨rfl, HE.out _⟩

set_option maxRecDepth 100000 in
theorem lifted (os : Os) (started : os.Started) (H : Type) (enc : TypeId × Value → H) :
    ReturnsInHanded {} Tryz.checked os 3 .any (Rows.jvanTellsSpec.pre6 enc Tryz.prog Tryz.f3 Rows.jvanTellsRow.domain false) (Rows.jvanTellsSpec.post enc Tryz.prog Tryz.f3 false true false false) := by
  refine returnsInHanded_of_change (C := Tryz.checked) own started (by kernel_rfl) Tryz.func3
    (ChangeSpec.witness6 (enc := enc) (C := Tryz.checked) false ⟨#[], #[.bool false, .int .i64 0, .int .i64 0], []⟩ 8 (by kernel_rfl) (by kernel_rfl) (by kernel_rfl) (by kernel_rfl)) ?_
  intro W base args ds gs before hval0 hW hcnd _
  have hval : ∀ (j : Nat) t v, Tryz.f3.params[j]? = some t → args[j]? = some v → Value.okWide Tryz.prog W .any base t v := hval0
  have hW' := hW
  obtain ⟨p, q, hA0, hV, rfl, hfz, hnd⟩ := hW
  have hA : DataW.TrodAll enc Tryz.prog W 0 (fun _ => true) true Tryz.f3.params.toList args.toList ds p := hA0
  rw [Tryz.params3] at hA hval
  obtain ⟨v0, vs0, d0, ds0, p0, q0, hargs, rfl, rfl, h0, r0⟩ := trodAll_cons hA
  obtain ⟨v1, vs1, d1, ds1, p1, q1, rfl, rfl, rfl, h1, r1⟩ := trodAll_cons r0
  obtain ⟨v2, vs2, d2, ds2, p2, q2, rfl, rfl, rfl, h2, r2⟩ := trodAll_cons r1
  obtain ⟨rfl, rfl, rfl⟩ := trodAll_nil r2
  obtain rfl : args = #[v0, v1, v2] := by cases args; simp_all
  obtain ⟨rfl, rfl⟩ := trodVars_none hV
  obtain ⟨a0, rfl, rfl, rfl⟩ := open_bool Tryz.underlying4 (hval 0 4 v0 rfl rfl) h0
  obtain ⟨a1, rfl, rfl, rfl, w1⟩ := open_int Tryz.underlying3 (hval 1 3 v1 rfl rfl) h1
  obtain ⟨a2, rfl, rfl, rfl, w2⟩ := open_int Tryz.underlying3 (hval 2 3 v2 rfl rfl) h2
  clear hA0 hval0
  refine (walk a0 a1 a2 W w1 w2).mono fun e W' ⟨he, bel⟩ => ?_
  subst he
  exact ⟨_, rfl, _, _, _, [], _, [], hW', trodAll_mk1 (shut_bool Tryz.underlying4 _), (trodAll_cons_mk (shut_bool Tryz.underlying4 _) (trodAll_cons_mk (shut_int Tryz.underlying3 w1) (trodAll_cons_mk (shut_int Tryz.underlying3 w2) trodAll_mk0))), rfl, bel.frame _, fun h => by cases h⟩

theorem over : Rows.jvanTellsRow.holds Tryz.pinned (OpenSpec.ofChange Rows.jvanTellsSpec) :=
  OpenClaim.holds_of_wide 3 Tryz.f3 rfl rfl rfl rfl rfl rfl rfl ⟨rfl, rfl, rfl, rfl, rfl⟩ rfl rfl rfl rfl rfl (by kernel_rfl) Tryz.func3 (by kernel_rfl)
    (of_decide_eq_true (by kernel_rfl)) (by unfold Func.isWrapper; first | (rw [if_pos (by decide +kernel)]; kernel_rfl) | (rw [if_neg (by decide +kernel)]; exact ⟨rfl, rfl⟩))
    (fun os started H enc _ => lifted os started H enc)

theorem proved : Rows.JvanTellsSaid := over
end Go.Proofs.YtecnfkchlebafaaGreat.jvanTells
