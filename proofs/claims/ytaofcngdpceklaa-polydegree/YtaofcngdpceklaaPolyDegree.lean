/- Proved: for every two uint32 numbers the law PolyDegree answers true (the degree of a product is that of both together), and reads its arguments only. No conditions. -/
import Derived.Test.YtaofcngdpceklaaRows
import Derived.Test.YtaofcngdpceklaaAwake
import Derived.WalkKit
import Derived.ProofKit
import Derived.OpenShut
namespace Go.Proofs.Ytaofcngdpceklaa.polyDegree
open Go.ChangeShapes Go.WideShapes Go.ChangeAt Go.RowKit
set_option linter.unusedVariables false

theorem own : ownKnob Try.prog.godebug = none := by kernel_rfl

theorem walk (a0 : Int) (a1 : Int) (w0 : (Lit.int .u32 a0).wf = true) (w1 : (Lit.int .u32 a1).wf = true) (w : World) :
    Calls Try.prog 8 #[.int .u32 a0, .int .u32 a1] w fun e w' => e = .returned (.bool true) ∧ Below w.heap.size w w' := by
  obtain ⟨a00, a01⟩ := bounds_u32 w0
  obtain ⟨a10, a11⟩ := bounds_u32 w1
  clear w0 w1
  by_cases hz : a0 = 0 ∨ a1 = 0
  · have hm : M.mul a0.toNat a1.toNat = 0 := by
      rcases hz with rfl | rfl
      · exact M.zero_mul _
      · exact M.mul_zero _
    have HM := Lib.hid hm
    clear hm
    go_enter Try.func8, Try.ntmps8
    go_wp2_with fail
    refine (awake9 _).mono ?_
    rintro e w1 ⟨rfl, hb1⟩
    have H1 := Lib.hid hb1
    clear hb1
    by_cases h0 : a0 = 0
    · have d0 : (a0 == 0) = true := by simpa using h0
      clear hz h0
      go_wp2_with fail
      refine (mul12 _ _ _ a00 a01 a10 a11).mono ?_
      rintro e w2 ⟨rfl, hb2⟩
      rw [HM.out]
      have H2 := Lib.hid (below_trans H1.out hb2)
      clear hb2
      go_wp2_with fail
      refine (deg10 0 _ (by omega) (by omega)).mono ?_
      rintro e w' ⟨rfl, rfl⟩
      rw [show ((M.blen (0 : Int).toNat : Int) - 1) = -1 from rfl]
      go_wp2_with fail
      go_ret
      exact ⟨rfl, H2.out⟩
    · have d0 : (a0 == 0) = false := by simpa using h0
      have d1 : (a1 == 0) = true := by
        rcases hz with h | h
        · exact absurd h h0
        · simpa using h
      clear hz h0
      go_wp2_with fail
      refine (mul12 _ _ _ a00 a01 a10 a11).mono ?_
      rintro e w2 ⟨rfl, hb2⟩
      rw [HM.out]
      have H2 := Lib.hid (below_trans H1.out hb2)
      clear hb2
      go_wp2_with fail
      refine (deg10 0 _ (by omega) (by omega)).mono ?_
      rintro e w' ⟨rfl, rfl⟩
      rw [show ((M.blen (0 : Int).toNat : Int) - 1) = -1 from rfl]
      go_wp2_with fail
      go_ret
      exact ⟨rfl, H2.out⟩
  · have d0 : (a0 == 0) = false := by simp; omega
    have d1 : (a1 == 0) = false := by simp; omega
    have hm := M.blen_mul (a := a0.toNat) (b := a1.toNat) (by omega) (by omega)
    have hmb := mul_bound a0 a1 a01 a11
    have HM := Lib.hid hm
    clear hm
    go_enter Try.func8, Try.ntmps8
    go_wp2_with fail
    refine (awake9 _).mono ?_
    rintro e w1 ⟨rfl, hb1⟩
    have H1 := Lib.hid hb1
    clear hb1
    go_wp2_with fail
    refine (mul12 _ _ _ a00 a01 a10 a11).mono ?_
    rintro e w2 ⟨rfl, hb2⟩
    have H2 := Lib.hid (below_trans H1.out hb2)
    clear hb2
    go_wp2_with fail
    refine (deg10 _ _ (by omega) hmb).mono ?_
    rintro e w' ⟨rfl, rfl⟩
    rw [Int.toNat_natCast]
    go_wp2_with fail
    refine (deg10 _ _ a00 (by omega)).mono ?_
    rintro e w' ⟨rfl, rfl⟩
    go_wp2_with fail
    refine (deg10 _ _ a10 (by omega)).mono ?_
    rintro e w' ⟨rfl, rfl⟩
    have l0 : M.blen a0.toNat ≤ 32 := (M.blen_le _ _).2 (by omega)
    have l1 : M.blen a1.toNat ≤ 32 := (M.blen_le _ _).2 (by omega)
    have he : (((M.blen (M.mul a0.toNat a1.toNat) : Int) - 1) == ((M.blen a0.toNat : Int) - 1 + ((M.blen a1.toNat : Int) - 1))) = true := by
      have := HM.out
      rw [beq_iff_eq]; omega
    clear HM hmb hz
    generalize M.blen (M.mul a0.toNat a1.toNat) = x at *
    generalize M.blen a0.toNat = y at *
    generalize M.blen a1.toNat = z at *
    go_wp2_with fail
    go_ret
    exact ⟨rfl, H2.out⟩

set_option maxRecDepth 100000 in
theorem lifted (os : Os) (started : os.Started) (H : Type) (enc : TypeId × Value → H) :
    ReturnsInHanded {} Try.checked os 8 .any (Rows.polyDegreeSpec.pre6 enc Try.prog Try.f8 Rows.polyDegreeRow.domain false) (Rows.polyDegreeSpec.post enc Try.prog Try.f8 false true false false) := by
  refine returnsInHanded_of_change (C := Try.checked) own started (by kernel_rfl) Try.func8
    (ChangeSpec.witness6 (enc := enc) (C := Try.checked) false ⟨#[], #[.int .u32 0, .int .u32 0], []⟩ 8 (by kernel_rfl) (by kernel_rfl) (by kernel_rfl) (by kernel_rfl)) ?_
  intro W base args ds gs before hval0 hW hcnd _
  have hval : ∀ (j : Nat) t v, Try.f8.params[j]? = some t → args[j]? = some v → Value.okWide Try.prog W .any base t v := hval0
  have hW' := hW
  obtain ⟨p, q, hA0, hV, rfl, hfz, hnd⟩ := hW
  have hA : DataW.TrodAll enc Try.prog W 0 (fun _ => true) true Try.f8.params.toList args.toList ds p := hA0
  rw [Try.params8] at hA hval
  obtain ⟨v0, vs0, d0, ds0, p0, q0, hargs, rfl, rfl, h0, r0⟩ := trodAll_cons hA
  obtain ⟨v1, vs1, d1, ds1, p1, q1, rfl, rfl, rfl, h1, r1⟩ := trodAll_cons r0
  obtain ⟨rfl, rfl, rfl⟩ := trodAll_nil r1
  obtain rfl : args = #[v0, v1] := by cases args; simp_all
  obtain ⟨rfl, rfl⟩ := trodVars_none hV
  obtain ⟨a0, rfl, rfl, rfl, w0⟩ := open_int Try.underlying23 (hval 0 23 v0 rfl rfl) h0
  obtain ⟨a1, rfl, rfl, rfl, w1⟩ := open_int Try.underlying23 (hval 1 23 v1 rfl rfl) h1
  clear hA0 hval0
  simp only [List.append_nil] at hW'
  refine (walk a0 a1 w0 w1 W).mono fun e W' ⟨he, hg⟩ => ?_
  subst he
  exact ⟨_, rfl, _, _, _, [], _, [], hW', (trodAll_cons_mk (shut_bool Try.underlying4 _) trodAll_mk0), (trodAll_cons_mk (shut_int Try.underlying23 w0) (trodAll_cons_mk (shut_int Try.underlying23 w1) trodAll_mk0)), rfl, hg.frame _, fun h => by cases h⟩

theorem over : Rows.polyDegreeRow.holds Try.pinned (OpenSpec.ofChange Rows.polyDegreeSpec) :=
  OpenClaim.holds_of_wide 8 Try.f8 rfl rfl rfl rfl rfl rfl rfl ⟨rfl, rfl, rfl, rfl, rfl⟩ rfl rfl rfl rfl rfl (by kernel_rfl) Try.func8 (by kernel_rfl)
    (of_decide_eq_true (by kernel_rfl)) (by unfold Func.isWrapper; first | (rw [if_pos (by decide +kernel)]; kernel_rfl) | (rw [if_neg (by decide +kernel)]; exact ⟨rfl, rfl⟩))
    (fun os started H enc _ => lifted os started H enc)

theorem proved : Rows.PolyDegreeSaid :=
  over
#print axioms proved
end Go.Proofs.Ytaofcngdpceklaa.polyDegree
