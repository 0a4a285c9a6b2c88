/- Proved: for every three uint32 numbers the law PolyRing answers true (products do not hang on their order, and spread over sums), and reads its arguments only. No conditions. -/
import Derived.Test.YtaofcngdpceklaaRows
import Derived.Test.YtaofcngdpceklaaAwake
import Derived.WalkKit
import Derived.ProofKit
import Derived.OpenShut
namespace Go.Proofs.Ytaofcngdpceklaa.polyRing
open Go.ChangeShapes Go.WideShapes Go.ChangeAt Go.RowKit
set_option linter.unusedVariables false

theorem own : ownKnob Try.prog.godebug = none := by kernel_rfl

theorem walk (a0 : Int) (a1 : Int) (a2 : Int) (w0 : (Lit.int .u32 a0).wf = true) (w1 : (Lit.int .u32 a1).wf = true) (w2 : (Lit.int .u32 a2).wf = true) (w : World) :
    Calls Try.prog 5 #[.int .u32 a0, .int .u32 a1, .int .u32 a2] w fun e w' => e = .returned (.bool true) ∧ Below w.heap.size w w' := by
  obtain ⟨a00, a01⟩ := bounds_u32 w0
  obtain ⟨a10, a11⟩ := bounds_u32 w1
  obtain ⟨a20, a21⟩ := bounds_u32 w2
  clear w0 w1 w2
  have HX := Lib.hid (u32_xor a1 a2 a10 (by omega) a20 (by omega))
  have hxb : ((a1.toNat ^^^ a2.toNat : Nat) : Int) ≤ 4294967295 := by
    have := Nat.xor_lt_two_pow (x := a1.toNat) (y := a2.toNat) (n := 32) (by omega) (by omega)
    omega
  have m1 := mul_bound a0 a1 a01 a11
  have m2 := mul_bound a0 a2 a01 a21
  go_enter Try.func5, Try.ntmps5
  go_wp2_with fail
  refine (awake9 _).mono ?_
  rintro e w1 ⟨rfl, hb1⟩
  have H1 := Lib.hid hb1
  clear hb1
  go_wp2_with fail
  refine (mul12 _ _ _ a00 a01 a10 a11).mono ?_
  rintro e w2 ⟨rfl, hb2⟩
  have H2 := Lib.hid (below_trans H1.out hb2)
  clear hb2 H1
  go_wp2_with fail
  refine (mul12 _ _ _ a10 a11 a00 a01).mono ?_
  rintro e w3 ⟨rfl, hb3⟩
  rw [M.mul_comm a1.toNat a0.toNat]
  have H3 := Lib.hid (below_trans H2.out hb3)
  clear hb3 H2
  go_wp2_with fail
  rw [HX.out]
  refine (mul12 _ _ _ a00 a01 (by omega) hxb).mono ?_
  rintro e w4 ⟨rfl, hb4⟩
  rw [Int.toNat_natCast]
  have H4 := Lib.hid (below_trans H3.out hb4)
  clear hb4 H3
  go_wp2_with fail
  refine (mul12 _ _ _ a00 a01 a10 a11).mono ?_
  rintro e w5 ⟨rfl, hb5⟩
  have H5 := Lib.hid (below_trans H4.out hb5)
  clear hb5 H4
  go_wp2_with fail
  refine (mul12 _ _ _ a00 a01 a20 a21).mono ?_
  rintro e w6 ⟨rfl, hb6⟩
  have H6 := Lib.hid (below_trans H5.out hb6)
  clear hb6 H5
  have hd : (((M.mul a0.toNat (a1.toNat ^^^ a2.toNat) : Nat) : Int) == bits BinOp.xor IntKind.u64 (M.mul a0.toNat a1.toNat) (M.mul a0.toNat a2.toNat)) = true := by
    rw [u64_xor_nat _ _ (by omega) (by omega), M.mul_lin a0.toNat]; simp
  go_wp2_with fail
  refine (mul12 _ _ _ a00 a01 (by omega) (by omega)).mono ?_
  rintro e w7 ⟨rfl, hb7⟩
  rw [show M.mul a0.toNat (1 : Int).toNat = a0.toNat from M.mul_one _, Int.toNat_of_nonneg a00]
  have H7 := Lib.hid (below_trans H6.out hb7)
  clear hb7 H6
  go_wp2_with fail
  refine (mul12 _ _ _ a00 a01 (by omega) (by omega)).mono ?_
  rintro e w8 ⟨rfl, hb8⟩
  rw [show ((M.mul a0.toNat (2 : Int).toNat : Nat) : Int) = 2 * a0 by rw [show M.mul a0.toNat (2 : Int).toNat = 2 * a0.toNat from M.mul_two _]; omega]
  have H8 := Lib.hid (below_trans H7.out hb8)
  clear hb8 H7
  go_wp2_with fail
  refine (mul12 _ _ _ a00 a01 a10 a11).mono ?_
  rintro e w9 ⟨rfl, hb9⟩
  have H9 := Lib.hid (below_trans H8.out hb9)
  clear hb9 H8
  go_wp2_with fail
  refine (mod14 _ _ _ (by omega) m1 a00 a01).mono ?_
  rintro e w10 ⟨rfl, hb10⟩
  rw [Int.toNat_natCast, M.md_mul_self]
  have H10 := Lib.hid (below_trans H9.out hb10)
  clear hb10 H9
  go_wp2_with fail
  go_ret
  exact ⟨rfl, H10.out⟩

set_option maxRecDepth 100000 in
theorem lifted (os : Os) (started : os.Started) (H : Type) (enc : TypeId × Value → H) :
    ReturnsInHanded {} Try.checked os 5 .any (Rows.polyRingSpec.pre6 enc Try.prog Try.f5 Rows.polyRingRow.domain false) (Rows.polyRingSpec.post enc Try.prog Try.f5 false true false false) := by
  refine returnsInHanded_of_change (C := Try.checked) own started (by kernel_rfl) Try.func5
    (ChangeSpec.witness6 (enc := enc) (C := Try.checked) false ⟨#[], #[.int .u32 0, .int .u32 0, .int .u32 0], []⟩ 8 (by kernel_rfl) (by kernel_rfl) (by kernel_rfl) (by kernel_rfl)) ?_
  intro W base args ds gs before hval0 hW hcnd _
  have hval : ∀ (j : Nat) t v, Try.f5.params[j]? = some t → args[j]? = some v → Value.okWide Try.prog W .any base t v := hval0
  have hW' := hW
  obtain ⟨p, q, hA0, hV, rfl, hfz, hnd⟩ := hW
  have hA : DataW.TrodAll enc Try.prog W 0 (fun _ => true) true Try.f5.params.toList args.toList ds p := hA0
  rw [Try.params5] at hA hval
  obtain ⟨v0, vs0, d0, ds0, p0, q0, hargs, rfl, rfl, h0, r0⟩ := trodAll_cons hA
  obtain ⟨v1, vs1, d1, ds1, p1, q1, rfl, rfl, rfl, h1, r1⟩ := trodAll_cons r0
  obtain ⟨v2, vs2, d2, ds2, p2, q2, rfl, rfl, rfl, h2, r2⟩ := trodAll_cons r1
  obtain ⟨rfl, rfl, rfl⟩ := trodAll_nil r2
  obtain rfl : args = #[v0, v1, v2] := by cases args; simp_all
  obtain ⟨rfl, rfl⟩ := trodVars_none hV
  obtain ⟨a0, rfl, rfl, rfl, w0⟩ := open_int Try.underlying23 (hval 0 23 v0 rfl rfl) h0
  obtain ⟨a1, rfl, rfl, rfl, w1⟩ := open_int Try.underlying23 (hval 1 23 v1 rfl rfl) h1
  obtain ⟨a2, rfl, rfl, rfl, w2⟩ := open_int Try.underlying23 (hval 2 23 v2 rfl rfl) h2
  clear hA0 hval0
  simp only [List.append_nil] at hW'
  refine (walk a0 a1 a2 w0 w1 w2 W).mono fun e W' ⟨he, hg⟩ => ?_
  subst he
  exact ⟨_, rfl, _, _, _, [], _, [], hW', (trodAll_cons_mk (shut_bool Try.underlying4 _) trodAll_mk0), (trodAll_cons_mk (shut_int Try.underlying23 w0) (trodAll_cons_mk (shut_int Try.underlying23 w1) (trodAll_cons_mk (shut_int Try.underlying23 w2) trodAll_mk0))), rfl, hg.frame _, fun h => by cases h⟩

theorem over : Rows.polyRingRow.holds Try.pinned (OpenSpec.ofChange Rows.polyRingSpec) :=
  OpenClaim.holds_of_wide 5 Try.f5 rfl rfl rfl rfl rfl rfl rfl ⟨rfl, rfl, rfl, rfl, rfl⟩ rfl rfl rfl rfl rfl (by kernel_rfl) Try.func5 (by kernel_rfl)
    (of_decide_eq_true (by kernel_rfl)) (by unfold Func.isWrapper; first | (rw [if_pos (by decide +kernel)]; kernel_rfl) | (rw [if_neg (by decide +kernel)]; exact ⟨rfl, rfl⟩))
    (fun os started H enc _ => lifted os started H enc)

theorem proved : Rows.PolyRingSaid :=
  over
#print axioms proved
end Go.Proofs.Ytaofcngdpceklaa.polyRing
