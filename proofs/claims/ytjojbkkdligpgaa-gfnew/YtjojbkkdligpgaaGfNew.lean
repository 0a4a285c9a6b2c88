/- Proved: for every int and every uint32 the law GfNew answers true (there is a field just of the widths and polynomials that the document says; of nil all is 0), and its arguments read as they did. No conditions. -/
import Derived.Test.YtjojbkkdligpgaaRows
import Derived.Test.YtjojbkkdligpgaaGaw
import Derived.WalkKit
import Derived.ProofKit
import Derived.OpenShut
namespace Go.Proofs.Ytjojbkkdligpgaa.gfNew
open Go.ChangeShapes Go.WideShapes Go.ChangeAt Go.RowKit
set_option linter.unusedVariables false

theorem own : ownKnob Try.prog.godebug = none := by kernel_rfl

theorem good_fits {v p : Int} (p0 : 0 ≤ p) (h : Fits v p) : ∃ P wd : Nat, p = (P : Int) ∧ v = (wd : Int) ∧ Good P wd := by
  obtain ⟨hv, hd, hp⟩ := h
  obtain ⟨P, rfl⟩ := Int.eq_ofNat_of_zero_le p0
  rw [Int.toNat_natCast] at hd hp
  obtain ⟨wd, rfl⟩ := Int.eq_ofNat_of_zero_le (show 0 ≤ v by omega)
  exact ⟨P, wd, rfl, rfl, good_of hp (by omega) (by omega)⟩

set_option maxHeartbeats 1000000 in
theorem walk (a0 : Int) (a1 : Int) (w0 : (Lit.int .i64 a0).wf = true) (w1 : (Lit.int .u32 a1).wf = true) (w : World) :
    Calls Try.prog 3 #[.int .i64 a0, .int .u32 a1] w fun e w' => e = .returned (.bool true) ∧ Below w.heap.size w w' := by
  obtain ⟨p0, p1⟩ := bounds_u32 w1
  clear w0 w1
  by_cases hf : Fits a0 a1
  · obtain ⟨P, wd, rfl, rfl, hg⟩ := good_fits p0 hf
    have hk := hg.kind
    have kb := hk.bounds
    have HF := Lib.hid hf
    have hr : ((wd : Int) == (wd : Int)) = true := by simp
    have hs : ((M.ord P : Int) + 1 == wrap64 (2 ^ wd)) = true := by
      rcases hk with ⟨rfl, h⟩ | ⟨rfl, h⟩ <;> rw [h] <;> decide +kernel
    clear hf
    go_enter Try.func3, Try.ntmps3
    go_wp2_with fail
    refine (awake9 _).mono ?_
    rintro e w1 ⟨rfl, hb1⟩
    have H1 := Lib.hid hb1
    clear hb1
    go_wp2_with fail
    refine (new_yes P wd hg _).mono ?_
    rintro e w2 ⟨b, rfl, h2, hn, hb2⟩
    have H2 := Lib.hid (Live.start H1.out h2 hn hb2)
    clear h2 hn hb2 H1
    go_wp2_with fail
    refine (known11 _ _ p0 p1 _).mono ?_
    rintro e w3 ⟨t, rfl, ht, rfl⟩
    obtain rfl : t = true := ht.2 HF.out
    clear ht
    go_wp2_with fail
    refine (bits14 b wd _ H2.out.1.c0).mono ?_
    rintro e w' ⟨rfl, rfl⟩
    go_wp2_with fail
    refine (size13 b wd _ hk _ H2.out.1.c0).mono ?_
    rintro e w' ⟨rfl, rfl⟩
    go_wp2_with fail
    go_ret
    exact ⟨rfl, H2.out.2.1⟩
  · have HF := Lib.hid hf
    clear hf
    go_enter Try.func3, Try.ntmps3
    go_wp2_with fail
    refine (awake9 _).mono ?_
    rintro e w1 ⟨rfl, hb1⟩
    have H1 := Lib.hid hb1
    clear hb1
    go_wp2_with fail
    refine (new_no _ _ p0 p1 HF.out _).mono ?_
    rintro e w2 ⟨rfl, hb2⟩
    have H2 := Lib.hid (below_trans H1.out hb2)
    clear hb2 H1
    go_wp2_with fail
    refine (known11 _ _ p0 p1 _).mono ?_
    rintro e w3 ⟨t, rfl, ht, rfl⟩
    cases t
    · clear ht
      go_wp2_with fail
      refine (fmul_nil 1 1 _).mono ?_
      rintro e w' ⟨rfl, rfl⟩
      go_wp2_with fail
      refine (size_nil _).mono ?_
      rintro e w' ⟨rfl, rfl⟩
      go_wp2_with fail
      go_ret
      exact ⟨rfl, H2.out⟩
    · exact absurd (ht.1 rfl) HF.out

set_option maxRecDepth 100000 in
theorem lifted (os : Os) (started : os.Started) (H : Type) (enc : TypeId × Value → H) :
    ReturnsInHanded {} Try.checked os 3 .any (Rows.gfNewSpec.pre6 enc Try.prog Try.f3 Rows.gfNewRow.domain false) (Rows.gfNewSpec.post enc Try.prog Try.f3 false true false false) := by
  refine returnsInHanded_of_change (C := Try.checked) own started (by kernel_rfl) Try.func3
    (ChangeSpec.witness6 (enc := enc) (C := Try.checked) false ⟨#[], #[.int .i64 0, .int .u32 0], []⟩ 8 (by kernel_rfl) (by kernel_rfl) (by kernel_rfl) (by kernel_rfl)) ?_
  intro W base args ds gs before hval0 hW hcnd _
  have hval : ∀ (j : Nat) t v, Try.f3.params[j]? = some t → args[j]? = some v → Value.okWide Try.prog W .any base t v := hval0
  have hW' := hW
  obtain ⟨p, q, hA0, hV, rfl, hfz, hnd⟩ := hW
  have hA : DataW.TrodAll enc Try.prog W 0 (fun _ => true) true Try.f3.params.toList args.toList ds p := hA0
  rw [Try.params3] at hA hval
  obtain ⟨v0, vs0, d0, ds0, p0, q0, hargs, rfl, rfl, h0, r0⟩ := trodAll_cons hA
  obtain ⟨v1, vs1, d1, ds1, p1, q1, rfl, rfl, rfl, h1, r1⟩ := trodAll_cons r0
  obtain ⟨rfl, rfl, rfl⟩ := trodAll_nil r1
  obtain rfl : args = #[v0, v1] := by cases args; simp_all
  obtain ⟨rfl, rfl⟩ := trodVars_none hV
  obtain ⟨a0, rfl, rfl, rfl, w0⟩ := open_int Try.underlying3 (hval 0 3 v0 rfl rfl) h0
  obtain ⟨a1, rfl, rfl, rfl, w1⟩ := open_int Try.underlying22 (hval 1 22 v1 rfl rfl) h1
  clear hA0 hval0
  simp only [List.append_nil] at hW'
  refine (walk a0 a1 w0 w1 W).mono fun e W' ⟨he, hg⟩ => ?_
  subst he
  exact ⟨_, rfl, _, _, _, [], _, [], hW', (trodAll_cons_mk (shut_bool Try.underlying4 _) trodAll_mk0), (trodAll_cons_mk (shut_int Try.underlying3 w0) (trodAll_cons_mk (shut_int Try.underlying22 w1) trodAll_mk0)), rfl, hg.frame _, fun h => by cases h⟩

theorem over : Rows.gfNewRow.holds Try.pinned (OpenSpec.ofChange Rows.gfNewSpec) :=
  OpenClaim.holds_of_wide 3 Try.f3 rfl rfl rfl rfl rfl rfl rfl ⟨rfl, rfl, rfl, rfl, rfl⟩ rfl rfl rfl rfl rfl (by kernel_rfl) Try.func3 (by kernel_rfl)
    (of_decide_eq_true (by kernel_rfl)) (by unfold Func.isWrapper; first | (rw [if_pos (by decide +kernel)]; kernel_rfl) | (rw [if_neg (by decide +kernel)]; exact ⟨rfl, rfl⟩))
    (fun os started H enc _ => lifted os started H enc)

theorem proved : Rows.GfNewSaid :=
  over
#print axioms proved
end Go.Proofs.Ytjojbkkdligpgaa.gfNew
