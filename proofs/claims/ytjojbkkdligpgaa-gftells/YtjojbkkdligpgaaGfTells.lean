/- Proved: for every uint8 and every three ints the law GfTells answers true (of any numbers the product, the quotient, the inverse, and any power, are as the document says), and its arguments read as they did. No conditions. -/
import Derived.Test.YtjojbkkdligpgaaRows
import Derived.Test.YtjojbkkdligpgaaGaw
import Derived.Test.YtjojbkkdligpgaaArr
import Derived.WalkKit
import Derived.ProofKit
import Derived.OpenShut
import Derived.ChangeOld
import Derived.Deep.RegionHeld3
namespace Go.Proofs.Ytjojbkkdligpgaa.gfTells
open Go.ChangeShapes Go.WideShapes Go.ChangeAt Go.RowKit
set_option linter.unusedVariables false

theorem own : ownKnob Try.prog.godebug = none := by kernel_rfl
theorem laidOut : laidOutB Try.prog = true := by kernel_rfl
theorem cells1 : Try.prog.cellsOf 3 = 1 := by kernel_rfl
theorem cells3 : Try.prog.cellsOf 30 = 3 := by kernel_rfl

theorem fdiv_form (p : Nat) (a b : Int) : ∃ (v : Int) (t : Bool), fdiv p a b = .tuple #[.int .i64 v, .bool t] := by
  unfold fdiv
  split
  · exact ⟨_, _, rfl⟩
  · exact ⟨_, _, rfl⟩
theorem finv_form (p : Nat) (a : Int) : ∃ (v : Int) (t : Bool), finv p a = .tuple #[.int .i64 v, .bool t] := by
  unfold finv
  split
  · exact ⟨_, _, rfl⟩
  · exact ⟨_, _, rfl⟩

/-- what holds in the law's last statement -/
theorem keepL {p b wd B : Nat} {v w w' : World} {n0 n1 n2 : Value} (hv : B < v.heap.size) (hf : Fld p b wd w') (ht : Turned b w w')
    (h : w.cell? ⟨B, 0, none⟩ = some n0 ∧ w.cell? ⟨B, 1, none⟩ = some n1 ∧ w.cell? ⟨B, 2, none⟩ = some n2 ∧ Live p b wd v w) :
    w'.cell? ⟨B, 0, none⟩ = some n0 ∧ w'.cell? ⟨B, 1, none⟩ = some n1 ∧ w'.cell? ⟨B, 2, none⟩ = some n2 ∧ Live p b wd v w' := by
  obtain ⟨h0, h1, h2, hL⟩ := h
  have hL' := hL.next hf ht
  exact ⟨(hL'.cell (q := ⟨B, 0, none⟩) hv).trans ((hL.cell (q := ⟨B, 0, none⟩) hv).symm.trans h0), (hL'.cell (q := ⟨B, 1, none⟩) hv).trans ((hL.cell (q := ⟨B, 1, none⟩) hv).symm.trans h1), (hL'.cell (q := ⟨B, 2, none⟩) hv).trans ((hL.cell (q := ⟨B, 2, none⟩) hv).symm.trans h2), hL'⟩

theorem keepF {p b wd B : Nat} {v w : World} {n0 n1 n2 : Value}
    (h : w.cell? ⟨B, 0, none⟩ = some n0 ∧ w.cell? ⟨B, 1, none⟩ = some n1 ∧ w.cell? ⟨B, 2, none⟩ = some n2 ∧ Live p b wd v w) : Fld p b wd w := h.2.2.2.1

set_option maxRecDepth 100000 in
set_option maxHeartbeats 4000000 in
theorem walk (k n0 n1 n2 : Int) (k0 : 0 ≤ k) (k1 : k ≤ 255) (z1 : n2 ≤ 9223372036854775807) (w : World) :
    Calls Try.prog 4 #[.int .u8 k, .agg #[.int .i64 n0, .int .i64 n1, .int .i64 n2]] w fun e w' => e = .returned (.bool true) ∧ Below w.heap.size w w' := by
  go_enter Try.func4, Try.ntmps4
  go_wp2_with fail
  have HW := Lib.hid (show Below w.heap.size w (w.alloc (.cells #[.int .i64 n0, .int .i64 n1, .int .i64 n2] 30)) from (Below.refl _ _).alloc (Nat.le_refl _) _)
  have g0 : (w.alloc (.cells #[.int .i64 n0, .int .i64 n1, .int .i64 n2] 30)).cell? ⟨w.heap.size, 0, none⟩ = some (.int .i64 n0) := by simp
  have g1 : (w.alloc (.cells #[.int .i64 n0, .int .i64 n1, .int .i64 n2] 30)).cell? ⟨w.heap.size, 1, none⟩ = some (.int .i64 n1) := by simp
  have g2 : (w.alloc (.cells #[.int .i64 n0, .int .i64 n1, .int .i64 n2] 30)).cell? ⟨w.heap.size, 2, none⟩ = some (.int .i64 n2) := by simp
  have gz : w.heap.size < (w.alloc (.cells #[.int .i64 n0, .int .i64 n1, .int .i64 n2] 30)).heap.size := by simp
  generalize w.alloc (.cells #[.int .i64 n0, .int .i64 n1, .int .i64 n2] 30) = v at *
  have G0 := Lib.hid g0
  have G1 := Lib.hid g1
  have G2 := Lib.hid g2
  clear g0 g1 g2
  refine (awake9 _).mono ?_
  rintro e w1 ⟨rfl, hb1⟩
  have H1 := Lib.hid hb1
  clear hb1
  go_wp2_with fail
  refine (field15 _ k0 k1 _).mono ?_
  rintro e w2 ⟨p, wd, hg, rfl, hb2⟩
  have H2 := Lib.hid (below_trans H1.out hb2)
  clear hb2 H1
  go_wp2_with fail
  refine (new_yes p wd hg _).mono ?_
  rintro e w3 ⟨b, rfl, h3, hn, hb3⟩
  have H3 := Lib.hid (Live.start H2.out h3 hn hb3)
  clear h3 hn hb3 H2
  obtain ⟨q, t, hD⟩ := fdiv_form p n0 n1
  obtain ⟨i, s, hI⟩ := finv_form p n0
  have HD := Lib.hid hD
  have HI := Lib.hid hI
  clear hD hI
  have l0 := (H3.out.cell (q := ⟨w.heap.size, 0, none⟩) gz).trans G0.out
  have l1 := (H3.out.cell (q := ⟨w.heap.size, 1, none⟩) gz).trans G1.out
  go_wp2_with fail
  clear l0 l1
  refine (fdiv16 p b wd n0 n1 _ H3.out.1).mono ?_
  rintro e w4 ⟨rfl, h4, t4⟩
  rw [HD.out]
  have H4 := Lib.hid (H3.out.next h4 t4)
  clear h4 t4 H3
  have l0 := (H4.out.cell (q := ⟨w.heap.size, 0, none⟩) gz).trans G0.out
  have l1 := (H4.out.cell (q := ⟨w.heap.size, 1, none⟩) gz).trans G1.out
  go_wp2_with fail
  refine (rdiv17 p wd hg n0 n1 _).mono ?_
  rintro e w' ⟨rfl, rfl⟩
  rw [HD.out]
  go_wp2_with fail
  clear l0 l1
  refine (finv18 p b wd n0 _ H4.out.1).mono ?_
  rintro e w5 ⟨rfl, h5, t5⟩
  rw [HI.out]
  have H5 := Lib.hid (H4.out.next h5 t5)
  clear h5 t5 H4
  have l0 := (H5.out.cell (q := ⟨w.heap.size, 0, none⟩) gz).trans G0.out
  have l1 := (H5.out.cell (q := ⟨w.heap.size, 1, none⟩) gz).trans G1.out
  have l2 := (H5.out.cell (q := ⟨w.heap.size, 2, none⟩) gz).trans G2.out
  go_wp2_with fail
  refine (rinv19 p wd hg n0 _).mono ?_
  rintro e w' ⟨rfl, rfl⟩
  rw [HI.out]
  go_wp2_with fail
  have hL := H5.out
  clear H5 G0 G1 G2 HD HI
  go_region_held3 (fun w' => w'.cell? ⟨w.heap.size, 0, none⟩ = some (.int .i64 n0) ∧ w'.cell? ⟨w.heap.size, 1, none⟩ = some (.int .i64 n1) ∧ w'.cell? ⟨w.heap.size, 2, none⟩ = some (.int .i64 n2) ∧ Live p b wd v w')
    (first | exact ⟨l0, l1, l2, hL.drew⟩ | assumption | (refine keepL gz ‹_› ‹_› ?_; assumption))
    (first
      | (go_at_call 12; refine (fmul12 p b wd n0 n1 _ ?_).mono ?_; (refine keepF (B := w.heap.size) (v := v) (n0 := .int .i64 n0) (n1 := .int .i64 n1) (n2 := .int .i64 n2) ?_; assumption); rintro e w' ⟨rfl, hf, ht⟩)
      | (go_at_call 20; refine (rmul20 p wd hg n0 n1 _).mono ?_; rintro e w' ⟨rfl, rfl⟩)
      | (go_at_call 21; refine (fpow21 p b wd n0 n2 z1 _ ?_).mono ?_; (refine keepF (B := w.heap.size) (v := v) (n0 := .int .i64 n0) (n1 := .int .i64 n1) (n2 := .int .i64 n2) ?_; assumption); rintro e w' ⟨rfl, hf, ht⟩)
      | (go_at_call 22; refine (rpow22g p wd hg n0 n2 z1 _).mono ?_; rintro e w' ⟨rfl, rfl⟩))
  rename_i hh
  go_wp2_with fail
  go_ret
  exact ⟨rfl, HW.out.trans (hh.2.2.2.2.1.mono (Nat.le_of_lt gz))⟩

set_option maxRecDepth 100000 in
theorem lifted (os : Os) (started : os.Started) (H : Type) (enc : TypeId × Value → H) :
    ReturnsInHanded {} Try.checked os 4 .any (Rows.gfTellsSpec.pre6 enc Try.prog Try.f4 Rows.gfTellsRow.domain false) (Rows.gfTellsSpec.post enc Try.prog Try.f4 false true false false) := by
  refine returnsInHanded_of_change (C := Try.checked) own started (by kernel_rfl) Try.func4
    (ChangeSpec.witness6 (enc := enc) (C := Try.checked) false ⟨#[], #[.int .u8 0, .agg #[.int .i64 0, .int .i64 0, .int .i64 0]], []⟩ 8 (by kernel_rfl) (by kernel_rfl) (by kernel_rfl) (by kernel_rfl)) ?_
  intro W base args ds gs before hval0 hW hcnd _
  have hval : ∀ (j : Nat) t v, Try.f4.params[j]? = some t → args[j]? = some v → Value.okWide Try.prog W .any base t v := hval0
  have hW' := hW
  obtain ⟨p, q, hA0, hV, rfl, hfz, hnd⟩ := hW
  have hA : DataW.TrodAll enc Try.prog W 0 (fun _ => true) true Try.f4.params.toList args.toList ds p := hA0
  rw [Try.params4] at hA hval
  obtain ⟨v0, vs0, d0, ds0, p0, q0, hargs, rfl, rfl, h0, r0⟩ := trodAll_cons hA
  obtain ⟨v1, vs1, d1, ds1, p1, q1, rfl, rfl, rfl, h1, r1⟩ := trodAll_cons r0
  obtain ⟨rfl, rfl, rfl⟩ := trodAll_nil r1
  obtain rfl : args = #[v0, v1] := by cases args; simp_all
  obtain ⟨rfl, rfl⟩ := trodVars_none hV
  obtain ⟨a0, rfl, rfl, rfl, w0⟩ := open_int Try.underlying5 (hval 0 5 v0 rfl rfl) h0
  obtain ⟨k0, k1⟩ := bounds_u8 w0
  obtain ⟨cs, rfl, hsz, _⟩ : ∃ cs, v1 = .agg cs ∧ cs.size = Try.prog.cellsOf 30 ∧ Row.okWide Try.prog W .any base 30 cs := by
    have := hval 1 30 v1 rfl rfl
    simpa [Value.okWide, Try.underlying30] using this
  rw [cells3] at hsz
  obtain ⟨l⟩ := cs
  obtain ⟨e0, e1, e2, rfl⟩ := list3 l hsz
  have k2 := h1
  have lt2 : ∀ x ∈ p1, x.block < W.heap.size := by obtain ⟨m, hm⟩ := k2; exact DataW.trod_lt m _ _ _ hm
  obtain ⟨fuel, hf⟩ := h1
  obtain ⟨y0, y1, y2, m, hx, hy0, hy1, hy2⟩ := trod_array3 Try.underlying30 cells1 hf
  obtain ⟨x0, f0, rfl, wx0⟩ := DataW.trod_int Try.underlying3 hy0
  obtain ⟨x1, f1, rfl, wx1⟩ := DataW.trod_int Try.underlying3 hy1
  obtain ⟨x2, f2, rfl, wx2⟩ := DataW.trod_int Try.underlying3 hy2
  simp at f0 f1 f2
  subst f0 f1 f2
  obtain ⟨b20, b21⟩ := bounds_i64 wx2
  clear hA0 hval0
  refine (walk a0 x0 x1 x2 k0 k1 b21 W).mono fun e W' ⟨he, bel⟩ => ?_
  subst he
  exact ⟨_, rfl, _, _, _, [], _, [], hW', trodAll_mk1 (shut_bool Try.underlying4 _), (trodAll_cons_mk (shut_int Try.underlying5 w0) (trodAll_cons_mk (Below.trod laidOut (by kernel_rfl) (of_decide_eq_true (by kernel_rfl)) k2 bel lt2) trodAll_mk0)), rfl, bel.frame _, fun h => by cases h⟩

theorem proved : Rows.GfTellsSaid :=
  OpenClaim.holds_of_wide 4 Try.f4 rfl rfl rfl rfl rfl rfl rfl ⟨rfl, rfl, rfl, rfl, rfl⟩ rfl rfl rfl rfl rfl (by kernel_rfl) Try.func4 (by kernel_rfl)
    (of_decide_eq_true (by kernel_rfl)) (by unfold Func.isWrapper; first | (rw [if_pos (by decide +kernel)]; kernel_rfl) | (rw [if_neg (by decide +kernel)]; exact ⟨rfl, rfl⟩))
    (fun os started H enc _ => lifted os started H enc)
#print axioms proved
end Go.Proofs.Ytjojbkkdligpgaa.gfTells
