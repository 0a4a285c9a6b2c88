/- Proved: for every uint8, every uint16 and every two uint16 numbers the law GfPowers answers true (powers multiply as their numbers add; each number but 0 to the power of how many there are is 1), and its arguments read as they did. No conditions. -/
import Derived.Test.YtjojbkkdligpgaaRows
import Derived.Test.YtjojbkkdligpgaaGaw
import Derived.Test.YtjojbkkdligpgaaArr
import Derived.WalkKit
import Derived.ProofKit
import Derived.OpenShut
import Derived.ChangeOld
namespace Go.Proofs.Ytjojbkkdligpgaa.gfPowers
open Go.ChangeShapes Go.WideShapes Go.ChangeAt Go.RowKit
set_option linter.unusedVariables false

theorem own : ownKnob Try.prog.godebug = none := by kernel_rfl
theorem laidOut : laidOutB Try.prog = true := by kernel_rfl
theorem cells16 : Try.prog.cellsOf 43 = 1 := by kernel_rfl
theorem cells2 : Try.prog.cellsOf 46 = 2 := by kernel_rfl

/-- powers multiply as their numbers add -/
theorem fpow_add {p : Nat} (h : M.Prim p) {a x y : Int} (a0 : 0 ≤ a) (a1 : a ≤ M.ord p) (x0 : 0 ≤ x) (y0 : 0 ≤ y) : fmul p (fpow p a x) (fpow p a y) = fpow p a (x + y) := by
  have e : ∀ n : Int, 0 ≤ n → fpow p a n = (M.pw a.toNat p n.toNat : Nat) := fun n hn => by
    unfold fpow
    rw [inB_iff.2 ⟨a0, a1⟩, decide_eq_true hn]; rfl
  rw [e x x0, e y y0, e (x + y) (by omega), fmul_in (by omega) (by have := M.pw_le h.1 a.toNat x.toNat; omega) (by omega) (by have := M.pw_le h.1 a.toNat y.toNat; omega),
    Int.toNat_natCast, Int.toNat_natCast, ← M.pw_add, show (x + y).toNat = x.toNat + y.toNat by omega]
theorem fpow_ord {p : Nat} (h : M.Prim p) {a : Int} (a0 : 1 ≤ a) (a1 : a ≤ M.ord p) : fpow p a (M.ord p : Int) = 1 := by
  unfold fpow
  rw [inB_iff.2 ⟨by omega, a1⟩, decide_eq_true (by omega)]
  show ((M.pw a.toNat p (M.ord p : Int).toNat : Nat) : Int) = 1
  rw [Int.toNat_natCast, M.fermat2 h (by omega) (by omega)]; rfl

set_option maxHeartbeats 2000000 in
theorem walk (k c n0 n1 : Int) (k0 : 0 ≤ k) (k1 : k ≤ 255) (c0 : 0 ≤ c) (c1 : c ≤ 65535) (x0 : 0 ≤ n0) (x1 : n0 ≤ 65535) (y0 : 0 ≤ n1) (y1 : n1 ≤ 65535) (w : World) :
    Calls Try.prog 8 #[.int .u8 k, .int .u16 c, .agg #[.int .u16 n0, .int .u16 n1]] w fun e w' => e = .returned (.bool true) ∧ Below w.heap.size w w' := by
  go_enter Try.func8, Try.ntmps8
  go_wp2_with fail
  have HW := Lib.hid (show Below w.heap.size w (w.alloc (.cells #[.int .u16 n0, .int .u16 n1] 46)) from (Below.refl _ _).alloc (Nat.le_refl _) _)
  have g0 : (w.alloc (.cells #[.int .u16 n0, .int .u16 n1] 46)).cell? ⟨w.heap.size, 0, none⟩ = some (.int .u16 n0) := by simp
  have g1 : (w.alloc (.cells #[.int .u16 n0, .int .u16 n1] 46)).cell? ⟨w.heap.size, 1, none⟩ = some (.int .u16 n1) := by simp
  have gz : w.heap.size < (w.alloc (.cells #[.int .u16 n0, .int .u16 n1] 46)).heap.size := by simp
  generalize w.alloc (.cells #[.int .u16 n0, .int .u16 n1] 46) = v at *
  refine (awake9 _).mono ?_
  rintro e w1 ⟨rfl, hb1⟩
  have H1 := Lib.hid hb1
  clear hb1
  go_wp2_with fail
  refine (field15 _ k0 k1 _).mono ?_
  rintro e w2 ⟨p, wd, hg, rfl, hb2⟩
  have H2 := Lib.hid (below_trans H1.out hb2)
  clear hb2 H1
  go_wp2_with fail
  refine (new_yes p wd hg _).mono ?_
  rintro e w3 ⟨b, rfl, h3, hn, hb3⟩
  have H3 := Lib.hid (Live.start H2.out h3 hn hb3)
  clear h3 hn hb3 H2
  have hk := hg.kind
  have kb := hg.bounds
  have HC := Lib.hid (show M.ord p = M.ord p from rfl)
  go_wp2_with fail
  refine (size13 b wd _ hk _ H3.out.1.c0).mono ?_
  rintro e w' ⟨rfl, rfl⟩
  have e1 := Int.emod_nonneg c (show (M.ord p : Int) + 1 ≠ 0 by omega)
  have e2 := Int.emod_lt_of_pos c (show (0 : Int) < (M.ord p : Int) + 1 by omega)
  have hz : ((M.ord p : Int) + 1 == 0) = false := by simp; omega
  have l0 := (H3.out.cell (q := ⟨w.heap.size, 0, none⟩) gz).trans g0
  have l1 := (H3.out.cell (q := ⟨w.heap.size, 1, none⟩) gz).trans g1
  go_wp2_with fail
  generalize c % ((M.ord p : Int) + 1) = a at *
  have a1 : a ≤ M.ord p := by omega
  have HA := Lib.hid (fpow_add hg.prim (a := a) (x := n0) (y := n1) e1 a1 x0 y0)
  have HO := Lib.hid (fpow_one hg.prim (a := a) e1 a1)
  have HN := Lib.hid (fpow_out (p := p) (a := a) (n := -1) (Or.inr (by omega)))
  clear l0 l1 g0 g1 hz
  refine (fpow21 p b wd a _ (by omega) _ H3.out.1).mono ?_
  rintro e w4 ⟨rfl, h4, t4⟩
  have H4 := Lib.hid (H3.out.next h4 t4)
  clear h4 t4 H3
  go_wp2_with fail
  refine (fpow21 p b wd a _ (by omega) _ H4.out.1).mono ?_
  rintro e w5 ⟨rfl, h5, t5⟩
  have H5 := Lib.hid (H4.out.next h5 t5)
  clear h5 t5 H4
  go_wp2_with fail
  refine (fpow21 p b wd a _ (by omega) _ H5.out.1).mono ?_
  rintro e w6 ⟨rfl, h6, t6⟩
  have H6 := Lib.hid (H5.out.next h6 t6)
  clear h6 t6 H5
  go_wp2_with fail
  refine (fmul12 p b wd _ _ _ H6.out.1).mono ?_
  rintro e w7 ⟨rfl, h7, t7⟩
  rw [HA.out]
  have H7 := Lib.hid (H6.out.next h7 t7)
  clear h7 t7 H6
  go_wp2_with fail
  refine (fpow21 p b wd a _ (by omega) _ H7.out.1).mono ?_
  rintro e w8 ⟨rfl, h8, t8⟩
  rw [HO.out]
  have H8 := Lib.hid (H7.out.next h8 t8)
  clear h8 t8 H7
  by_cases hz : a = 0
  · subst hz
    go_wp2_with fail
    refine (fpow21 p b wd _ _ (by omega) _ H8.out.1).mono ?_
    rintro e w9 ⟨rfl, h9, t9⟩
    rw [HN.out]
    have H9 := Lib.hid (H8.out.next h9 t9)
    clear h9 t9 H8
    go_wp2_with fail
    go_ret
    exact ⟨rfl, (HW.out.trans (H9.out.2.1.mono (Nat.le_of_lt gz)))⟩
  · have hz' : (a == 0) = false := by simpa using hz
    have HF := Lib.hid (fpow_ord hg.prim (a := a) (by omega) a1)
    go_wp2_with fail
    refine (size13 b wd _ hk _ H8.out.1.c0).mono ?_
    rintro e w' ⟨rfl, rfl⟩
    go_wp2_with fail
    refine (fpow21 p b wd _ _ (by omega) _ H8.out.1).mono ?_
    rintro e w9 ⟨rfl, h9, t9⟩
    rw [HF.out]
    have H9 := Lib.hid (H8.out.next h9 t9)
    clear h9 t9 H8
    go_wp2_with fail
    refine (fpow21 p b wd _ _ (by omega) _ H9.out.1).mono ?_
    rintro e w10 ⟨rfl, h10, t10⟩
    rw [HN.out]
    have H10 := Lib.hid (H9.out.next h10 t10)
    clear h10 t10 H9
    go_wp2_with fail
    go_ret
    exact ⟨rfl, (HW.out.trans (H10.out.2.1.mono (Nat.le_of_lt gz)))⟩

set_option maxRecDepth 100000 in
theorem lifted (os : Os) (started : os.Started) (H : Type) (enc : TypeId × Value → H) :
    ReturnsInHanded {} Try.checked os 8 .any (Rows.gfPowersSpec.pre6 enc Try.prog Try.f8 Rows.gfPowersRow.domain false) (Rows.gfPowersSpec.post enc Try.prog Try.f8 false true false false) := by
  refine returnsInHanded_of_change (C := Try.checked) own started (by kernel_rfl) Try.func8
    (ChangeSpec.witness6 (enc := enc) (C := Try.checked) false ⟨#[], #[.int .u8 0, .int .u16 0, .agg #[.int .u16 0, .int .u16 0]], []⟩ 8 (by kernel_rfl) (by kernel_rfl) (by kernel_rfl) (by kernel_rfl)) ?_
  intro W base args ds gs before hval0 hW hcnd _
  have hval : ∀ (j : Nat) t v, Try.f8.params[j]? = some t → args[j]? = some v → Value.okWide Try.prog W .any base t v := hval0
  have hW' := hW
  obtain ⟨p, q, hA0, hV, rfl, hfz, hnd⟩ := hW
  have hA : DataW.TrodAll enc Try.prog W 0 (fun _ => true) true Try.f8.params.toList args.toList ds p := hA0
  rw [Try.params8] at hA hval
  obtain ⟨v0, vs0, d0, ds0, p0, q0, hargs, rfl, rfl, h0, r0⟩ := trodAll_cons hA
  obtain ⟨v1, vs1, d1, ds1, p1, q1, rfl, rfl, rfl, h1, r1⟩ := trodAll_cons r0
  obtain ⟨v2, vs2, d2, ds2, p2, q2, rfl, rfl, rfl, h2, r2⟩ := trodAll_cons r1
  obtain ⟨rfl, rfl, rfl⟩ := trodAll_nil r2
  obtain rfl : args = #[v0, v1, v2] := by cases args; simp_all
  obtain ⟨rfl, rfl⟩ := trodVars_none hV
  obtain ⟨a0, rfl, rfl, rfl, w0⟩ := open_int Try.underlying5 (hval 0 5 v0 rfl rfl) h0
  obtain ⟨a1, rfl, rfl, rfl, w1⟩ := open_int Try.underlying43 (hval 1 43 v1 rfl rfl) h1
  obtain ⟨k0, k1⟩ := bounds_u8 w0
  obtain ⟨c0, c1⟩ := bounds_u16 w1
  obtain ⟨cs, rfl, hsz, _⟩ : ∃ cs, v2 = .agg cs ∧ cs.size = Try.prog.cellsOf 46 ∧ Row.okWide Try.prog W .any base 46 cs := by
    have := hval 2 46 v2 rfl rfl
    simpa [Value.okWide, Try.underlying46] using this
  rw [cells2] at hsz
  obtain ⟨l⟩ := cs
  obtain ⟨e0, e1, rfl⟩ := list2 l hsz
  have k2 := h2
  have lt2 : ∀ x ∈ p2, x.block < W.heap.size := by obtain ⟨m, hm⟩ := k2; exact DataW.trod_lt m _ _ _ hm
  obtain ⟨fuel, hf⟩ := h2
  obtain ⟨m, y0, y1, hy0, hy1⟩ := two_cells Try.underlying46 cells16 hf
  obtain ⟨x0, f0, rfl, wx0⟩ := DataW.trod_int Try.underlying43 hy0
  obtain ⟨x1, f1, rfl, wx1⟩ := DataW.trod_int Try.underlying43 hy1
  simp at f0 f1
  subst f0 f1
  obtain ⟨b00, b01⟩ := bounds_u16 wx0
  obtain ⟨b10, b11⟩ := bounds_u16 wx1
  clear hA0 hval0
  refine (walk a0 a1 x0 x1 k0 k1 c0 c1 b00 b01 b10 b11 W).mono fun e W' ⟨he, bel⟩ => ?_
  subst he
  exact ⟨_, rfl, _, _, _, [], _, [], hW', trodAll_mk1 (shut_bool Try.underlying4 _), (trodAll_cons_mk (shut_int Try.underlying5 w0) (trodAll_cons_mk (shut_int Try.underlying43 w1) (trodAll_cons_mk (Below.trod laidOut (by kernel_rfl) (of_decide_eq_true (by kernel_rfl)) k2 bel lt2) trodAll_mk0))), rfl, bel.frame _, fun h => by cases h⟩

theorem proved : Rows.GfPowersSaid :=
  OpenClaim.holds_of_wide 8 Try.f8 rfl rfl rfl rfl rfl rfl rfl ⟨rfl, rfl, rfl, rfl, rfl⟩ rfl rfl rfl rfl rfl (by kernel_rfl) Try.func8 (by kernel_rfl)
    (of_decide_eq_true (by kernel_rfl)) (by unfold Func.isWrapper; first | (rw [if_pos (by decide +kernel)]; kernel_rfl) | (rw [if_neg (by decide +kernel)]; exact ⟨rfl, rfl⟩))
    (fun os started H enc _ => lifted os started H enc)
#print axioms proved
end Go.Proofs.Ytjojbkkdligpgaa.gfPowers
