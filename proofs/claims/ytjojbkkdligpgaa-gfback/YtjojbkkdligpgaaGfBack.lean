/- Proved: for every uint8 and every two uint16 numbers the law GfBack answers true (powers and which one they are are told there and back; of a product both are added), and its arguments read as they did. No conditions. -/
import Derived.Test.YtjojbkkdligpgaaRows
import Derived.Test.YtjojbkkdligpgaaGaw
import Derived.Test.YtjojbkkdligpgaaArr
import Derived.WalkKit
import Derived.ProofKit
import Derived.OpenShut
import Derived.ChangeOld
namespace Go.Proofs.Ytjojbkkdligpgaa.gfBack
open Go.ChangeShapes Go.WideShapes Go.ChangeAt Go.RowKit
set_option linter.unusedVariables false

theorem own : ownKnob Try.prog.godebug = none := by kernel_rfl
theorem laidOut : laidOutB Try.prog = true := by kernel_rfl
theorem cells16 : Try.prog.cellsOf 43 = 1 := by kernel_rfl
theorem cells2 : Try.prog.cellsOf 46 = 2 := by kernel_rfl

theorem ex_lt {p : Nat} (h : M.Prim p) (n : Int) : 1 ≤ (M.ex p n : Int) ∧ (M.ex p n : Int) ≤ M.ord p := by have := M.ex_range h n; omega
theorem lg_ex {p : Nat} (h : M.Prim p) {n : Int} (n0 : 0 ≤ n) : (M.lg p (M.ex p n) : Int) = n % (M.ord p : Int) := by
  obtain ⟨N, rfl⟩ := Int.eq_ofNat_of_zero_le n0
  rw [M.ex_nat h, M.lg_pw_mod h, Int.natCast_emod]
theorem flog_ex {p : Nat} (h : M.Prim p) {n : Int} (n0 : 0 ≤ n) : flog p (M.ex p n : Int) = .tuple #[.int .i64 (n % (M.ord p : Int)), .bool true] := by
  have := ex_lt h n
  rw [flog_yes this.1 this.2, Int.toNat_natCast, lg_ex h n0]
theorem fmul_ex {p : Nat} (h : M.Prim p) {m n : Int} (m0 : 0 ≤ m) (n0 : 0 ≤ n) : fmul p (M.ex p m : Int) (M.ex p n : Int) = (M.ex p (m + n) : Int) := by
  have h1 := ex_lt h m
  have h2 := ex_lt h n
  rw [fmul_in (by omega) h1.2 (by omega) h2.2, Int.toNat_natCast, Int.toNat_natCast]
  obtain ⟨A, rfl⟩ := Int.eq_ofNat_of_zero_le m0
  obtain ⟨B, rfl⟩ := Int.eq_ofNat_of_zero_le n0
  rw [M.ex_nat h, M.ex_nat h, ← M.pw_add, ← M.ex_nat h]; rfl
theorem ex_emod {p : Nat} (n : Int) : M.ex p (n % (M.ord p : Int)) = M.ex p n := by
  unfold M.ex
  rw [Int.emod_emod]
theorem fpow_two {p : Nat} (h : M.Prim p) (h2 : 2 ≤ M.ord p) {n : Int} (n0 : 0 ≤ n) : fpow p 2 n = (M.ex p n : Int) := by
  unfold fpow
  rw [inB_iff.2 ⟨by omega, by omega⟩, decide_eq_true n0]
  obtain ⟨N, rfl⟩ := Int.eq_ofNat_of_zero_le n0
  rw [M.ex_nat h]; rfl

set_option maxHeartbeats 4000000 in
theorem walk (k n0 n1 : Int) (k0 : 0 ≤ k) (k1 : k ≤ 255) (x0 : 0 ≤ n0) (x1 : n0 ≤ 65535) (y0 : 0 ≤ n1) (y1 : n1 ≤ 65535) (w : World) :
    Calls Try.prog 7 #[.int .u8 k, .agg #[.int .u16 n0, .int .u16 n1]] w fun e w' => e = .returned (.bool true) ∧ Below w.heap.size w w' := by
  go_enter Try.func7, Try.ntmps7
  go_wp2_with fail
  have HW := Lib.hid (show Below w.heap.size w (w.alloc (.cells #[.int .u16 n0, .int .u16 n1] 46)) from (Below.refl _ _).alloc (Nat.le_refl _) _)
  have g0 : (w.alloc (.cells #[.int .u16 n0, .int .u16 n1] 46)).cell? ⟨w.heap.size, 0, none⟩ = some (.int .u16 n0) := by simp
  have g1 : (w.alloc (.cells #[.int .u16 n0, .int .u16 n1] 46)).cell? ⟨w.heap.size, 1, none⟩ = some (.int .u16 n1) := by simp
  have gz : w.heap.size < (w.alloc (.cells #[.int .u16 n0, .int .u16 n1] 46)).heap.size := by simp
  generalize w.alloc (.cells #[.int .u16 n0, .int .u16 n1] 46) = v at *
  have G0 := Lib.hid g0
  have G1 := Lib.hid g1
  clear g0 g1
  refine (awake9 _).mono ?_
  rintro e w1 ⟨rfl, hb1⟩
  have H1 := Lib.hid hb1
  clear hb1
  go_wp2_with fail
  refine (field15 _ k0 k1 _).mono ?_
  rintro e w2 ⟨p, wd, hg, rfl, hb2⟩
  have H2 := Lib.hid (below_trans H1.out hb2)
  clear hb2 H1
  go_wp2_with fail
  refine (new_yes p wd hg _).mono ?_
  rintro e w3 ⟨b, rfl, h3, hn, hb3⟩
  have H3 := Lib.hid (Live.start H2.out h3 hn hb3)
  clear h3 hn hb3 H2
  have hk := hg.kind
  have kb := hg.bounds
  go_wp2_with fail
  refine (size13 b wd _ hk _ H3.out.1.c0).mono ?_
  rintro e w' ⟨rfl, rfl⟩
  have l0 := (H3.out.cell (q := ⟨w.heap.size, 0, none⟩) gz).trans G0.out
  go_wp2_with fail
  clear l0
  refine (exp25 p b wd n0 _ H3.out.1).mono ?_
  rintro e w4 ⟨rfl, h4, t4⟩
  have H4 := Lib.hid (H3.out.next h4 t4)
  clear h4 t4 H3
  have l1 := (H4.out.cell (q := ⟨w.heap.size, 1, none⟩) gz).trans G1.out
  go_wp2_with fail
  clear l1
  refine (exp25 p b wd n1 _ H4.out.1).mono ?_
  rintro e w5 ⟨rfl, h5, t5⟩
  have H5 := Lib.hid (H4.out.next h5 t5)
  clear h5 t5 H4
  -- what the numbers are
  have hx0 := Int.emod_nonneg n0 (show (M.ord p : Int) ≠ 0 by omega)
  have hx1 := Int.emod_lt_of_pos n0 (show (0 : Int) < (M.ord p : Int) by omega)
  have hy0 := Int.emod_nonneg n1 (show (M.ord p : Int) ≠ 0 by omega)
  have hy1 := Int.emod_lt_of_pos n1 (show (0 : Int) < (M.ord p : Int) by omega)
  have L0 := Lib.hid (flog_ex hg.prim x0)
  have L1 := Lib.hid (flog_ex hg.prim y0)
  have L2 := Lib.hid (flog_ex hg.prim (n := n0 + n1) (by omega))
  have MU := Lib.hid (fmul_ex hg.prim x0 y0)
  have XE := Lib.hid (ex_emod (p := p) n0)
  have TU := Lib.hid (M.ex_turn (p := p) (n0 % (M.ord p : Int)))
  have P2 := Lib.hid (fpow_two hg.prim (by omega) x0)
  have bX : (n0 % (M.ord p : Int) == n0 % (M.ord p : Int)) = true := by simp
  have bZ : ((n0 + n1) % (M.ord p : Int) == (n0 % (M.ord p : Int) + n1 % (M.ord p : Int)) % (M.ord p : Int)) = true := by rw [← Int.add_emod]; simp
  have hzc : ((M.ord p : Int) == 0) = false := by simp; omega
  obtain ⟨X, hX⟩ : ∃ X, n0 % (M.ord p : Int) = X := ⟨_, rfl⟩
  obtain ⟨Y, hY⟩ : ∃ Y, n1 % (M.ord p : Int) = Y := ⟨_, rfl⟩
  obtain ⟨Z, hZ⟩ : ∃ Z, (n0 + n1) % (M.ord p : Int) = Z := ⟨_, rfl⟩
  rw [hX] at hx0 hx1 L0 XE TU bZ
  rw [hY] at hy0 hy1 L1 bZ
  rw [hZ] at L2 bZ
  have bX' : (X == n0 % (M.ord p : Int)) = true := by rw [hX]; simp
  clear bX hX hY hZ
  obtain ⟨A, hA⟩ : ∃ A, M.ex p n0 = A := ⟨_, rfl⟩
  obtain ⟨B, hB⟩ : ∃ B, M.ex p n1 = B := ⟨_, rfl⟩
  obtain ⟨C, hC⟩ : ∃ C, M.ex p (n0 + n1) = C := ⟨_, rfl⟩
  rw [hA] at L0 MU XE P2 ⊢
  rw [hB] at L1 MU ⊢
  rw [hC] at L2 MU
  clear hA hB hC
  go_wp2_with fail
  refine (flog23 p b wd _ _ H5.out.1).mono ?_
  rintro e w6 ⟨rfl, h6, t6⟩
  rw [L0.out]
  have H6 := Lib.hid (H5.out.next h6 t6)
  clear h6 t6 H5
  go_wp2_with fail
  refine (flog23 p b wd _ _ H6.out.1).mono ?_
  rintro e w7 ⟨rfl, h7, t7⟩
  rw [L1.out]
  have H7 := Lib.hid (H6.out.next h7 t7)
  clear h7 t7 H6
  go_wp2_with fail
  refine (fmul12 p b wd _ _ _ H7.out.1).mono ?_
  rintro e w8 ⟨rfl, h8, t8⟩
  rw [MU.out]
  have H8 := Lib.hid (H7.out.next h8 t8)
  clear h8 t8 H7
  go_wp2_with fail
  refine (flog23 p b wd _ _ H8.out.1).mono ?_
  rintro e w9 ⟨rfl, h9, t9⟩
  rw [L2.out]
  have H9 := Lib.hid (H8.out.next h9 t9)
  clear h9 t9 H8
  have l0 := (H9.out.cell (q := ⟨w.heap.size, 0, none⟩) gz).trans G0.out
  go_wp2_with fail
  clear l0
  refine (exp25 p b wd _ _ H9.out.1).mono ?_
  rintro e w10 ⟨rfl, h10, t10⟩
  rw [XE.out]
  have H10 := Lib.hid (H9.out.next h10 t10)
  clear h10 t10 H9
  go_wp2_with fail
  refine (exp25 p b wd _ _ H10.out.1).mono ?_
  rintro e w11 ⟨rfl, h11, t11⟩
  rw [TU.out]
  have H11 := Lib.hid (H10.out.next h11 t11)
  clear h11 t11 H10
  go_wp2_with fail
  refine (exp25 p b wd _ _ H11.out.1).mono ?_
  rintro e w12 ⟨rfl, h12, t12⟩
  have H12 := Lib.hid (H11.out.next h12 t12)
  clear h12 t12 H11
  have l0 := (H12.out.cell (q := ⟨w.heap.size, 0, none⟩) gz).trans G0.out
  go_wp2_with fail
  clear l0
  refine (fpow21 p b wd 2 n0 (by omega) _ H12.out.1).mono ?_
  rintro e w13 ⟨rfl, h13, t13⟩
  rw [P2.out]
  have H13 := Lib.hid (H12.out.next h13 t13)
  clear h13 t13 H12
  go_wp2_with fail
  go_ret
  exact ⟨rfl, (HW.out.trans (H13.out.2.1.mono (Nat.le_of_lt gz)))⟩

set_option maxRecDepth 100000 in
theorem lifted (os : Os) (started : os.Started) (H : Type) (enc : TypeId × Value → H) :
    ReturnsInHanded {} Try.checked os 7 .any (Rows.gfBackSpec.pre6 enc Try.prog Try.f7 Rows.gfBackRow.domain false) (Rows.gfBackSpec.post enc Try.prog Try.f7 false true false false) := by
  refine returnsInHanded_of_change (C := Try.checked) own started (by kernel_rfl) Try.func7
    (ChangeSpec.witness6 (enc := enc) (C := Try.checked) false ⟨#[], #[.int .u8 0, .agg #[.int .u16 0, .int .u16 0]], []⟩ 8 (by kernel_rfl) (by kernel_rfl) (by kernel_rfl) (by kernel_rfl)) ?_
  intro W base args ds gs before hval0 hW hcnd _
  have hval : ∀ (j : Nat) t v, Try.f7.params[j]? = some t → args[j]? = some v → Value.okWide Try.prog W .any base t v := hval0
  have hW' := hW
  obtain ⟨p, q, hA0, hV, rfl, hfz, hnd⟩ := hW
  have hA : DataW.TrodAll enc Try.prog W 0 (fun _ => true) true Try.f7.params.toList args.toList ds p := hA0
  rw [Try.params7] at hA hval
  obtain ⟨v0, vs0, d0, ds0, p0, q0, hargs, rfl, rfl, h0, r0⟩ := trodAll_cons hA
  obtain ⟨v1, vs1, d1, ds1, p1, q1, rfl, rfl, rfl, h1, r1⟩ := trodAll_cons r0
  obtain ⟨rfl, rfl, rfl⟩ := trodAll_nil r1
  obtain rfl : args = #[v0, v1] := by cases args; simp_all
  obtain ⟨rfl, rfl⟩ := trodVars_none hV
  obtain ⟨a0, rfl, rfl, rfl, w0⟩ := open_int Try.underlying5 (hval 0 5 v0 rfl rfl) h0
  obtain ⟨k0, k1⟩ := bounds_u8 w0
  obtain ⟨cs, rfl, hsz, _⟩ : ∃ cs, v1 = .agg cs ∧ cs.size = Try.prog.cellsOf 46 ∧ Row.okWide Try.prog W .any base 46 cs := by
    have := hval 1 46 v1 rfl rfl
    simpa [Value.okWide, Try.underlying46] using this
  rw [cells2] at hsz
  obtain ⟨l⟩ := cs
  obtain ⟨e0, e1, rfl⟩ := list2 l hsz
  have k2 := h1
  have lt2 : ∀ x ∈ p1, x.block < W.heap.size := by obtain ⟨m, hm⟩ := k2; exact DataW.trod_lt m _ _ _ hm
  obtain ⟨fuel, hf⟩ := h1
  obtain ⟨m, y0, y1, hy0, hy1⟩ := two_cells Try.underlying46 cells16 hf
  obtain ⟨x0, f0, rfl, wx0⟩ := DataW.trod_int Try.underlying43 hy0
  obtain ⟨x1, f1, rfl, wx1⟩ := DataW.trod_int Try.underlying43 hy1
  simp at f0 f1
  subst f0 f1
  obtain ⟨b00, b01⟩ := bounds_u16 wx0
  obtain ⟨b10, b11⟩ := bounds_u16 wx1
  clear hA0 hval0
  refine (walk a0 x0 x1 k0 k1 b00 b01 b10 b11 W).mono fun e W' ⟨he, bel⟩ => ?_
  subst he
  exact ⟨_, rfl, _, _, _, [], _, [], hW', trodAll_mk1 (shut_bool Try.underlying4 _), (trodAll_cons_mk (shut_int Try.underlying5 w0) (trodAll_cons_mk (Below.trod laidOut (by kernel_rfl) (of_decide_eq_true (by kernel_rfl)) k2 bel lt2) trodAll_mk0)), rfl, bel.frame _, fun h => by cases h⟩

theorem proved : Rows.GfBackSaid :=
  OpenClaim.holds_of_wide 7 Try.f7 rfl rfl rfl rfl rfl rfl rfl ⟨rfl, rfl, rfl, rfl, rfl⟩ rfl rfl rfl rfl rfl (by kernel_rfl) Try.func7 (by kernel_rfl)
    (of_decide_eq_true (by kernel_rfl)) (by unfold Func.isWrapper; first | (rw [if_pos (by decide +kernel)]; kernel_rfl) | (rw [if_neg (by decide +kernel)]; exact ⟨rfl, rfl⟩))
    (fun os started H enc _ => lifted os started H enc)
#print axioms proved
end Go.Proofs.Ytjojbkkdligpgaa.gfBack
