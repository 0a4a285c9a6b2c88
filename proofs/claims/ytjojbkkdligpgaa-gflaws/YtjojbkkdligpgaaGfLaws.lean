/- Proved: for every uint8 and every three uint16 numbers the law GfLaws answers true (the laws of a field: products do not hang on their order, and spread over sums; what was multiplied is divided again), and its arguments read as they did. No conditions. -/
import Derived.Test.YtjojbkkdligpgaaRows
import Derived.Test.YtjojbkkdligpgaaGaw
import Derived.Test.YtjojbkkdligpgaaArr
import Derived.Test.YtjojbkkdligpgaaXor
import Derived.WalkKit
import Derived.ProofKit
import Derived.OpenShut
import Derived.ChangeOld
import Derived.Deep.RegionHeld3
namespace Go.Proofs.Ytjojbkkdligpgaa.gfLaws
open Go.ChangeShapes Go.WideShapes Go.ChangeAt Go.RowKit
set_option linter.unusedVariables false

theorem own : ownKnob Try.prog.godebug = none := by kernel_rfl
theorem laidOut : laidOutB Try.prog = true := by kernel_rfl
theorem cells16 : Try.prog.cellsOf 43 = 1 := by kernel_rfl
theorem cells3 : Try.prog.cellsOf 44 = 3 := by kernel_rfl

theorem mod_in {n c : Int} (n0 : 0 ≤ n) (n1 : n ≤ 65535) : (IntKind.i64.wrap n).tmod c = n % c := by
  rw [show IntKind.i64.wrap n = n by rw [IntKind.wrap_i64]; omega, Int.tmod_eq_emod_of_nonneg n0]

theorem fmul_le {p : Nat} (h : M.irr p = true) (a b : Int) : 0 ≤ fmul p a b ∧ fmul p a b ≤ M.ord p := by
  unfold fmul
  split
  · have := M.md_in h (M.mul a.toNat b.toNat); omega
  · omega
theorem fmul_comm (p : Nat) (a b : Int) : fmul p a b = fmul p b a := by
  unfold fmul
  rw [Bool.and_comm, M.mul_comm]
theorem fmul_assoc {p : Nat} (h : M.irr p = true) {a b c : Int} (a0 : 0 ≤ a) (a1 : a ≤ M.ord p) (b0 : 0 ≤ b) (b1 : b ≤ M.ord p) (c0 : 0 ≤ c) (c1 : c ≤ M.ord p) : fmul p (fmul p a b) c = fmul p a (fmul p b c) := by
  have h1 := fmul_le h a b
  have h2 := fmul_le h b c
  rw [fmul_in h1.1 h1.2 c0 c1, fmul_in a0 a1 h2.1 h2.2, fmul_in a0 a1 b0 b1, fmul_in b0 b1 c0 c1, Int.toNat_natCast, Int.toNat_natCast, M.mul_assoc_md]
theorem fmul_one {p : Nat} (h : M.irr p = true) {a : Int} (a0 : 0 ≤ a) (a1 : a ≤ M.ord p) : fmul p a 1 = a := by
  have h0 := M.ord_pos h
  rw [fmul_in a0 a1 (by omega) (by omega), show (1 : Int).toNat = 1 from rfl, M.mul_one, M.md_self h (by omega)]
  omega
theorem fmul_xor {p : Nat} (h : M.irr p = true) {a b c : Int} (a0 : 0 ≤ a) (a1 : a ≤ M.ord p) (b0 : 0 ≤ b) (b1 : b ≤ M.ord p) (c0 : 0 ≤ c) (c1 : c ≤ M.ord p) :
    fmul p a ((b.toNat ^^^ c.toNat : Nat) : Int) = (((fmul p a b).toNat ^^^ (fmul p a c).toNat : Nat) : Int) := by
  have hx := M.xor_le h (a := b.toNat) (b := c.toNat) (by omega) (by omega)
  rw [fmul_in a0 a1 (by omega) (by omega), fmul_in a0 a1 b0 b1, fmul_in a0 a1 c0 c1, Int.toNat_natCast, Int.toNat_natCast, Int.toNat_natCast, M.mul_lin, ← M.md_lin p (M.mul a.toNat b.toNat) (M.mul a.toNat c.toNat)]
theorem div_back {p : Nat} (h : M.Prim p) {a b : Int} (a0 : 0 ≤ a) (a1 : a ≤ M.ord p) (b0 : 0 ≤ b) (b1 : b ≤ M.ord p) :
    ∃ (q : Int) (t : Bool), fdiv p (fmul p a b) b = .tuple #[.int .i64 q, .bool t] ∧ (b != 0) = t ∧ (t = true → q = a) := by
  by_cases hb : b = 0
  · exact ⟨0, false, fdiv_no (Or.inr (by omega)), by simp [hb], by simp⟩
  · refine ⟨a, true, ?_, by simpa using hb, fun _ => rfl⟩
    have h1 := fmul_le h.1 a b
    rw [fdiv_yes h1.1 h1.2 (by omega) b1, fmul_in a0 a1 b0 b1, Int.toNat_natCast, M.mul_back h (a := a.toNat) (b := b.toNat) (by omega) (by omega) (by omega), Int.toNat_of_nonneg a0]
theorem inv_back {p : Nat} (h : M.Prim p) {a : Int} (a0 : 0 ≤ a) (a1 : a ≤ M.ord p) :
    ∃ (i : Int) (t : Bool), finv p a = .tuple #[.int .i64 i, .bool t] ∧ (a != 0) = t ∧ (t = true → fmul p a i = 1) := by
  by_cases ha : a = 0
  · exact ⟨0, false, finv_no (by omega), by simp [ha], by simp⟩
  · refine ⟨(M.inv p a.toNat : Nat), true, finv_yes (by omega) a1, by simpa using ha, fun _ => ?_⟩
    have := M.inv_range h (a := a.toNat) (by omega) (by omega)
    rw [fmul_in a0 a1 (by omega) (by omega), Int.toNat_natCast, M.mul_inv h (by omega) (by omega)]; rfl

set_option maxHeartbeats 4000000 in
theorem walk (k n0 n1 n2 : Int) (k0 : 0 ≤ k) (k1 : k ≤ 255) (x0 : 0 ≤ n0) (x1 : n0 ≤ 65535) (y0 : 0 ≤ n1) (y1 : n1 ≤ 65535) (z0 : 0 ≤ n2) (z1 : n2 ≤ 65535) (w : World) :
    Calls Try.prog 6 #[.int .u8 k, .agg #[.int .u16 n0, .int .u16 n1, .int .u16 n2]] w fun e w' => e = .returned (.bool true) ∧ Below w.heap.size w w' := by
  go_enter Try.func6, Try.ntmps6
  go_wp2_with fail
  have HW := Lib.hid (show Below w.heap.size w (w.alloc (.cells #[.int .u16 n0, .int .u16 n1, .int .u16 n2] 44)) from (Below.refl _ _).alloc (Nat.le_refl _) _)
  have g0 : (w.alloc (.cells #[.int .u16 n0, .int .u16 n1, .int .u16 n2] 44)).cell? ⟨w.heap.size, 0, none⟩ = some (.int .u16 n0) := by simp
  have g1 : (w.alloc (.cells #[.int .u16 n0, .int .u16 n1, .int .u16 n2] 44)).cell? ⟨w.heap.size, 1, none⟩ = some (.int .u16 n1) := by simp
  have g2 : (w.alloc (.cells #[.int .u16 n0, .int .u16 n1, .int .u16 n2] 44)).cell? ⟨w.heap.size, 2, none⟩ = some (.int .u16 n2) := by simp
  have gz : w.heap.size < (w.alloc (.cells #[.int .u16 n0, .int .u16 n1, .int .u16 n2] 44)).heap.size := by simp
  generalize w.alloc (.cells #[.int .u16 n0, .int .u16 n1, .int .u16 n2] 44) = v at *
  have G0 := Lib.hid g0
  have G1 := Lib.hid g1
  have G2 := Lib.hid g2
  clear g0 g1 g2
  refine (awake9 _).mono ?_
  rintro e w1 ⟨rfl, hb1⟩
  have H1 := Lib.hid hb1
  clear hb1
  go_wp2_with fail
  refine (field15 _ k0 k1 _).mono ?_
  rintro e w2 ⟨p, wd, hg, rfl, hb2⟩
  have H2 := Lib.hid (below_trans H1.out hb2)
  clear hb2 H1
  go_wp2_with fail
  refine (new_yes p wd hg _).mono ?_
  rintro e w3 ⟨b, rfl, h3, hn, hb3⟩
  have H3 := Lib.hid (Live.start H2.out h3 hn hb3)
  clear h3 hn hb3 H2
  have hk := hg.kind
  have kb := hg.bounds
  have hz : ((M.ord p : Int) + 1 == 0) = false := by simp; omega
  have hz' : ¬ ((M.ord p : Int) + 1 = 0) := by omega
  have l0 := (H3.out.cell (q := ⟨w.heap.size, 0, none⟩) gz).trans G0.out
  have l1 := (H3.out.cell (q := ⟨w.heap.size, 1, none⟩) gz).trans G1.out
  have l2 := (H3.out.cell (q := ⟨w.heap.size, 2, none⟩) gz).trans G2.out
  have lc := H3.out.1.c0
  have hL := H3.out
  clear H3
  go_wp2_with fail
  go_region_held3 (fun w' => w'.cell? ⟨w.heap.size, 0, none⟩ = some (.int .u16 n0) ∧ w'.cell? ⟨b, 0, none⟩ = some (.int .i64 wd) ∧ Live p b wd v w')
    (first | exact ⟨l0, lc, hL.drew⟩ | assumption)
    ((go_at_call 13; refine (size13 b wd _ hk _ ?_).mono ?_; (simp [*]); rintro e w' ⟨rfl, rfl⟩))
  rename_i hh0
  rw [mod_in x0 x1]
  clear l0 l1 l2 lc hL
  obtain ⟨_, lc, hL⟩ := hh0
  have l1 := (hL.cell (q := ⟨w.heap.size, 1, none⟩) gz).trans G1.out
  have ha0 := Int.emod_nonneg n0 hz'
  have ha1 := Int.emod_lt_of_pos n0 (show (0 : Int) < (M.ord p : Int) + 1 by omega)
  generalize n0 % ((M.ord p : Int) + 1) = x at *
  go_wp2_with fail
  go_region_held3 (fun w' => w'.cell? ⟨w.heap.size, 1, none⟩ = some (.int .u16 n1) ∧ w'.cell? ⟨b, 0, none⟩ = some (.int .i64 wd) ∧ Live p b wd v w')
    (first | exact ⟨l1, lc, hL.drew⟩ | assumption)
    ((go_at_call 13; refine (size13 b wd _ hk _ ?_).mono ?_; (simp [*]); rintro e w' ⟨rfl, rfl⟩))
  rename_i hh1
  rw [mod_in y0 y1]
  clear l1 lc hL
  obtain ⟨_, lc, hL⟩ := hh1
  have l2 := (hL.cell (q := ⟨w.heap.size, 2, none⟩) gz).trans G2.out
  have hb0 := Int.emod_nonneg n1 hz'
  have hb1 := Int.emod_lt_of_pos n1 (show (0 : Int) < (M.ord p : Int) + 1 by omega)
  generalize n1 % ((M.ord p : Int) + 1) = y at *
  go_wp2_with fail
  go_region_held3 (fun w' => w'.cell? ⟨w.heap.size, 2, none⟩ = some (.int .u16 n2) ∧ w'.cell? ⟨b, 0, none⟩ = some (.int .i64 wd) ∧ Live p b wd v w')
    (first | exact ⟨l2, lc, hL.drew⟩ | assumption)
    ((go_at_call 13; refine (size13 b wd _ hk _ ?_).mono ?_; (simp [*]); rintro e w' ⟨rfl, rfl⟩))
  rename_i hh2
  rw [mod_in z0 z1]
  clear l2 lc hL
  obtain ⟨_, _, hL⟩ := hh2
  have hc0 := Int.emod_nonneg n2 hz'
  have hc1 := Int.emod_lt_of_pos n2 (show (0 : Int) < (M.ord p : Int) + 1 by omega)
  generalize n2 % ((M.ord p : Int) + 1) = z at *
  generalize w3.drew.drew.drew = w4 at *
  have H3 := Lib.hid hL
  clear hL G0 G1 G2 hz hz'
  have irr := hg.prim.1
  obtain ⟨q, t, hD, hbt, hq⟩ := div_back hg.prim ha0 (by omega) hb0 (b := y) (by omega)
  obtain ⟨i, s, hI, has, hi⟩ := inv_back hg.prim (a := x) ha0 (by omega)
  have HD := Lib.hid hD
  have HI := Lib.hid hI
  have HQ := Lib.hid hq
  have HIM := Lib.hid hi
  have HBT := Lib.hid hbt
  have HAS := Lib.hid has
  clear hD hI hq hi hbt has
  have HCM := Lib.hid (fmul_comm p y x)
  have HAC := Lib.hid (fmul_assoc irr ha0 (by omega) hb0 (b := y) (by omega) hc0 (c := z) (by omega))
  have HX := Lib.hid (fmul_xor irr ha0 (by omega) hb0 (b := y) (by omega) hc0 (c := z) (by omega))
  have HO := Lib.hid (fmul_one irr (a := x) ha0 (by omega))
  have hxy := fmul_le irr x y
  have hyz := fmul_le irr y z
  have hxz := fmul_le irr x z
  have HXY := Lib.hid (i64_xor y z hb0 (by omega) hc0 (by omega))
  have HXD := Lib.hid (show ((((fmul p x y).toNat ^^^ (fmul p x z).toNat : Nat) : Int) == bits BinOp.xor IntKind.i64 (fmul p x y) (fmul p x z)) = true by
    rw [i64_xor _ _ hxy.1 (by omega) hxz.1 (by omega)]; simp)
  have hend := Lib.hid (fun w'' (h : Live p b wd v w'') => (HW.out.trans (h.2.1.mono (Nat.le_of_lt gz)) : Below w.heap.size w w''))
  clear k0 k1 x0 x1 y0 y1 z0 z1 ha0 ha1 hb0 hb1 hc0 hc1 irr hk kb hg hxy hyz hxz gz HW
  go_wp2_with fail
  refine (fmul12 p b wd x y _ H3.out.1).mono ?_
  rintro e w5 ⟨rfl, h5, t5⟩
  have H5 := Lib.hid (H3.out.next h5 t5)
  clear h5 t5 H3
  go_wp2_with fail
  refine (fdiv16 p b wd _ _ _ H5.out.1).mono ?_
  rintro e w6 ⟨rfl, h6, t6⟩
  rw [HD.out]
  have H6 := Lib.hid (H5.out.next h6 t6)
  clear h6 t6 H5
  go_wp2_with fail
  refine (finv18 p b wd _ _ H6.out.1).mono ?_
  rintro e w7 ⟨rfl, h7, t7⟩
  rw [HI.out]
  have H7 := Lib.hid (H6.out.next h7 t7)
  clear h7 t7 H6
  go_wp2_with fail
  refine (fmul12 p b wd x y _ H7.out.1).mono ?_
  rintro e w8 ⟨rfl, h8, t8⟩
  have H8 := Lib.hid (H7.out.next h8 t8)
  clear h8 t8 H7
  go_wp2_with fail
  refine (fmul12 p b wd y x _ H8.out.1).mono ?_
  rintro e w9 ⟨rfl, h9, t9⟩
  rw [HCM.out]
  have H9 := Lib.hid (H8.out.next h9 t9)
  clear h9 t9 H8
  go_wp2_with fail
  refine (fmul12 p b wd x y _ H9.out.1).mono ?_
  rintro e w10 ⟨rfl, h10, t10⟩
  have H10 := Lib.hid (H9.out.next h10 t10)
  clear h10 t10 H9
  go_wp2_with fail
  refine (fmul12 p b wd _ z _ H10.out.1).mono ?_
  rintro e w11 ⟨rfl, h11, t11⟩
  rw [HAC.out]
  have H11 := Lib.hid (H10.out.next h11 t11)
  clear h11 t11 H10
  go_wp2_with fail
  refine (fmul12 p b wd y z _ H11.out.1).mono ?_
  rintro e w12 ⟨rfl, h12, t12⟩
  have H12 := Lib.hid (H11.out.next h12 t12)
  clear h12 t12 H11
  go_wp2_with fail
  refine (fmul12 p b wd x _ _ H12.out.1).mono ?_
  rintro e w13 ⟨rfl, h13, t13⟩
  have H13 := Lib.hid (H12.out.next h13 t13)
  clear h13 t13 H12
  go_wp2_with fail
  rw [HXY.out]
  refine (fmul12 p b wd x _ _ H13.out.1).mono ?_
  rintro e w14 ⟨rfl, h14, t14⟩
  rw [HX.out]
  have H14 := Lib.hid (H13.out.next h14 t14)
  clear h14 t14 H13
  go_wp2_with fail
  refine (fmul12 p b wd x y _ H14.out.1).mono ?_
  rintro e w15 ⟨rfl, h15, t15⟩
  have H15 := Lib.hid (H14.out.next h15 t15)
  clear h15 t15 H14
  go_wp2_with fail
  refine (fmul12 p b wd x z _ H15.out.1).mono ?_
  rintro e w16 ⟨rfl, h16, t16⟩
  have H16 := Lib.hid (H15.out.next h16 t16)
  clear h16 t16 H15
  have hd := HXD.out
  go_wp2_with fail
  clear hd
  refine (fmul12 p b wd x 1 _ H16.out.1).mono ?_
  rintro e w17 ⟨rfl, h17, t17⟩
  rw [HO.out]
  have H17 := Lib.hid (H16.out.next h17 t17)
  clear h17 t17 H16
  have hbt := HBT.out
  have has := HAS.out
  cases t
  · cases s
    · go_wp2_with fail
      go_ret
      exact ⟨rfl, hend.out _ H17.out⟩
    · have HF := Lib.hid (HIM.out rfl)
      go_wp2_with fail
      refine (fmul12 p b wd x i _ H17.out.1).mono ?_
      rintro e w18 ⟨rfl, h18, t18⟩
      rw [HF.out]
      have H18 := Lib.hid (H17.out.next h18 t18)
      clear h18 t18
      go_wp2_with fail
      go_ret
      exact ⟨rfl, hend.out _ H18.out⟩
  · obtain rfl := HQ.out rfl
    cases s
    · go_wp2_with fail
      go_ret
      exact ⟨rfl, hend.out _ H17.out⟩
    · have HF := Lib.hid (HIM.out rfl)
      go_wp2_with fail
      refine (fmul12 p b wd _ i _ H17.out.1).mono ?_
      rintro e w18 ⟨rfl, h18, t18⟩
      rw [HF.out]
      have H18 := Lib.hid (H17.out.next h18 t18)
      clear h18 t18
      go_wp2_with fail
      go_ret
      exact ⟨rfl, hend.out _ H18.out⟩

set_option maxRecDepth 100000 in
theorem lifted (os : Os) (started : os.Started) (H : Type) (enc : TypeId × Value → H) :
    ReturnsInHanded {} Try.checked os 6 .any (Rows.gfLawsSpec.pre6 enc Try.prog Try.f6 Rows.gfLawsRow.domain false) (Rows.gfLawsSpec.post enc Try.prog Try.f6 false true false false) := by
  refine returnsInHanded_of_change (C := Try.checked) own started (by kernel_rfl) Try.func6
    (ChangeSpec.witness6 (enc := enc) (C := Try.checked) false ⟨#[], #[.int .u8 0, .agg #[.int .u16 0, .int .u16 0, .int .u16 0]], []⟩ 8 (by kernel_rfl) (by kernel_rfl) (by kernel_rfl) (by kernel_rfl)) ?_
  intro W base args ds gs before hval0 hW hcnd _
  have hval : ∀ (j : Nat) t v, Try.f6.params[j]? = some t → args[j]? = some v → Value.okWide Try.prog W .any base t v := hval0
  have hW' := hW
  obtain ⟨p, q, hA0, hV, rfl, hfz, hnd⟩ := hW
  have hA : DataW.TrodAll enc Try.prog W 0 (fun _ => true) true Try.f6.params.toList args.toList ds p := hA0
  rw [Try.params6] at hA hval
  obtain ⟨v0, vs0, d0, ds0, p0, q0, hargs, rfl, rfl, h0, r0⟩ := trodAll_cons hA
  obtain ⟨v1, vs1, d1, ds1, p1, q1, rfl, rfl, rfl, h1, r1⟩ := trodAll_cons r0
  obtain ⟨rfl, rfl, rfl⟩ := trodAll_nil r1
  obtain rfl : args = #[v0, v1] := by cases args; simp_all
  obtain ⟨rfl, rfl⟩ := trodVars_none hV
  obtain ⟨a0, rfl, rfl, rfl, w0⟩ := open_int Try.underlying5 (hval 0 5 v0 rfl rfl) h0
  obtain ⟨k0, k1⟩ := bounds_u8 w0
  obtain ⟨cs, rfl, hsz, _⟩ : ∃ cs, v1 = .agg cs ∧ cs.size = Try.prog.cellsOf 44 ∧ Row.okWide Try.prog W .any base 44 cs := by
    have := hval 1 44 v1 rfl rfl
    simpa [Value.okWide, Try.underlying44] using this
  rw [cells3] at hsz
  obtain ⟨l⟩ := cs
  obtain ⟨e0, e1, e2, rfl⟩ := list3 l hsz
  have k2 := h1
  have lt2 : ∀ x ∈ p1, x.block < W.heap.size := by obtain ⟨m, hm⟩ := k2; exact DataW.trod_lt m _ _ _ hm
  obtain ⟨fuel, hf⟩ := h1
  obtain ⟨y0, y1, y2, m, hx, hy0, hy1, hy2⟩ := trod_array3 Try.underlying44 cells16 hf
  obtain ⟨x0, f0, rfl, wx0⟩ := DataW.trod_int Try.underlying43 hy0
  obtain ⟨x1, f1, rfl, wx1⟩ := DataW.trod_int Try.underlying43 hy1
  obtain ⟨x2, f2, rfl, wx2⟩ := DataW.trod_int Try.underlying43 hy2
  simp at f0 f1 f2
  subst f0 f1 f2
  obtain ⟨b00, b01⟩ := bounds_u16 wx0
  obtain ⟨b10, b11⟩ := bounds_u16 wx1
  obtain ⟨b20, b21⟩ := bounds_u16 wx2
  clear hA0 hval0
  refine (walk a0 x0 x1 x2 k0 k1 b00 b01 b10 b11 b20 b21 W).mono fun e W' ⟨he, bel⟩ => ?_
  subst he
  exact ⟨_, rfl, _, _, _, [], _, [], hW', trodAll_mk1 (shut_bool Try.underlying4 _), (trodAll_cons_mk (shut_int Try.underlying5 w0) (trodAll_cons_mk (Below.trod laidOut (by kernel_rfl) (of_decide_eq_true (by kernel_rfl)) k2 bel lt2) trodAll_mk0)), rfl, bel.frame _, fun h => by cases h⟩

theorem proved : Rows.GfLawsSaid :=
  OpenClaim.holds_of_wide 6 Try.f6 rfl rfl rfl rfl rfl rfl rfl ⟨rfl, rfl, rfl, rfl, rfl⟩ rfl rfl rfl rfl rfl (by kernel_rfl) Try.func6 (by kernel_rfl)
    (of_decide_eq_true (by kernel_rfl)) (by unfold Func.isWrapper; first | (rw [if_pos (by decide +kernel)]; kernel_rfl) | (rw [if_neg (by decide +kernel)]; exact ⟨rfl, rfl⟩))
    (fun os started H enc _ => lifted os started H enc)
#print axioms proved
end Go.Proofs.Ytjojbkkdligpgaa.gfLaws
