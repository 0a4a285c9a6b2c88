/- Proved: for either field, any two lists of rows of numbers and any numbers the law MatrixMuls answers true (two matrices multiplied, one with a column, and any identity, are as the document says, or refused as it says), and its arguments read as they did. No conditions. -/
import Derived.Test.YtomlfmfahlcedaaRows
import Derived.Test.YtomlfmfahlcedaaMtp
import Derived.Test.YtomlfmfahlcedaaMto
import Derived.Deep.RegionHeld3
import Derived.WalkKit
import Derived.ProofKit
import Derived.OpenShut
import Derived.ShutString
import Derived.ChangeOld
import Derived.Below
namespace Go.Proofs.Ytomlfmfahlcedaa.matrixMuls
open Go.ChangeShapes Go.WideShapes Go.ChangeAt Go.RowKit
set_option linter.unusedVariables false

theorem own : ownKnob Try.prog.godebug = none := by kernel_rfl
theorem laidOut : laidOutB Try.prog = true := by kernel_rfl

/-- what the law's last statement asks of two matrices that are told -/
theorem cond_le {t : Bool} {n m : Nat} (h : t = true → n ≤ m) : cond t n 0 ≤ m := by
  cases t
  · exact Nat.zero_le _
  · exact h rfl

set_option maxRecDepth 100000 in
set_option maxHeartbeats 8000000 in
theorem walk (a0 : Bool) (a1 : Option Addr) (len1 cap1 : Nat) (b1 : Option Addr) (blen1 bcap1 : Nat) (a2 : Option Addr) (len2 cap2 : Nat) (w : World) (w1 : IsMat w a1 len1 cap1) (x1 : IsMat w b1 blen1 bcap1) (w2 : IsInts w a2 len2 cap2) :
    Calls Try.prog 4 #[.bool a0, .agg #[.slice a1 len1 cap1, .slice b1 blen1 bcap1], .slice a2 len2 cap2] w fun e w' => e = .returned (.bool true) ∧ Below w.heap.size w w' := by
  obtain ⟨F, La, hca, _, hma⟩ := w1
  obtain ⟨G, Lb, hcb, _, hmb⟩ := x1
  obtain ⟨l, hcl, hml⟩ := w2
  have HMA := Lib.hid hma
  have HMB := Lib.hid hmb
  have HML := Lib.hid hml
  clear hma hmb hml
  go_enter Try.func4, Try.ntmps4
  go_wp2_with fail
  have HW0 := Lib.hid (below_alloc w (.cells #[.slice a1 len1 cap1, .slice b1 blen1 bcap1] 23))
  have g0 : (w.alloc (.cells #[.slice a1 len1 cap1, .slice b1 blen1 bcap1] 23)).cell? ⟨w.heap.size, 0, none⟩ = some (.slice a1 len1 cap1) := by simp
  have g1 : (w.alloc (.cells #[.slice a1 len1 cap1, .slice b1 blen1 bcap1] 23)).cell? ⟨w.heap.size, 1, none⟩ = some (.slice b1 blen1 bcap1) := by simp
  have gz : w.heap.size < (w.alloc (.cells #[.slice a1 len1 cap1, .slice b1 blen1 bcap1] 23)).heap.size := by simp
  generalize w.alloc (.cells #[.slice a1 len1 cap1, .slice b1 blen1 bcap1] 23) = v at *
  have G0 := Lib.hid g0
  have G1 := Lib.hid g1
  clear g0 g1
  refine (awakeM _).mono ?_
  rintro e w1 ⟨rfl, hb1⟩
  have H1 := Lib.hid hb1
  have d0 : w1.cell? ⟨w.heap.size, 0, none⟩ = some (.slice a1 len1 cap1) := (hb1.cell gz).trans G0.out
  have d1 : w1.cell? ⟨w.heap.size, 1, none⟩ = some (.slice b1 blen1 bcap1) := (hb1.cell gz).trans G1.out
  have HV1 := Lib.hid (below_tr HW0.out hb1)
  clear hb1
  go_wp2_with fail
  refine (few10 w.heap.size F La a1 len1 cap1 _ ((HMA.out _ (Nat.le_refl _)).below HV1.out)).mono ?_
  rintro e w' ⟨t, rfl, ht, rfl⟩
  cases t
  · clear ht
    go_wp2_with fail
    go_ret
    exact ⟨rfl, HV1.out⟩
  obtain ⟨hn, hLs⟩ := ht rfl
  have HLS := Lib.hid hLs
  clear ht hLs
  go_wp2_with fail
  refine (few10 w.heap.size G Lb b1 blen1 bcap1 _ ((HMB.out _ (Nat.le_refl _)).below HV1.out)).mono ?_
  rintro e w' ⟨t, rfl, ht, rfl⟩
  cases t
  · clear ht
    go_wp2_with fail
    go_ret
    exact ⟨rfl, HV1.out⟩
  obtain ⟨hk, hLs⟩ := ht rfl
  have HLSB := Lib.hid hLs
  clear ht hLs
  by_cases hl30 : 30 < len2
  · go_wp2_with fail
    go_ret
    exact ⟨rfl, HV1.out⟩
  go_wp2_with fail
  refine (mfield11 _ _).mono ?_
  rintro e w2 ⟨p, wd, b, rfl, hFl, hnb, hb2⟩
  have hg := hFl.1
  have hkd := hg.kind
  have hL := Live.start H1.out hFl hnb hb2
  have HL := Lib.hid hL
  have hlow : w.heap.size ≤ b := Nat.le_trans HW0.out.size hL.2.2
  have hlow2 : v.heap.size ≤ b := hL.2.2
  -- whatever lies there behind the field
  have KEEP := Lib.hid (show ∀ w', Live p b wd v w' → w'.cell? ⟨w.heap.size, 0, none⟩ = some (.slice a1 len1 cap1) ∧ w'.cell? ⟨w.heap.size, 1, none⟩ = some (.slice b1 blen1 bcap1) ∧ Mx b w' F La a1 len1 ∧ Mx b w' G Lb b1 blen1 ∧ Rd b w' (i64s l) a2 len2 ∧ Below w.heap.size w w' from fun w' h => by
    have hB := HW0.out.trans (h.2.1.mono (Nat.le_of_lt gz))
    exact ⟨(h.2.1.cell gz).trans G0.out, (h.2.1.cell gz).trans G1.out, (HMA.out b hlow).below hB, (HMB.out b hlow).below hB, (HML.out b hlow).below hB, hB⟩)
  clear hFl hnb hb2 H1 hL d0 d1 HMA HMB HML
  obtain ⟨d0, d1, _⟩ := KEEP.out _ HL.out
  go_wp2_with fail
  refine (mmul_any p b wd F G La Lb a1 b1 len1 blen1 cap1 bcap1 _ HL.out.1 (KEEP.out _ HL.out).2.2.1 (KEEP.out _ HL.out).2.2.2.1).mono ?_
  rintro e w3 ⟨t3, A3, c3, rfl, ht3, hx3, hf3, htr3⟩
  have HL3 := Lib.hid (HL.out.next hf3 htr3)
  have X3 := Lib.hid hx3
  have HT3 := Lib.hid ht3
  clear hx3 hf3 htr3 ht3 HL d0 d1
  obtain ⟨d0, d1, _⟩ := KEEP.out _ HL3.out
  have hbl3 := HL3.out.1.lt
  go_wp2_with fail
  refine (rmmul21 p b wd hg F G La Lb a1 b1 len1 blen1 cap1 bcap1 _ hbl3 (KEEP.out _ HL3.out).2.2.1 (KEEP.out _ HL3.out).2.2.2.1).mono ?_
  rintro e w4 ⟨t4, v4, rfl, ht4, A4, c4, rfl, _, hx4, hb4⟩
  obtain rfl : t4 = t3 := Bool.eq_iff_iff.2 (ht4.trans HT3.out.symm)
  have HL4 := Lib.hid (HL3.out.below hb4)
  have X4 := Lib.hid (X3.out.below hb4)
  have Y4 := Lib.hid hx4
  clear hx4 hb4 ht4 HL3 X3 hbl3 d0 d1
  obtain ⟨d0, d1, _⟩ := KEEP.out _ HL4.out
  go_wp2_with fail
  refine (apply22 p b wd F La a1 a2 len1 len2 cap1 cap2 l _ HL4.out.1 (KEEP.out _ HL4.out).2.2.1 (KEEP.out _ HL4.out).2.2.2.2.1).mono ?_
  rintro e w5 ⟨t5, A5, c5, rfl, ht5, hx5, hf5, htr5⟩
  have HL5 := Lib.hid (HL4.out.next hf5 htr5)
  have X5 := Lib.hid (X4.out.turned htr5)
  have Y5 := Lib.hid (Y4.out.turned htr5)
  have Z5 := Lib.hid hx5
  have HT5 := Lib.hid ht5
  clear hx5 hf5 htr5 ht5 HL4 X4 Y4 d0 d1
  obtain ⟨d0, d1, _⟩ := KEEP.out _ HL5.out
  have hbl5 := HL5.out.1.lt
  go_wp2_with fail
  refine (rapply23 p b wd hg F La a1 a2 len1 len2 cap1 cap2 (by omega) l _ hbl5 (KEEP.out _ HL5.out).2.2.1 (KEEP.out _ HL5.out).2.2.2.2.1).mono ?_
  rintro e w6 ⟨t6, v6, rfl, ht6, A6, c6, rfl, _, hx6, hb6⟩
  obtain rfl : t6 = t5 := Bool.eq_iff_iff.2 (ht6.trans HT5.out.symm)
  have HL6 := Lib.hid (HL5.out.below hb6)
  have X6 := Lib.hid (X5.out.below hb6)
  have Y6 := Lib.hid (Y5.out.below hb6)
  have Z6 := Lib.hid (Z5.out.below hb6)
  have U6 := Lib.hid hx6
  clear hx6 hb6 ht6 HL5 X5 Y5 Z5 hbl5 d0 d1
  -- how many rows, and how long they are
  obtain ⟨N, hN⟩ : ∃ N, cond t4 len1 0 = N := ⟨_, rfl⟩
  obtain ⟨K, hK⟩ : ∃ K, cond t6 len1 0 = K := ⟨_, rfl⟩
  have hN20 : N ≤ 1000 := by rw [← hN]; exact cond_le (fun _ => by omega)
  have hK20 : K ≤ 1000 := by rw [← hK]; exact cond_le (fun _ => by omega)
  have HP := Lib.hid (show ∀ r, r < N → Lb 0 ≤ 1000 from fun r hr => by
    cases t4
    · rw [← hN] at hr; exact absurd hr (by simp)
    · have := (HT3.out.1 rfl).2.1.2.1.2
      omega)
  rw [hN] at X6 Y6 ⊢
  rw [hK] at Z6 U6 ⊢
  clear hN hK HT3 HT5 HLS HLSB
  have HBL := Lib.hid (KEEP.out _ HL6.out).2.2.2.2.2
  go_wp2_with fail
  refine (mwas18 t4 _).mono ?_
  rintro e w' ⟨rfl, rfl⟩
  go_wp2_with fail
  refine (same19 b b _ _ _ _ A3 A4 N c3 c4 hN20 HP.out _ X6.out Y6.out (fun _ _ => rfl) (fun _ _ _ _ => rfl)).mono ?_
  rintro e w7 ⟨rfl, q7, rfl⟩
  have HL7 := Lib.hid (HL6.out.below (below_drewN' w6 q7))
  have Z7 := Lib.hid (Z6.out.below (below_drewN' w6 q7))
  have U7 := Lib.hid (U6.out.below (below_drewN' w6 q7))
  generalize w6.drewN q7 = w7 at *
  clear HL6 Z6 U6 X6 Y6 HBL
  go_wp2_with fail
  refine (mwas18 t6 _).mono ?_
  rintro e w' ⟨rfl, rfl⟩
  go_wp2_with fail
  refine (ints16 b b _ _ A5 A6 K c5 c6 (by omega) _ Z7.out U7.out (fun _ _ => rfl)).mono ?_
  rintro e w8 ⟨rfl, hb8⟩
  have HL8 := Lib.hid (HL7.out.below hb8)
  clear hb8 HL7 Z7 U7
  go_wp2_with fail
  refine (identity_any len2 _).mono ?_
  rintro e w9 ⟨v9, rfl, hv9⟩
  obtain ⟨A9, c9, rfl, _, hx9, hb9⟩ := hv9.at_ HL8.out.1.lt
  have HL9 := Lib.hid (HL8.out.below hb9)
  have X9 := Lib.hid hx9
  have hbl9 := HL9.out.1.lt
  clear hv9 hx9 hb9 HL8
  go_wp2_with fail
  refine (ridentity_any b len2 _ hbl9).mono ?_
  rintro e w10 ⟨v10, rfl, A10, c10, rfl, _, hx10, hb10⟩
  have HL10 := Lib.hid (HL9.out.below hb10)
  have X10 := Lib.hid (X9.out.below hb10)
  have Y10 := Lib.hid hx10
  clear hx10 hb10 HL9 X9
  have hid : idN len2 ≤ 1000 := by unfold idN; split <;> omega
  go_wp2_with fail
  refine (same19 b b _ _ _ _ A9 A10 (idN len2) c9 c10 hid (fun _ _ => by omega) _ X10.out Y10.out (fun _ _ => rfl) (fun _ _ _ _ => rfl)).mono ?_
  rintro e w11 ⟨rfl, q11, rfl⟩
  have HB11 := Lib.hid (below_tr (KEEP.out _ HL10.out).2.2.2.2.2 (below_drewN' w10 q11))
  go_wp2_with fail
  go_ret
  exact ⟨rfl, HB11.out⟩

set_option maxRecDepth 100000 in
theorem lifted (os : Os) (started : os.Started) (H : Type) (enc : TypeId × Value → H) :
    ReturnsInHanded {} Try.checked os 4 .any (Rows.matrixMulsSpec.pre6 enc Try.prog Try.f4 Rows.matrixMulsRow.domain false) (Rows.matrixMulsSpec.post enc Try.prog Try.f4 false true false false) := by
  refine returnsInHanded_of_change (C := Try.checked) own started (by kernel_rfl) Try.func4
    (ChangeSpec.witness6 (enc := enc) (C := Try.checked) false ⟨#[], #[.bool false, .agg #[.slice none 0 0, .slice none 0 0], .slice none 0 0], []⟩ 8 (by kernel_rfl) (by kernel_rfl) (by kernel_rfl) (by kernel_rfl)) ?_
  intro W base args ds gs before hval0 hW hcnd _
  have hval : ∀ (j : Nat) t v, Try.f4.params[j]? = some t → args[j]? = some v → Value.okWide Try.prog W .any base t v := hval0
  have hW' := hW
  obtain ⟨p, q, hA0, hV, rfl, hfz, hnd⟩ := hW
  have hA : DataW.TrodAll enc Try.prog W 0 (fun _ => true) true Try.f4.params.toList args.toList ds p := hA0
  rw [Try.params4] at hA hval
  obtain ⟨v0, vs0, d0, ds0, p0, q0, hargs, rfl, rfl, h0, r0⟩ := trodAll_cons hA
  obtain ⟨v1, vs1, d1, ds1, p1, q1, rfl, rfl, rfl, h1, r1⟩ := trodAll_cons r0
  obtain ⟨v2, vs2, d2, ds2, p2, q2, rfl, rfl, rfl, h2, r2⟩ := trodAll_cons r1
  obtain ⟨rfl, rfl, rfl⟩ := trodAll_nil r2
  obtain rfl : args = #[v0, v1, v2] := by cases args; simp_all
  obtain ⟨rfl, rfl⟩ := trodVars_none hV
  obtain ⟨a0, rfl, rfl, rfl⟩ := open_bool Try.underlying4 (hval 0 4 v0 rfl rfl) h0
  obtain ⟨cs1, rfl, hsz1, _⟩ : ∃ cs, v1 = .agg cs ∧ cs.size = Try.prog.cellsOf 23 ∧ Row.okWide Try.prog W .any base 23 cs := by
    have := hval 1 23 v1 rfl rfl
    simpa [Value.okWide, Try.underlying23] using this
  rw [show Try.prog.cellsOf 23 = 2 by kernel_rfl] at hsz1
  obtain ⟨l1⟩ := cs1
  obtain ⟨e1, f1, rfl⟩ := list2 l1 hsz1
  have k1 := h1
  have lt1 : ∀ x ∈ p1, x.block < W.heap.size := by obtain ⟨m, hm⟩ := k1; exact DataW.trod_lt m _ _ _ hm
  obtain ⟨fuel1, hf1⟩ := h1
  obtain ⟨a1, len1, cap1, b1, blen1, bcap1, rfl, rfl, w1, x1⟩ := mats_in hf1
  obtain ⟨a2, len2, cap2, rfl⟩ := okWide_slice Try.underlying24 (hval 2 24 v2 rfl rfl)
  have k2 := h2
  have lt2 : ∀ x ∈ p2, x.block < W.heap.size := by obtain ⟨m, hm⟩ := k2; exact DataW.trod_lt m _ _ _ hm
  have w2 : IsInts W a2 len2 cap2 := by
    obtain ⟨fuel, hf⟩ := h2
    exact ints_in hf
  clear hA0 hval0
  refine (walk a0 a1 len1 cap1 b1 blen1 bcap1 a2 len2 cap2 W w1 x1 w2).mono fun e W' ⟨he, bel⟩ => ?_
  subst he
  exact ⟨_, rfl, _, _, _, [], _, [], hW', trodAll_mk1 (shut_bool Try.underlying4 _), (trodAll_cons_mk (shut_bool Try.underlying4 _) (trodAll_cons_mk (Below.trod laidOut (by kernel_rfl) (of_decide_eq_true (by kernel_rfl)) k1 bel lt1) (trodAll_cons_mk (Below.trod laidOut (by kernel_rfl) (of_decide_eq_true (by kernel_rfl)) k2 bel lt2) trodAll_mk0))), rfl, bel.frame _, fun h => by cases h⟩

theorem over : Rows.matrixMulsRow.holds Try.pinned (OpenSpec.ofChange Rows.matrixMulsSpec) :=
  OpenClaim.holds_of_wide 4 Try.f4 rfl rfl rfl rfl rfl rfl rfl ⟨rfl, rfl, rfl, rfl, rfl⟩ rfl rfl rfl rfl rfl (by kernel_rfl) Try.func4 (by kernel_rfl)
    (of_decide_eq_true (by kernel_rfl)) (by unfold Func.isWrapper; first | (rw [if_pos (by decide +kernel)]; kernel_rfl) | (rw [if_neg (by decide +kernel)]; exact ⟨rfl, rfl⟩))
    (fun os started H enc _ => lifted os started H enc)

theorem proved : Rows.MatrixMulsSaid := over
end Go.Proofs.Ytomlfmfahlcedaa.matrixMuls
