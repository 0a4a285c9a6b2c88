/- CauchyTells: whatever two lists of numbers and whatever two numbers come in: Of, Orig and Isal tell what the document's own tell, and refuse what it refuses; for every field choice, no condition. -/
import Derived.Test.YtgcochamjicjiaaRows
import Derived.Test.YtgcochamjicjiaaCyh
import Derived.Test.YtgcochamjicjiaaCyj
import Derived.Test.YtgcochamjicjiaaCyk
import Derived.Test.YtgcochamjicjiaaArr
import Derived.Deep.RegionHeld3
import Derived.WalkKit
import Derived.ProofKit
import Derived.OpenShut
import Derived.ShutString
import Derived.ChangeOld
import Derived.Below
namespace Go.Proofs.Ytgcochamjicjiaa.cauchyTells
open Go.ChangeShapes Go.WideShapes Go.ChangeAt Go.RowKit
set_option linter.unusedVariables false

theorem own : ownKnob Try.prog.godebug = none := by kernel_rfl
theorem laidOut : laidOutB Try.prog = true := by kernel_rfl

theorem few {t : Bool} {n m : Nat} (h : t = true → n ≤ 20 ∧ m ≤ 20) : cond t n 0 ≤ 1000 ∧ ∀ r, r < cond t n 0 → m ≤ 1000 := by
  cases t
  · exact ⟨Nat.zero_le _, fun r hr => absurd hr (Nat.not_lt_zero _)⟩
  · have := h rfl
    exact ⟨by simp only [cond]; omega, fun _ _ => by omega⟩

set_option maxRecDepth 100000 in
set_option maxHeartbeats 8000000 in
theorem walk (a0 : Bool) (a1 : Option Addr) (len1 cap1 : Nat) (b1 : Option Addr) (blen1 bcap1 : Nat) (a2 c2 : Int) (w : World) (w1 : IsInts64 w a1 len1 cap1) (x1 : IsInts64 w b1 blen1 bcap1) (w2 : (Lit.int .i64 a2).wf = true) (x2 : (Lit.int .i64 c2).wf = true) :
    Calls Try.prog 3 #[.bool a0, .agg #[.slice a1 len1 cap1, .slice b1 blen1 bcap1], .agg #[.int .i64 a2, .int .i64 c2]] w fun e w' => e = .returned (.bool true) ∧ Below w.heap.size w w' := by
  obtain ⟨lx, hlx, _, hmx⟩ := w1
  obtain ⟨ly, hly, _, hmy⟩ := x1
  have h63 := bounds_i64 w2
  have H63 := Lib.hid (show a2 ≤ 9223372036854775807 by omega)
  have HLX := Lib.hid hlx
  have HLY := Lib.hid hly
  have HMX := Lib.hid hmx
  have HMY := Lib.hid hmy
  obtain ⟨u, hu⟩ : ∃ u : Bool, u = true ↔ fitsI a2 c2 := by
    by_cases h : fitsI a2 c2
    · exact ⟨true, by simp [h]⟩
    · exact ⟨false, by simp [h]⟩
  have HU := Lib.hid hu
  have FU := Lib.hid (few (t := u) (n := c2.toNat) (m := a2.toNat) (fun h => by obtain ⟨h1, h2, h3⟩ := hu.1 h; have := h1.1; have := h2.1; omega))
  clear hlx hly hmx hmy hu h63 w2 x2
  obtain ⟨v, hv⟩ : ∃ v, (w.alloc (.cells #[.slice a1 len1 cap1, .slice b1 blen1 bcap1] 23)).alloc (.cells #[.int .i64 a2, .int .i64 c2] 24) = v := ⟨_, rfl⟩
  have HW0 := Lib.hid (show Below w.heap.size w v from by rw [← hv]; exact (below_alloc w _).alloc (by simp) _)
  have g0 : v.cell? ⟨w.heap.size, 0, none⟩ = some (.slice a1 len1 cap1) := by rw [← hv]; simp
  have g1 : v.cell? ⟨w.heap.size, 1, none⟩ = some (.slice b1 blen1 bcap1) := by rw [← hv]; simp
  have g2 : v.cell? ⟨w.heap.size + 1, 0, none⟩ = some (.int .i64 a2) := by rw [← hv]; simp
  have g3 : v.cell? ⟨w.heap.size + 1, 1, none⟩ = some (.int .i64 c2) := by rw [← hv]; simp
  have KC := Lib.hid (show ∀ w', Below v.heap.size v w' → (w'.cell? ⟨w.heap.size, 0, none⟩ = some (.slice a1 len1 cap1) ∧ w'.cell? ⟨w.heap.size, 1, none⟩ = some (.slice b1 blen1 bcap1)) ∧ w'.cell? ⟨w.heap.size + 1, 0, none⟩ = some (.int .i64 a2) ∧ w'.cell? ⟨w.heap.size + 1, 1, none⟩ = some (.int .i64 c2) from fun w' h =>
    ⟨⟨(h.cell (lt_of_cell g0)).trans g0, (h.cell (lt_of_cell g1)).trans g1⟩, (h.cell (lt_of_cell g2)).trans g2, (h.cell (lt_of_cell g3)).trans g3⟩)
  clear g0 g1 g2 g3
  go_enter Try.func3, Try.ntmps3
  go_wp2_with fail
  refine (awakeC _).mono ?_
  rintro e w1 ⟨rfl, hb1⟩
  have H1 := Lib.hid hb1
  obtain ⟨⟨d0, d1⟩, _, _⟩ := KC.out _ hb1
  clear hb1 hv
  by_cases hl1 : len1 ≤ 30
  case neg =>
    have e1 : decide ((30 : Int) < (len1 : Int)) = true := by simp; omega
    have HE := Lib.hid (below_tr HW0.out H1.out)
    go_wp2_with fail
    go_ret
    exact ⟨rfl, HE.out⟩
  have e1 : decide ((30 : Int) < (len1 : Int)) = false := by simp; omega
  by_cases hl2 : blen1 ≤ 30
  case neg =>
    have e2 : decide ((30 : Int) < (blen1 : Int)) = true := by simp; omega
    have HE := Lib.hid (below_tr HW0.out H1.out)
    go_wp2_with fail
    go_ret
    exact ⟨rfl, HE.out⟩
  have e2 : decide ((30 : Int) < (blen1 : Int)) = false := by simp; omega
  go_wp2_with fail
  refine (cfield9 a0 _).mono ?_
  rintro e w2 ⟨q, wd, b, rfl, hFl, hnb, hb2⟩
  have hL := Live.start H1.out hFl hnb hb2
  have HL := Lib.hid hL
  have HG := Lib.hid hFl.1
  have hlow : v.heap.size ≤ b := hL.2.2
  have hvw := HW0.out.size
  have KX := Lib.hid (show ∀ w', Live q.p b wd v w' → Rd b w' (i64s lx) a1 len1 ∧ Rd b w' (i64s ly) b1 blen1 from fun w' h => ⟨(HMX.out b (by omega)).below (below_tr HW0.out h.2.1), (HMY.out b (by omega)).below (below_tr HW0.out h.2.1)⟩)
  obtain ⟨t, ht⟩ : ∃ t : Bool, t = true ↔ ofP (M.ord q.p) len1 blen1 lx ly := by
    by_cases h : ofP (M.ord q.p) len1 blen1 lx ly
    · exact ⟨true, by simp [h]⟩
    · exact ⟨false, by simp [h]⟩
  have HT := Lib.hid ht
  have FT := Lib.hid (few (t := t) (n := len1) (m := blen1) (fun h => ⟨(ht.1 h).1.2, (ht.1 h).2.1.2⟩))
  obtain ⟨⟨d0', d1'⟩, _, _⟩ := KC.out _ hL.2.1
  clear hFl hnb hb2 H1 hL HMX HMY ht d0 d1 e1 e2
  go_wp2_with fail
  refine (of_any q b wd len1 blen1 lx ly a1 b1 cap1 bcap1 (fun i _ => HLX.out i) (fun i _ => HLY.out i) _ HL.out.1 (KX.out _ HL.out).1 (KX.out _ HL.out).2).mono ?_
  rintro e w3 ⟨t', A3, c3, rfl, ht', _, hx3, hf3, ht3⟩
  obtain rfl : t = t' := Bool.eq_iff_iff.2 (HT.out.trans ht'.symm)
  have hL3 := HL.out.next hf3 ht3
  have HL3 := Lib.hid hL3
  have X3 := Lib.hid hx3
  obtain ⟨⟨d0, d1⟩, _, _⟩ := KC.out _ hL3.2.1
  clear ht' hx3 hf3 ht3 HL hL3 d0' d1'
  go_wp2_with fail
  refine (rof10 q b wd len1 blen1 HG.out lx ly a1 b1 cap1 bcap1 _ HL3.out.1.lt (KX.out _ HL3.out).1 (KX.out _ HL3.out).2).mono ?_
  rintro e w4 ⟨t', A4, c4, rfl, ht', hx4, hb4⟩
  obtain rfl : t = t' := Bool.eq_iff_iff.2 (HT.out.trans ht'.symm)
  have hL4 := HL3.out.below hb4
  have HL4 := Lib.hid hL4
  have X4 := Lib.hid (X3.out.below hb4)
  have Y4 := Lib.hid hx4
  obtain ⟨_, d0', d1'⟩ := KC.out _ hL4.2.1
  clear ht' hx4 hb4 HL3 X3 d0 d1 hL4
  go_wp2_with fail
  refine (orig_any q b wd a2 c2 H63.out u HU.out _ HL4.out.1).mono ?_
  rintro e w5 ⟨A5, c5, rfl, _, hx5, hf5, ht5⟩
  have hL5 := HL4.out.next hf5 ht5
  have HL5 := Lib.hid hL5
  have X5 := Lib.hid (X4.out.turned ht5)
  have Y5 := Lib.hid (Y4.out.turned ht5)
  have Z5 := Lib.hid hx5
  obtain ⟨_, d0, d1⟩ := KC.out _ hL5.2.1
  clear hx5 hf5 ht5 HL4 X4 Y4 d0' d1' hL5
  go_wp2_with fail
  refine (rorig_any q b wd HG.out a2 c2 u HU.out _ HL5.out.1.lt).mono ?_
  rintro e w6 ⟨A6, c6, rfl, hx6, hb6⟩
  have hL6 := HL5.out.below hb6
  have HL6 := Lib.hid hL6
  have X6 := Lib.hid (X5.out.below hb6)
  have Y6 := Lib.hid (Y5.out.below hb6)
  have Z6 := Lib.hid (Z5.out.below hb6)
  have U6 := Lib.hid hx6
  obtain ⟨_, d0', d1'⟩ := KC.out _ hL6.2.1
  clear hx6 hb6 HL5 X5 Y5 Z5 d0 d1 hL6
  go_wp2_with fail
  refine (cisal_any q b wd a2 c2 H63.out u HU.out _ HL6.out.1).mono ?_
  rintro e w7 ⟨A7, c7, rfl, _, hx7, hf7, ht7⟩
  have hL7 := HL6.out.next hf7 ht7
  have HL7 := Lib.hid hL7
  have X7 := Lib.hid (X6.out.turned ht7)
  have Y7 := Lib.hid (Y6.out.turned ht7)
  have Z7 := Lib.hid (Z6.out.turned ht7)
  have U7 := Lib.hid (U6.out.turned ht7)
  have V7 := Lib.hid hx7
  obtain ⟨_, d0, d1⟩ := KC.out _ hL7.2.1
  clear hx7 hf7 ht7 HL6 X6 Y6 Z6 U6 d0' d1' hL7
  go_wp2_with fail
  refine (rcisal_any q b wd HG.out a2 c2 u HU.out _ HL7.out.1.lt).mono ?_
  rintro e w8 ⟨A8, c8, rfl, hx8, hb8⟩
  have HL8 := Lib.hid (HL7.out.below hb8)
  have X8 := Lib.hid (X7.out.below hb8)
  have Y8 := Lib.hid (Y7.out.below hb8)
  have Z8 := Lib.hid (Z7.out.below hb8)
  have U8 := Lib.hid (U7.out.below hb8)
  have V8 := Lib.hid (V7.out.below hb8)
  have T8 := Lib.hid hx8
  clear hx8 hb8 HL7 X7 Y7 Z7 U7 V7 d0 d1
  have HE := Lib.hid (fun n => below_tr HW0.out (HL8.out.below (below_drewN' w8 n)).2.1)
  obtain ⟨n1, hn1⟩ : ∃ n, cond t len1 0 = n := ⟨_, rfl⟩
  obtain ⟨n3, hn3⟩ : ∃ n, cond u c2.toNat 0 = n := ⟨_, rfl⟩
  rw [hn1] at X8 Y8 FT ⊢
  rw [hn3] at Z8 U8 V8 T8 FU ⊢
  clear hn1 hn3 HT HU HG HLX HLY KC KX H63 HW0
  go_wp2_with fail
  refine (cwas12 t _).mono ?_
  rintro e w' ⟨rfl, rfl⟩
  go_wp2_with fail
  refine (same19 b b _ _ _ _ A3 A4 n1 c3 c4 FT.out.1 FT.out.2 _ X8.out Y8.out (fun _ _ => rfl) (fun _ _ _ _ => rfl)).mono ?_
  rintro e w9 ⟨rfl, q9, rfl⟩
  go_wp2_with fail
  refine (cwas12 u _).mono ?_
  rintro e w' ⟨rfl, rfl⟩
  go_wp2_with fail
  refine (same19 b b _ _ _ _ A5 A6 n3 c5 c6 FU.out.1 FU.out.2 _ (Z8.out.below (below_drewN' w8 q9)) (U8.out.below (below_drewN' w8 q9)) (fun _ _ => rfl) (fun _ _ _ _ => rfl)).mono ?_
  rintro e w10 ⟨rfl, q10, rfl⟩
  go_wp2_with fail
  refine (cwas12 u _).mono ?_
  rintro e w' ⟨rfl, rfl⟩
  go_wp2_with fail
  refine (same19 b b _ _ _ _ A7 A8 n3 c7 c8 FU.out.1 FU.out.2 _ (V8.out.below (below_drewN' w8 (q9 + q10))) (T8.out.below (below_drewN' w8 (q9 + q10))) (fun _ _ => rfl) (fun _ _ _ _ => rfl)).mono ?_
  rintro e w11 ⟨rfl, q11, rfl⟩
  go_wp2_with fail
  go_ret
  exact ⟨rfl, HE.out _⟩

set_option maxRecDepth 100000 in
theorem lifted (os : Os) (started : os.Started) (H : Type) (enc : TypeId × Value → H) :
    ReturnsInHanded {} Try.checked os 3 .any (Rows.cauchyTellsSpec.pre6 enc Try.prog Try.f3 Rows.cauchyTellsRow.domain false) (Rows.cauchyTellsSpec.post enc Try.prog Try.f3 false true false false) := by
  refine returnsInHanded_of_change (C := Try.checked) own started (by kernel_rfl) Try.func3
    (ChangeSpec.witness6 (enc := enc) (C := Try.checked) false ⟨#[], #[.bool false, .agg #[.slice none 0 0, .slice none 0 0], .agg #[.int .i64 0, .int .i64 0]], []⟩ 8 (by kernel_rfl) (by kernel_rfl) (by kernel_rfl) (by kernel_rfl)) ?_
  intro W base args ds gs before hval0 hW hcnd _
  have hval : ∀ (j : Nat) t v, Try.f3.params[j]? = some t → args[j]? = some v → Value.okWide Try.prog W .any base t v := hval0
  have hW' := hW
  obtain ⟨p, q, hA0, hV, rfl, hfz, hnd⟩ := hW
  have hA : DataW.TrodAll enc Try.prog W 0 (fun _ => true) true Try.f3.params.toList args.toList ds p := hA0
  rw [Try.params3] at hA hval
  obtain ⟨v0, vs0, d0, ds0, p0, q0, hargs, rfl, rfl, h0, r0⟩ := trodAll_cons hA
  obtain ⟨v1, vs1, d1, ds1, p1, q1, rfl, rfl, rfl, h1, r1⟩ := trodAll_cons r0
  obtain ⟨v2, vs2, d2, ds2, p2, q2, rfl, rfl, rfl, h2, r2⟩ := trodAll_cons r1
  obtain ⟨rfl, rfl, rfl⟩ := trodAll_nil r2
  obtain rfl : args = #[v0, v1, v2] := by cases args; simp_all
  obtain ⟨rfl, rfl⟩ := trodVars_none hV
  obtain ⟨a0, rfl, rfl, rfl⟩ := open_bool Try.underlying4 (hval 0 4 v0 rfl rfl) h0
  obtain ⟨cs1, rfl, hsz1, _⟩ : ∃ cs, v1 = .agg cs ∧ cs.size = Try.prog.cellsOf 23 ∧ Row.okWide Try.prog W .any base 23 cs := by
    have := hval 1 23 v1 rfl rfl
    simpa [Value.okWide, Try.underlying23] using this
  rw [show Try.prog.cellsOf 23 = 2 by kernel_rfl] at hsz1
  obtain ⟨l1⟩ := cs1
  obtain ⟨e1, f1, rfl⟩ := list2 l1 hsz1
  have k1 := h1
  have lt1 : ∀ x ∈ p1, x.block < W.heap.size := by obtain ⟨m, hm⟩ := k1; exact DataW.trod_lt m _ _ _ hm
  obtain ⟨fuel1, hf1⟩ := h1
  obtain ⟨a1, len1, cap1, b1, blen1, bcap1, rfl, rfl, w1, x1⟩ := ints2_in hf1
  obtain ⟨cs2, rfl, hsz2, _⟩ : ∃ cs, v2 = .agg cs ∧ cs.size = Try.prog.cellsOf 24 ∧ Row.okWide Try.prog W .any base 24 cs := by
    have := hval 2 24 v2 rfl rfl
    simpa [Value.okWide, Try.underlying24] using this
  rw [show Try.prog.cellsOf 24 = 2 by kernel_rfl] at hsz2
  obtain ⟨l2⟩ := cs2
  obtain ⟨e2, f2, rfl⟩ := list2 l2 hsz2
  have k2 := h2
  have lt2 : ∀ x ∈ p2, x.block < W.heap.size := by obtain ⟨m, hm⟩ := k2; exact DataW.trod_lt m _ _ _ hm
  obtain ⟨fuel2, hf2⟩ := h2
  obtain ⟨m2, y2, z2, hy2, hz2⟩ := two_cells Try.underlying24 (by kernel_rfl) hf2
  obtain ⟨a2, g2, rfl, wa2⟩ := DataW.trod_int Try.underlying3 hy2
  obtain ⟨c2, j2, rfl, wc2⟩ := DataW.trod_int Try.underlying3 hz2
  simp at g2 j2
  subst g2 j2
  clear hA0 hval0
  refine (walk a0 a1 len1 cap1 b1 blen1 bcap1 a2 c2 W w1 x1 wa2 wc2).mono fun e W' ⟨he, bel⟩ => ?_
  subst he
  exact ⟨_, rfl, _, _, _, [], _, [], hW', trodAll_mk1 (shut_bool Try.underlying4 _), (trodAll_cons_mk (shut_bool Try.underlying4 _) (trodAll_cons_mk (Below.trod laidOut (by kernel_rfl) (of_decide_eq_true (by kernel_rfl)) k1 bel lt1) (trodAll_cons_mk (Below.trod laidOut (by kernel_rfl) (of_decide_eq_true (by kernel_rfl)) k2 bel lt2) trodAll_mk0))), rfl, bel.frame _, fun h => by cases h⟩

theorem over : Rows.cauchyTellsRow.holds Try.pinned (OpenSpec.ofChange Rows.cauchyTellsSpec) :=
  OpenClaim.holds_of_wide 3 Try.f3 rfl rfl rfl rfl rfl rfl rfl ⟨rfl, rfl, rfl, rfl, rfl⟩ rfl rfl rfl rfl rfl (by kernel_rfl) Try.func3 (by kernel_rfl)
    (of_decide_eq_true (by kernel_rfl)) (by unfold Func.isWrapper; first | (rw [if_pos (by decide +kernel)]; kernel_rfl) | (rw [if_neg (by decide +kernel)]; exact ⟨rfl, rfl⟩))
    (fun os started H enc _ => lifted os started H enc)

theorem proved : Rows.CauchyTellsSaid := over
end Go.Proofs.Ytgcochamjicjiaa.cauchyTells
