/- A product has an inverse just if both matrices have; it is that of the second one, times that of the first one. No conditions. -/
import Derived.Test.YtkbacjfjlffmcaaRows
import Derived.Test.YtkbacjfjlffmcaaIvk
import Derived.Test.YtkbacjfjlffmcaaMto
import Derived.Deep.RegionHeld3
import Derived.WalkKit
import Derived.ProofKit
import Derived.OpenShut
import Derived.ShutString
import Derived.ChangeOld
import Derived.Below
namespace Go.Proofs.Ytkbacjfjlffmcaa.invertProduct
open Go.ChangeShapes Go.WideShapes Go.ChangeAt Go.RowKit
set_option linter.unusedVariables false

theorem own : ownKnob Try.prog.godebug = none := by kernel_rfl
theorem laidOut : laidOutB Try.prog = true := by kernel_rfl

set_option maxRecDepth 100000 in
set_option maxHeartbeats 8000000 in
theorem walk (a0 : Option Addr) (len0 cap0 : Nat) (a1 : Option Addr) (len1 cap1 : Nat) (w : World) (w0 : IsMat w a0 len0 cap0) (w1 : IsMat w a1 len1 cap1) :
    Calls Try.prog 5 #[.slice a0 len0 cap0, .slice a1 len1 cap1] w fun e w' => e = .returned (.bool true) ∧ Below w.heap.size w w' := by
  obtain ⟨F, La, _, _, hma⟩ := w0
  obtain ⟨G, Lb, _, _, hmb⟩ := w1
  have HMA := Lib.hid hma
  have HMB := Lib.hid hmb
  clear hma hmb
  go_enter Try.func5, Try.ntmps5
  go_wp2_with fail
  refine (awakeI _).mono ?_
  rintro e w1 ⟨rfl, hb1⟩
  have H1 := Lib.hid hb1
  clear hb1
  go_wp2_with fail
  refine (few10 w.heap.size F La a0 len0 cap0 _ ((HMA.out _ (Nat.le_refl _)).below H1.out)).mono ?_
  rintro e w' ⟨t, rfl, ht, rfl⟩
  cases t
  · clear ht
    go_wp2_with fail
    go_ret
    exact ⟨rfl, H1.out⟩
  obtain ⟨hn0, hLs⟩ := ht rfl
  clear ht hLs
  go_wp2_with fail
  refine (few10 w.heap.size G Lb a1 len1 cap1 _ ((HMB.out _ (Nat.le_refl _)).below H1.out)).mono ?_
  rintro e w' ⟨t, rfl, ht, rfl⟩
  cases t
  · clear ht
    go_wp2_with fail
    go_ret
    exact ⟨rfl, H1.out⟩
  obtain ⟨hn1, hLs⟩ := ht rfl
  clear ht hLs
  go_wp2_with fail
  refine (ifield_no _).mono ?_
  rintro e w2 ⟨b, rfl, hFl, hnb, hb2⟩
  have hL := Live.start H1.out hFl hnb hb2
  have HL := Lib.hid hL
  have hlow : w.heap.size ≤ b := hL.2.2
  have KEEP := Lib.hid (show ∀ w', Live q285.p b 8 w w' → Mx b w' F La a0 len0 ∧ Mx b w' G Lb a1 len1 from fun w' h => ⟨(HMA.out b hlow).below h.2.1, (HMB.out b hlow).below h.2.1⟩)
  clear hFl hnb hb2 H1 hL HMA HMB
  go_wp2_with fail
  refine (mmul_any q285.p b 8 F G La Lb a0 a1 len0 len1 cap0 cap1 _ HL.out.1 (KEEP.out _ HL.out).1 (KEEP.out _ HL.out).2).mono ?_
  rintro e w3 ⟨t3, A3, c3, rfl, ht3, hx3, hf3, htr3⟩
  have HL3 := Lib.hid (HL.out.next hf3 htr3)
  have X3 := Lib.hid hx3
  have HT3 := Lib.hid ht3
  clear hx3 hf3 htr3 ht3 HL
  cases t3
  · rw [show errOf false = 1 from rfl]
    clear X3
    go_wp2_with fail
    go_ret
    exact ⟨rfl, HL3.out.2.1⟩
  rw [show errOf true = 0 from rfl]
  obtain ⟨hm1, hm2, hin⟩ := HT3.out.1 rfl
  have X3 := Lib.hid (show Mx b w3 (mulF q285.p F G len1) (fun _ => Lb 0) A3 len0 from X3.out)
  simp only [cond]
  have hl1 := hm1.2.1.2
  have hl2 := hm2.2.1.2
  have hsd := hm1.1
  obtain ⟨As, Ca, ra, _⟩ := (KEEP.out _ HL3.out).1
  obtain ⟨ad0, rfl, hc1⟩ := ra.at_ (show 0 < len0 by have := hsd.1; omega)
  rw [show ad0.add 0 = ad0 by simp [Addr.add]] at hc1
  obtain ⟨Bs, Cb, rb, _⟩ := (KEEP.out _ HL3.out).2
  obtain ⟨ad1, rfl, hc2⟩ := rb.at_ (show 0 < len1 by have := hm2.1.1; omega)
  rw [show ad1.add 0 = ad1 by simp [Addr.add]] at hc2
  simp only [slis] at hc1 hc2
  have hn00 : (0 : Int) < (len0 : Int) := by have := hsd.1; omega
  have hn10 : (0 : Int) < (len1 : Int) := by have := hm2.1.1; omega
  clear ra rb
  by_cases hs1 : len0 = La 0
  case neg =>
    have hne : (((len0 : Nat) : Int) != ((La 0 : Nat) : Int)) = true := by simp; omega
    clear hs1 hm1 hm2 hin hsd
    go_wp2_with fail
    go_ret
    exact ⟨rfl, HL3.out.2.1⟩
  by_cases hs2 : len1 = Lb 0
  case neg =>
    have hne : (((len0 : Nat) : Int) != ((La 0 : Nat) : Int)) = false := by simp; omega
    have hne2 : (((len1 : Nat) : Int) != ((Lb 0 : Nat) : Int)) = true := by simp; omega
    clear hs1 hs2 hm1 hm2 hin hsd
    go_wp2_with fail
    go_ret
    exact ⟨rfl, HL3.out.2.1⟩
  have hne : (((len0 : Nat) : Int) != ((La 0 : Nat) : Int)) = false := by simp; omega
  have hne2 : (((len1 : Nat) : Int) != ((Lb 0 : Nat) : Int)) = false := by simp; omega
  have hnn : len1 = len0 := by omega
  obtain ⟨X, hX⟩ : ∃ X, elM q285 F = X := ⟨_, rfl⟩
  obtain ⟨Y, hY⟩ : ∃ Y, elM q285 G = Y := ⟨_, rfl⟩
  have KEEPX := Lib.hid (show ∀ w', Live q285.p b 8 w w' → Mx b w' (ivs X) (fun _ => len0) (some ad0) len0 ∧ Mx b w' (ivs Y) (fun _ => len0) (some ad1) len0 from fun w' h => by
    have h1 := (KEEP.out _ h).1.el (q := q285) hm1
    have h2 := (KEEP.out _ h).2.el (q := q285) hm2
    rw [← hs1, hX] at h1
    rw [← hs2, hY, hnn] at h2
    exact ⟨h1, h2⟩)
  have X3 := Lib.hid (show Mx b w3 (ivs (mm len0 X Y)) (fun _ => len0) A3 len0 from (X3.out.congr (fun r hr => by rw [← hs2, hnn]) (fun r hr j hj => by
    rw [← hX, ← hY, ← mulF_ivs, hnn]
    unfold mulF
    exact congrArg _ (dotN_congr (fun i hi => (elM_val (q := q285) hm1 hr (by omega)).symm) (fun i hi => (elM_val (q := q285) hm2 (by omega) hj).symm)))))
  subst hnn
  have HSX := Lib.hid (show sqP (M.ord q285.p) len1 (fun _ => len1) (ivs X) from ⟨ivs_may X hsd hsd, rfl⟩)
  have HSY := Lib.hid (show sqP (M.ord q285.p) len1 (fun _ => len1) (ivs Y) from ⟨ivs_may Y hsd hsd, rfl⟩)
  have HSZ := Lib.hid (show sqP (M.ord q285.p) len1 (fun _ => len1) (ivs (mm len1 X Y)) from ⟨ivs_may (mm len1 X Y) hsd hsd, rfl⟩)
  have HSD := Lib.hid hsd
  clear hX hY hs1 hs2 hm1 hm2 hin hsd KEEP HT3
  go_wp2_with fail
  refine (inverse12 q285 b 8 len1 (fun _ => len1) (ivs X) (some ad0) cap0 _ HL3.out.1 (KEEPX.out _ HL3.out).1).mono ?_
  rintro e w4 ⟨s, t4, A4, c4, rfl, hs, ht, _, hm4, hf4, ht4⟩
  obtain rfl : s = true := hs.2 HSX.out
  rw [elM_ivs] at ht hm4
  have HT4 := Lib.hid (ht rfl)
  have HL4 := Lib.hid (HL3.out.next hf4 ht4)
  have Z4 := Lib.hid (X3.out.turned ht4)
  simp only [Bool.true_and] at hm4 ⊢
  have M4 := Lib.hid hm4
  clear hs ht hm4 hf4 ht4 HL3 X3 hc1 hc2
  go_wp2_with fail
  refine (inverse12 q285 b 8 len1 (fun _ => len1) (ivs Y) (some ad1) cap1 _ HL4.out.1 (KEEPX.out _ HL4.out).2).mono ?_
  rintro e w5 ⟨s, t5, A5, c5, rfl, hs, ht, _, hm5, hf5, ht5⟩
  obtain rfl : s = true := hs.2 HSY.out
  rw [elM_ivs] at ht hm5
  have HT5 := Lib.hid (ht rfl)
  have HL5 := Lib.hid (HL4.out.next hf5 ht5)
  have Z5 := Lib.hid (Z4.out.turned ht5)
  have M5 := Lib.hid (M4.out.turned ht5)
  simp only [Bool.true_and] at hm5 ⊢
  have N5 := Lib.hid hm5
  clear hs ht hm5 hf5 ht5 HL4 Z4 M4
  go_wp2_with fail
  refine (inverse12 q285 b 8 len1 (fun _ => len1) (ivs (mm len1 X Y)) A3 c3 _ HL5.out.1 Z5.out).mono ?_
  rintro e w6 ⟨s, t6, A6, c6, rfl, hs, ht, _, hm6, hf6, ht6⟩
  obtain rfl : s = true := hs.2 HSZ.out
  rw [elM_ivs] at ht hm6
  have HT6 := Lib.hid ((ht rfl).trans full_mm)
  have HL6 := Lib.hid (HL5.out.next hf6 ht6)
  have M6 := Lib.hid (M5.out.turned ht6)
  have N6 := Lib.hid (N5.out.turned ht6)
  simp only [Bool.true_and] at hm6 ⊢
  have O6 := Lib.hid hm6
  clear hs ht hm6 hf6 ht6 HL5 Z5 M5 N5
  cases t4
  · obtain rfl : t6 = false := by
      cases t6
      · rfl
      · have := HT4.out.2 (HT6.out.1 rfl).1
        cases this
    rw [show err2 true false = 2 from rfl]
    clear M6 N6 O6 HT4 HT5 HT6
    cases t5
    · rw [show err2 true false = 2 from rfl]
      go_wp2_with fail
      go_ret
      exact ⟨rfl, HL6.out.2.1⟩
    · rw [show err2 true true = 0 from rfl]
      go_wp2_with fail
      go_ret
      exact ⟨rfl, HL6.out.2.1⟩
  cases t5
  · obtain rfl : t6 = false := by
      cases t6
      · rfl
      · have := HT5.out.2 (HT6.out.1 rfl).2
        cases this
    rw [show err2 true false = 2 from rfl, show err2 true true = 0 from rfl]
    clear M6 N6 O6 HT4 HT5 HT6
    go_wp2_with fail
    go_ret
    exact ⟨rfl, HL6.out.2.1⟩
  have hX := HT4.out.1 rfl
  have hY := HT5.out.1 rfl
  obtain rfl : t6 = true := HT6.out.2 ⟨hX, hY⟩
  rw [show err2 true true = 0 from rfl]
  have M6 := Lib.hid (show Mx b w6 (ivs (ivm len1 X)) (fun _ => len1) A4 len1 from M6.out)
  have N6 := Lib.hid (show Mx b w6 (ivs (ivm len1 Y)) (fun _ => len1) A5 len1 from N6.out)
  have O6 := Lib.hid (show Mx b w6 (ivs (ivm len1 (mm len1 X Y))) (fun _ => len1) A6 len1 from O6.out)
  have HQ := Lib.hid (show ∀ r, r < len1 → ∀ j, j < len1 → ivs (ivm len1 (mm len1 X Y)) r j = ivs (mm len1 (ivm len1 Y) (ivm len1 X)) r j from fun r hr j hj => by unfold ivs; rw [ivm_mm hX hY r hr j hj])
  have HP := Lib.hid (show mayP (M.ord q285.p) len1 (fun _ => len1) (ivs (ivm len1 Y)) ∧ mayP (M.ord q285.p) len1 (fun _ => len1) (ivs (ivm len1 X)) ∧ len1 = len1 from ⟨ivs_may _ HSD.out HSD.out, ivs_may _ HSD.out HSD.out, rfl⟩)
  simp only [cond]
  clear hX hY HT4 HT5 HT6
  go_wp2_with fail
  refine (mmul_any q285.p b 8 (ivs (ivm len1 Y)) (ivs (ivm len1 X)) (fun _ => len1) (fun _ => len1) A5 A4 len1 len1 c5 c4 _ HL6.out.1 N6.out M6.out).mono ?_
  rintro e w7 ⟨t7, A7, c7, rfl, ht7, hx7, hf7, htr7⟩
  obtain rfl : t7 = true := ht7.2 ⟨HP.out.1, HP.out.2.1, rfl⟩
  rw [show errOf true = 0 from rfl]
  simp only [cond] at hx7 ⊢
  rw [mulF_ivs] at hx7
  have HL7 := Lib.hid (HL6.out.next hf7 htr7)
  have O7 := Lib.hid (O6.out.turned htr7)
  have P7 := Lib.hid hx7
  clear ht7 hx7 hf7 htr7 HL6 M6 N6 O6
  go_wp2_with fail
  refine (same19 b b _ _ _ _ A6 A7 len1 c6 c7 (by omega) (fun _ _ => by omega) _ O7.out P7.out (fun _ _ => rfl) HQ.out).mono ?_
  rintro e w8 ⟨rfl, q8, rfl⟩
  have HB := Lib.hid (below_tr HL7.out.2.1 (below_drewN' w7 q8))
  go_wp2_with fail
  go_ret
  exact ⟨rfl, HB.out⟩

set_option maxRecDepth 100000 in
theorem lifted (os : Os) (started : os.Started) (H : Type) (enc : TypeId × Value → H) :
    ReturnsInHanded {} Try.checked os 5 .any (Rows.invertProductSpec.pre6 enc Try.prog Try.f5 Rows.invertProductRow.domain false) (Rows.invertProductSpec.post enc Try.prog Try.f5 false true false false) := by
  refine returnsInHanded_of_change (C := Try.checked) own started (by kernel_rfl) Try.func5
    (ChangeSpec.witness6 (enc := enc) (C := Try.checked) false ⟨#[], #[.slice none 0 0, .slice none 0 0], []⟩ 8 (by kernel_rfl) (by kernel_rfl) (by kernel_rfl) (by kernel_rfl)) ?_
  intro W base args ds gs before hval0 hW hcnd _
  have hval : ∀ (j : Nat) t v, Try.f5.params[j]? = some t → args[j]? = some v → Value.okWide Try.prog W .any base t v := hval0
  have hW' := hW
  obtain ⟨p, q, hA0, hV, rfl, hfz, hnd⟩ := hW
  have hA : DataW.TrodAll enc Try.prog W 0 (fun _ => true) true Try.f5.params.toList args.toList ds p := hA0
  rw [Try.params5] at hA hval
  obtain ⟨v0, vs0, d0, ds0, p0, q0, hargs, rfl, rfl, h0, r0⟩ := trodAll_cons hA
  obtain ⟨v1, vs1, d1, ds1, p1, q1, rfl, rfl, rfl, h1, r1⟩ := trodAll_cons r0
  obtain ⟨rfl, rfl, rfl⟩ := trodAll_nil r1
  obtain rfl : args = #[v0, v1] := by cases args; simp_all
  obtain ⟨rfl, rfl⟩ := trodVars_none hV
  obtain ⟨a0, len0, cap0, rfl⟩ := okWide_slice Try.underlying22 (hval 0 22 v0 rfl rfl)
  have k0 := h0
  have lt0 : ∀ x ∈ p0, x.block < W.heap.size := by obtain ⟨m, hm⟩ := k0; exact DataW.trod_lt m _ _ _ hm
  have w0 : IsMat W a0 len0 cap0 := by
    obtain ⟨fuel, hf⟩ := h0
    exact mat_in hf
  obtain ⟨a1, len1, cap1, rfl⟩ := okWide_slice Try.underlying22 (hval 1 22 v1 rfl rfl)
  have k1 := h1
  have lt1 : ∀ x ∈ p1, x.block < W.heap.size := by obtain ⟨m, hm⟩ := k1; exact DataW.trod_lt m _ _ _ hm
  have w1 : IsMat W a1 len1 cap1 := by
    obtain ⟨fuel, hf⟩ := h1
    exact mat_in hf
  clear hA0 hval0
  refine (walk a0 len0 cap0 a1 len1 cap1 W w0 w1).mono fun e W' ⟨he, bel⟩ => ?_
  subst he
  exact ⟨_, rfl, _, _, _, [], _, [], hW', trodAll_mk1 (shut_bool Try.underlying4 _), (trodAll_cons_mk (Below.trod laidOut (by kernel_rfl) (of_decide_eq_true (by kernel_rfl)) k0 bel lt0) (trodAll_cons_mk (Below.trod laidOut (by kernel_rfl) (of_decide_eq_true (by kernel_rfl)) k1 bel lt1) trodAll_mk0)), rfl, bel.frame _, fun h => by cases h⟩

theorem over : Rows.invertProductRow.holds Try.pinned (OpenSpec.ofChange Rows.invertProductSpec) :=
  OpenClaim.holds_of_wide 5 Try.f5 rfl rfl rfl rfl rfl rfl rfl ⟨rfl, rfl, rfl, rfl, rfl⟩ rfl rfl rfl rfl rfl (by kernel_rfl) Try.func5 (by kernel_rfl)
    (of_decide_eq_true (by kernel_rfl)) (by unfold Func.isWrapper; first | (rw [if_pos (by decide +kernel)]; kernel_rfl) | (rw [if_neg (by decide +kernel)]; exact ⟨rfl, rfl⟩))
    (fun os started H enc _ => lifted os started H enc)

theorem proved : Rows.InvertProductSaid := over
end Go.Proofs.Ytkbacjfjlffmcaa.invertProduct
