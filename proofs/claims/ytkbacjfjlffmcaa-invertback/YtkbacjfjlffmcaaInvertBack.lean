/- A matrix times its inverse is the identity, from both sides; its inverse's inverse is it; without one its rank is less than its rows. No conditions. -/
import Derived.Test.YtkbacjfjlffmcaaRows
import Derived.Test.YtkbacjfjlffmcaaIvk
import Derived.Test.YtkbacjfjlffmcaaMto
import Derived.Deep.RegionHeld3
import Derived.WalkKit
import Derived.ProofKit
import Derived.OpenShut
import Derived.ShutString
import Derived.ChangeOld
import Derived.Below
namespace Go.Proofs.Ytkbacjfjlffmcaa.invertBack
open Go.ChangeShapes Go.WideShapes Go.ChangeAt Go.RowKit
set_option linter.unusedVariables false

theorem own : ownKnob Try.prog.godebug = none := by kernel_rfl
theorem laidOut : laidOutB Try.prog = true := by kernel_rfl

set_option maxRecDepth 100000 in
set_option maxHeartbeats 8000000 in
theorem walk (a0 : Bool) (a1 : Option Addr) (len1 cap1 : Nat) (w : World) (w1 : IsMat w a1 len1 cap1) :
    Calls Try.prog 4 #[.bool a0, .slice a1 len1 cap1] w fun e w' => e = .returned (.bool true) ∧ Below w.heap.size w w' := by
  obtain ⟨F, La, _, _, hma⟩ := w1
  have HMA := Lib.hid hma
  clear hma
  go_enter Try.func4, Try.ntmps4
  go_wp2_with fail
  refine (awakeI _).mono ?_
  rintro e w1 ⟨rfl, hb1⟩
  have H1 := Lib.hid hb1
  clear hb1
  go_wp2_with fail
  refine (few10 w.heap.size F La a1 len1 cap1 _ ((HMA.out _ (Nat.le_refl _)).below H1.out)).mono ?_
  rintro e w' ⟨t, rfl, ht, rfl⟩
  cases t
  · clear ht
    go_wp2_with fail
    go_ret
    exact ⟨rfl, H1.out⟩
  obtain ⟨hn10, hLs⟩ := ht rfl
  clear ht hLs
  go_wp2_with fail
  refine (ifield11 a0 _).mono ?_
  rintro e w2 ⟨q, wd, b, rfl, hFl, hnb, hb2⟩
  have hL := Live.start H1.out hFl hnb hb2
  have HL := Lib.hid hL
  have hlow : w.heap.size ≤ b := hL.2.2
  have hkd := hFl.1.kind
  have hg := hFl.1
  have KEEP := Lib.hid (show ∀ w', Live q.p b wd w w' → Mx b w' F La a1 len1 from fun w' h => (HMA.out b hlow).below h.2.1)
  clear hFl hnb hb2 H1 hL HMA
  go_wp2_with fail
  refine (rmay17 b wd (M.ord q.p) hkd F La a1 len1 cap1 _ (KEEP.out _ HL.out)).mono ?_
  rintro e w3 ⟨t, rfl, ht, q3, rfl⟩
  have HL3 := Lib.hid (HL.out.below (below_drewN' w2 q3))
  generalize w2.drewN q3 = w3 at *
  clear HL
  cases t
  · clear ht
    go_wp2_with fail
    go_ret
    exact ⟨rfl, HL3.out.2.1⟩
  have hm := ht.1 rfl
  have hn1 := hm.1.1
  have hn2 := hm.1.2
  have hl2 := hm.2.1.2
  have HM := Lib.hid hm
  clear ht hm
  obtain ⟨As, Ca, ra, _⟩ := KEEP.out _ HL3.out
  obtain ⟨ad, rfl, hc1⟩ := ra.at_ (show 0 < len1 by omega)
  rw [show ad.add 0 = ad by simp [Addr.add]] at hc1
  simp only [slis] at hc1
  clear ra
  have hn0 : (0 : Int) < (len1 : Int) := by omega
  by_cases hsq : len1 = La 0
  case neg =>
    have hne : (((len1 : Nat) : Int) != ((La 0 : Nat) : Int)) = true := by simp; omega
    clear hsq
    go_wp2_with fail
    go_ret
    exact ⟨rfl, HL3.out.2.1⟩
  have hne : (((len1 : Nat) : Int) != ((La 0 : Nat) : Int)) = false := by simp; omega
  have HSQ := Lib.hid (show sqP (M.ord q.p) len1 La F from ⟨HM.out, hsq⟩)
  have KEEPX := Lib.hid (show ∀ w', Live q.p b wd w w' → Mx b w' (ivs (elM q F)) (fun _ => len1) (some ad) len1 from fun w' h => by
    have := (KEEP.out _ h).el HM.out
    rwa [← hsq] at this)
  obtain ⟨X, hX⟩ : ∃ X, elM q F = X := ⟨_, rfl⟩
  rw [hX] at KEEPX
  have hsd : side len1 := ⟨hn1, hn2⟩
  have HSD := Lib.hid hsd
  have HSX := Lib.hid (show sqP (M.ord q.p) len1 (fun _ => len1) (ivs X) from ⟨ivs_may X hsd hsd, rfl⟩)
  clear hX hsq HSQ HM KEEP hsd
  go_wp2_with fail
  refine (inverse12 q b wd len1 (fun _ => len1) (ivs X) (some ad) cap1 _ HL3.out.1 (KEEPX.out _ HL3.out)).mono ?_
  rintro e w4 ⟨s, t, A4, c4, rfl, hs, ht, hc4, hm4, hf4, ht4⟩
  obtain rfl : s = true := hs.2 HSX.out
  rw [elM_ivs] at ht hm4
  have HT := Lib.hid (ht rfl)
  have HL4 := Lib.hid (HL3.out.next hf4 ht4)
  simp only [Bool.true_and] at hm4 hc4 ⊢
  have M4 := Lib.hid hm4
  clear hs ht hm4 hf4 ht4 HL3 hc1 hc4
  go_wp2_with fail
  refine (rank14 q b wd len1 (fun _ => len1) (ivs X) (some ad) cap1 _ HL4.out.1 (KEEPX.out _ HL4.out)).mono ?_
  rintro e w5 ⟨s, rfl, hs, hf5, ht5⟩
  obtain rfl : s = true := hs.2 HSX.out.1
  rw [elM_ivs, show errOf true = 0 from rfl]
  have HL5 := Lib.hid (HL4.out.next hf5 ht5)
  have M5 := Lib.hid (M4.out.turned ht5)
  have hrk := (rk_le len1 X len1).1
  simp only [cond]
  clear hs hf5 ht5 HL4 M4
  cases t
  · have hlt : rk len1 X len1 < len1 := by
      have : ¬ rk len1 X len1 = len1 := fun h => by have := HT.out.2 h; cases this
      omega
    rw [show err2 true false = 2 from rfl]
    clear HT M5
    obtain ⟨k, hk⟩ : ∃ k, rk len1 X len1 = k := ⟨_, rfl⟩
    rw [hk] at hlt hrk ⊢
    clear hk
    have hltI : ((k : Nat) : Int) < ((len1 : Nat) : Int) := by omega
    go_wp2_with fail
    go_ret
    exact ⟨rfl, HL5.out.2.1⟩
  have hfull := HT.out.1 rfl
  have HI := Lib.hid (ivm_inv hfull)
  have HR := Lib.hid hfull
  rw [hfull, show err2 true true = 0 from rfl]
  have M5 := Lib.hid (show Mx b w5 (ivs (ivm len1 X)) (fun _ => len1) A4 len1 from M5.out)
  simp only
  obtain ⟨Y, hY⟩ : ∃ Y, ivm len1 X = Y := ⟨_, rfl⟩
  rw [hY] at HI M5
  clear hfull HT hY hrk
  have HSY := Lib.hid (show sqP (M.ord q.p) len1 (fun _ => len1) (ivs Y) from ⟨ivs_may Y HSD.out HSD.out, rfl⟩)
  go_wp2_with fail
  refine (ridentity26 b len1 hn2 _ HL5.out.1.lt).mono ?_
  rintro e w6 ⟨v, rfl, A6, c6, rfl, _, hm6, hb6⟩
  have HL6 := Lib.hid (HL5.out.below hb6)
  have M6 := Lib.hid (M5.out.below hb6)
  have I6 := Lib.hid hm6
  clear hm6 hb6 HL5 M5
  go_wp2_with fail
  refine (mmul_any q.p b wd (ivs X) (ivs Y) (fun _ => len1) (fun _ => len1) (some ad) A4 len1 len1 cap1 c4 _ HL6.out.1 (KEEPX.out _ HL6.out) M6.out).mono ?_
  rintro e w7 ⟨t7, A7, c7, rfl, ht7, hx7, hf7, htr7⟩
  obtain rfl : t7 = true := ht7.2 ⟨HSX.out.1, HSY.out.1, rfl⟩
  rw [show errOf true = 0 from rfl]
  simp only [cond] at hx7 ⊢
  rw [mulF_ivs] at hx7
  have HL7 := Lib.hid (HL6.out.next hf7 htr7)
  have M7 := Lib.hid (M6.out.turned htr7)
  have I7 := Lib.hid (I6.out.turned htr7)
  have P7 := Lib.hid hx7
  clear ht7 hx7 hf7 htr7 HL6 M6 I6
  go_wp2_with fail
  refine (mmul_any q.p b wd (ivs Y) (ivs X) (fun _ => len1) (fun _ => len1) A4 (some ad) len1 len1 c4 cap1 _ HL7.out.1 M7.out (KEEPX.out _ HL7.out)).mono ?_
  rintro e w8 ⟨t8, A8, c8, rfl, ht8, hx8, hf8, htr8⟩
  obtain rfl : t8 = true := ht8.2 ⟨HSY.out.1, HSX.out.1, rfl⟩
  rw [show errOf true = 0 from rfl]
  simp only [cond] at hx8 ⊢
  rw [mulF_ivs] at hx8
  have HL8 := Lib.hid (HL7.out.next hf8 htr8)
  have M8 := Lib.hid (M7.out.turned htr8)
  have I8 := Lib.hid (I7.out.turned htr8)
  have P8 := Lib.hid (P7.out.turned htr8)
  have Q8 := Lib.hid hx8
  clear ht8 hx8 hf8 htr8 HL7 M7 I7 P7
  go_wp2_with fail
  refine (inverse12 q b wd len1 (fun _ => len1) (ivs Y) A4 c4 _ HL8.out.1 M8.out).mono ?_
  rintro e w9 ⟨s, t, A9, c9, rfl, hs, ht, _, hm9, hf9, ht9⟩
  obtain rfl : s = true := hs.2 HSY.out
  rw [elM_ivs] at ht hm9
  have hfY : rk len1 Y len1 = len1 := full_of_right HI.out.1
  obtain rfl : t = true := (ht rfl).2 hfY
  rw [show err2 true true = 0 from rfl]
  simp only [Bool.and_self, cond] at hm9 ⊢
  have HL9 := Lib.hid (HL8.out.next hf9 ht9)
  have I9 := Lib.hid (I8.out.turned ht9)
  have P9 := Lib.hid (P8.out.turned ht9)
  have Q9 := Lib.hid (Q8.out.turned ht9)
  have Y9 := Lib.hid hm9
  have HE1 := Lib.hid (show ∀ r, r < len1 → ∀ j, j < len1 → ivs (mm len1 X Y) r j = idF r j from fun r hr j hj => by rw [idF_el (q := q)]; unfold ivs; rw [HI.out.2 r hr j hj])
  have HE2 := Lib.hid (show ∀ r, r < len1 → ∀ j, j < len1 → ivs (mm len1 Y X) r j = idF r j from fun r hr j hj => by rw [idF_el (q := q)]; unfold ivs; rw [HI.out.1 r hr j hj])
  have HE3 := Lib.hid (show ∀ r, r < len1 → ∀ j, j < len1 → ivs (ivm len1 Y) r j = ivs X r j from fun r hr j hj => by unfold ivs; rw [isI_uniq (ivm_inv hfY).1 HI.out.1 r hr j hj])
  clear hs ht hm9 hf9 ht9 HL8 M8 I8 P8 Q8 hfY
  go_wp2_with fail
  refine (same19 b b _ _ _ _ A7 A6 len1 c7 c6 (by omega) (fun _ _ => by omega) _ P9.out I9.out (fun _ _ => rfl) HE1.out).mono ?_
  rintro e w10 ⟨rfl, q10, rfl⟩
  have HL10 := Lib.hid (HL9.out.below (below_drewN' w9 q10))
  have I10 := Lib.hid (I9.out.below (below_drewN' w9 q10))
  have Q10 := Lib.hid (Q9.out.below (below_drewN' w9 q10))
  have Y10 := Lib.hid (Y9.out.below (below_drewN' w9 q10))
  generalize w9.drewN q10 = w10 at *
  clear HL9 I9 P9 Q9 Y9
  go_wp2_with fail
  refine (same19 b b _ _ _ _ A8 A6 len1 c8 c6 (by omega) (fun _ _ => by omega) _ Q10.out I10.out (fun _ _ => rfl) HE2.out).mono ?_
  rintro e w11 ⟨rfl, q11, rfl⟩
  have HL11 := Lib.hid (HL10.out.below (below_drewN' w10 q11))
  have Y11 := Lib.hid (Y10.out.below (below_drewN' w10 q11))
  generalize w10.drewN q11 = w11 at *
  clear HL10 I10 Q10 Y10
  go_wp2_with fail
  refine (same19 b b _ _ _ _ A9 (some ad) len1 c9 cap1 (by omega) (fun _ _ => by omega) _ Y11.out (KEEPX.out _ HL11.out) (fun _ _ => rfl) HE3.out).mono ?_
  rintro e w12 ⟨rfl, q12, rfl⟩
  have HB := Lib.hid (below_tr HL11.out.2.1 (below_drewN' w11 q12))
  go_wp2_with fail
  go_ret
  exact ⟨rfl, HB.out⟩

set_option maxRecDepth 100000 in
theorem lifted (os : Os) (started : os.Started) (H : Type) (enc : TypeId × Value → H) :
    ReturnsInHanded {} Try.checked os 4 .any (Rows.invertBackSpec.pre6 enc Try.prog Try.f4 Rows.invertBackRow.domain false) (Rows.invertBackSpec.post enc Try.prog Try.f4 false true false false) := by
  refine returnsInHanded_of_change (C := Try.checked) own started (by kernel_rfl) Try.func4
    (ChangeSpec.witness6 (enc := enc) (C := Try.checked) false ⟨#[], #[.bool false, .slice none 0 0], []⟩ 8 (by kernel_rfl) (by kernel_rfl) (by kernel_rfl) (by kernel_rfl)) ?_
  intro W base args ds gs before hval0 hW hcnd _
  have hval : ∀ (j : Nat) t v, Try.f4.params[j]? = some t → args[j]? = some v → Value.okWide Try.prog W .any base t v := hval0
  have hW' := hW
  obtain ⟨p, q, hA0, hV, rfl, hfz, hnd⟩ := hW
  have hA : DataW.TrodAll enc Try.prog W 0 (fun _ => true) true Try.f4.params.toList args.toList ds p := hA0
  rw [Try.params4] at hA hval
  obtain ⟨v0, vs0, d0, ds0, p0, q0, hargs, rfl, rfl, h0, r0⟩ := trodAll_cons hA
  obtain ⟨v1, vs1, d1, ds1, p1, q1, rfl, rfl, rfl, h1, r1⟩ := trodAll_cons r0
  obtain ⟨rfl, rfl, rfl⟩ := trodAll_nil r1
  obtain rfl : args = #[v0, v1] := by cases args; simp_all
  obtain ⟨rfl, rfl⟩ := trodVars_none hV
  obtain ⟨a0, rfl, rfl, rfl⟩ := open_bool Try.underlying4 (hval 0 4 v0 rfl rfl) h0
  obtain ⟨a1, len1, cap1, rfl⟩ := okWide_slice Try.underlying22 (hval 1 22 v1 rfl rfl)
  have k1 := h1
  have lt1 : ∀ x ∈ p1, x.block < W.heap.size := by obtain ⟨m, hm⟩ := k1; exact DataW.trod_lt m _ _ _ hm
  have w1 : IsMat W a1 len1 cap1 := by
    obtain ⟨fuel, hf⟩ := h1
    exact mat_in hf
  clear hA0 hval0
  refine (walk a0 a1 len1 cap1 W w1).mono fun e W' ⟨he, bel⟩ => ?_
  subst he
  exact ⟨_, rfl, _, _, _, [], _, [], hW', trodAll_mk1 (shut_bool Try.underlying4 _), (trodAll_cons_mk (shut_bool Try.underlying4 _) (trodAll_cons_mk (Below.trod laidOut (by kernel_rfl) (of_decide_eq_true (by kernel_rfl)) k1 bel lt1) trodAll_mk0)), rfl, bel.frame _, fun h => by cases h⟩

theorem over : Rows.invertBackRow.holds Try.pinned (OpenSpec.ofChange Rows.invertBackSpec) :=
  OpenClaim.holds_of_wide 4 Try.f4 rfl rfl rfl rfl rfl rfl rfl ⟨rfl, rfl, rfl, rfl, rfl⟩ rfl rfl rfl rfl rfl (by kernel_rfl) Try.func4 (by kernel_rfl)
    (of_decide_eq_true (by kernel_rfl)) (by unfold Func.isWrapper; first | (rw [if_pos (by decide +kernel)]; kernel_rfl) | (rw [if_neg (by decide +kernel)]; exact ⟨rfl, rfl⟩))
    (fun os started H enc _ => lifted os started H enc)

theorem proved : Rows.InvertBackSaid := over
end Go.Proofs.Ytkbacjfjlffmcaa.invertBack
