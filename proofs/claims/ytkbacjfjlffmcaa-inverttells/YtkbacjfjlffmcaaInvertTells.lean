/- The inverse of any matrix, its rank, and the column that it turns into any other one, are the document's. No conditions. -/
import Derived.Test.YtkbacjfjlffmcaaRows
import Derived.Test.YtkbacjfjlffmcaaIvq
import Derived.Test.YtkbacjfjlffmcaaMto
import Derived.Deep.RegionHeld3
import Derived.WalkKit
import Derived.ProofKit
import Derived.OpenShut
import Derived.ShutString
import Derived.ChangeOld
import Derived.Below
namespace Go.Proofs.Ytkbacjfjlffmcaa.invertTells
open Go.ChangeShapes Go.WideShapes Go.ChangeAt Go.RowKit
set_option linter.unusedVariables false

theorem own : ownKnob Try.prog.godebug = none := by kernel_rfl
theorem laidOut : laidOutB Try.prog = true := by kernel_rfl

theorem err_same {s s' t t' : Bool} (h1 : s = s') (h2 : s = true → t = t') : (s && t) = (s' && t') ∧ err2 s t = err2 s' t' := by
  subst h1
  cases s
  · exact ⟨rfl, rfl⟩
  · rw [h2 rfl]
    exact ⟨rfl, rfl⟩
theorem bool_same {s s' : Bool} {p : Prop} (h1 : s = true ↔ p) (h2 : s' = true ↔ p) : s = s' := by
  cases s <;> cases s' <;> simp_all
theorem err2_in (s t : Bool) : 0 ≤ err2 s t ∧ err2 s t ≤ 2 := by cases s <;> cases t <;> exact ⟨by decide, by decide⟩
theorem errOf_in (s : Bool) : 0 ≤ errOf s ∧ errOf s ≤ 1 := by cases s <;> exact ⟨by decide, by decide⟩
theorem wrap_small (x : Int) (h : 0 ≤ x ∧ x ≤ 2) : IntKind.i64.wrap x = x := by rw [IntKind.wrap_i64]; omega
theorem cond_le (t : Bool) (n : Nat) : cond t n 0 ≤ n := by cases t <;> simp

set_option maxRecDepth 100000 in
set_option maxHeartbeats 8000000 in
theorem walk (a0 : Bool) (a1 : Option Addr) (len1 cap1 : Nat) (a2 : Option Addr) (len2 cap2 : Nat) (w : World) (w1 : IsMat w a1 len1 cap1) (w2 : IsInts w a2 len2 cap2) :
    Calls Try.prog 3 #[.bool a0, .slice a1 len1 cap1, .slice a2 len2 cap2] w fun e w' => e = .returned (.bool true) ∧ Below w.heap.size w w' := by
  obtain ⟨F, La, _, _, hma⟩ := w1
  obtain ⟨l, _, hml⟩ := w2
  have HMA := Lib.hid hma
  have HML := Lib.hid hml
  clear hma hml
  go_enter Try.func3, Try.ntmps3
  go_wp2_with fail
  refine (awakeI _).mono ?_
  rintro e w1 ⟨rfl, hb1⟩
  have H1 := Lib.hid hb1
  clear hb1
  go_wp2_with fail
  refine (few10 w.heap.size F La a1 len1 cap1 _ ((HMA.out _ (Nat.le_refl _)).below H1.out)).mono ?_
  rintro e w' ⟨t, rfl, ht, rfl⟩
  cases t
  · clear ht
    go_wp2_with fail
    go_ret
    exact ⟨rfl, H1.out⟩
  obtain ⟨hn10, hLs⟩ := ht rfl
  clear ht hLs
  by_cases hl20 : 20 < len2
  · go_wp2_with fail
    go_ret
    exact ⟨rfl, H1.out⟩
  have hd20 : decide ((20 : Int) < ((len2 : Nat) : Int)) = false := by simp; omega
  have hm20 : len2 ≤ 20 := by omega
  clear hl20
  go_wp2_with fail
  refine (ifield11 a0 _).mono ?_
  rintro e w2 ⟨q, wd, b, rfl, hFl, hnb, hb2⟩
  have hL := Live.start H1.out hFl hnb hb2
  have HL := Lib.hid hL
  have hlow : w.heap.size ≤ b := hL.2.2
  have hg := hFl.1
  have KEEP := Lib.hid (show ∀ w', Live q.p b wd w w' → Mx b w' F La a1 len1 ∧ Rd b w' (i64s l) a2 len2 from fun w' h => ⟨(HMA.out b hlow).below h.2.1, (HML.out b hlow).below h.2.1⟩)
  clear hFl hnb hb2 H1 hL HMA HML
  go_wp2_with fail
  refine (inverse12 q b wd len1 La F a1 cap1 _ HL.out.1 (KEEP.out _ HL.out).1).mono ?_
  rintro e w3 ⟨s3, t3, A3, c3, rfl, hs3, ht3, _, hm3, hf3, htr3⟩
  have HL3 := Lib.hid (HL.out.next hf3 htr3)
  have M3 := Lib.hid hm3
  have T3 := Lib.hid (And.intro hs3 ht3)
  clear hs3 ht3 hm3 hf3 htr3 HL
  go_wp2_with fail
  refine (rinverse13 q b wd len1 hg La F a1 cap1 _ HL3.out.1.lt (KEEP.out _ HL3.out).1).mono ?_
  rintro e w4 ⟨s4, t4, v4, rfl, hs4, ht4, A4, c4, rfl, _, hm4, hb4⟩
  have HE1 := Lib.hid (err_same (bool_same hs4 T3.out.1) (fun h => bool_same (ht4 h) (T3.out.2 (by rw [← bool_same hs4 T3.out.1]; exact h))))
  rw [HE1.out.1] at hm4 ⊢
  rw [HE1.out.2]
  have hE := err2_in s3 t3
  have hk := cond_le (s3 && t3) len1
  obtain ⟨E, hE'⟩ : ∃ E, err2 s3 t3 = E := ⟨_, rfl⟩
  obtain ⟨k, hk'⟩ : ∃ k : Nat, cond (s3 && t3) len1 0 = k := ⟨_, rfl⟩
  rw [hE'] at hE ⊢
  rw [hk'] at hk hm4 M3 ⊢
  have hwE := wrap_small E hE
  have HL4 := Lib.hid (HL3.out.below hb4)
  have N4 := Lib.hid hm4
  have M4 := Lib.hid (M3.out.below hb4)
  clear hs4 ht4 hm4 hb4 HE1 hE' hk' T3 M3 HL3
  go_wp2_with fail
  refine (rank14 q b wd len1 La F a1 cap1 _ HL4.out.1 (KEEP.out _ HL4.out).1).mono ?_
  rintro e w5 ⟨s5, rfl, hs5, hf5, ht5⟩
  have HL5 := Lib.hid (HL4.out.next hf5 ht5)
  have M5 := Lib.hid (M4.out.turned ht5)
  have N5 := Lib.hid (N4.out.turned ht5)
  have T5 := Lib.hid hs5
  clear hs5 hf5 ht5 HL4 M4 N4
  go_wp2_with fail
  refine (rrank15 q b wd len1 hg La F a1 cap1 _ HL5.out.1.lt (KEEP.out _ HL5.out).1).mono ?_
  rintro e w6 ⟨s6, rfl, hs6, hb6⟩
  obtain rfl : s6 = s5 := bool_same hs6 T5.out
  have hG := errOf_in s6
  obtain ⟨G, hG'⟩ : ∃ G, errOf s6 = G := ⟨_, rfl⟩
  obtain ⟨r, hr'⟩ : ∃ r : Nat, cond s6 (rk len1 (elM q F) (La 0)) 0 = r := ⟨_, rfl⟩
  rw [hG'] at hG ⊢
  rw [hr']
  have hwG := wrap_small G (by omega)
  have HL6 := Lib.hid (HL5.out.below hb6)
  have M6 := Lib.hid (M5.out.below hb6)
  have N6 := Lib.hid (N5.out.below hb6)
  clear hs6 hb6 hG' hr' T5 HL5 M5 N5
  go_wp2_with fail
  refine (solve16 q b wd len1 La F a1 cap1 len2 l a2 cap2 (by omega) _ HL6.out.1 (KEEP.out _ HL6.out).1 (KEEP.out _ HL6.out).2).mono ?_
  rintro e w7 ⟨s7, t7, A7, c7, rfl, hs7, ht7, hr7, hf7, htr7⟩
  have HL7 := Lib.hid (HL6.out.next hf7 htr7)
  have M7 := Lib.hid (M6.out.turned htr7)
  have N7 := Lib.hid (N6.out.turned htr7)
  have R7 := Lib.hid hr7
  have T7 := Lib.hid (And.intro hs7 ht7)
  clear hs7 ht7 hr7 hf7 htr7 HL6 M6 N6
  go_wp2_with fail
  refine (rsolve17 q b wd len1 hg La F a1 cap1 len2 l a2 cap2 (by omega) _ HL7.out.1.lt (KEEP.out _ HL7.out).1 (KEEP.out _ HL7.out).2).mono ?_
  rintro e w8 ⟨s8, t8, v8, rfl, hs8, ht8, A8, c8, rfl, _, hr8, hb8⟩
  have HE2 := Lib.hid (err_same (bool_same hs8 T7.out.1) (fun h => bool_same (ht8 h) (T7.out.2 (by rw [← bool_same hs8 T7.out.1]; exact h))))
  rw [HE2.out.1] at hr8 ⊢
  rw [HE2.out.2]
  have hH := err2_in s7 t7
  have hj := cond_le (s7 && t7) len1
  obtain ⟨H, hH'⟩ : ∃ H, err2 s7 t7 = H := ⟨_, rfl⟩
  obtain ⟨j, hj'⟩ : ∃ j : Nat, cond (s7 && t7) len1 0 = j := ⟨_, rfl⟩
  rw [hH'] at hH ⊢
  rw [hj'] at hj hr8 R7 ⊢
  have hwH := wrap_small H hH
  have HL8 := Lib.hid (HL7.out.below hb8)
  have M8 := Lib.hid (M7.out.below hb8)
  have N8 := Lib.hid (N7.out.below hb8)
  have R8 := Lib.hid (R7.out.below hb8)
  have S8 := Lib.hid hr8
  clear hs8 ht8 hr8 hb8 HE2 hH' hj' T7 M7 N7 R7 HL7
  go_wp2_with fail
  refine (same19 b b _ _ _ _ A3 A4 k c3 c4 (by omega) (fun _ _ => by omega) _ M8.out N8.out (fun _ _ => rfl) (fun _ _ _ _ => rfl)).mono ?_
  rintro e w9 ⟨rfl, q9, rfl⟩
  have HL9 := Lib.hid (HL8.out.below (below_drewN' w8 q9))
  have R9 := Lib.hid (R8.out.below (below_drewN' w8 q9))
  have S9 := Lib.hid (S8.out.below (below_drewN' w8 q9))
  generalize w8.drewN q9 = w9 at *
  clear HL8 M8 N8 R8 S8
  go_wp2_with fail
  refine (ints16 b b _ _ A7 A8 j c7 c8 (by omega) _ R9.out S9.out (fun _ _ => rfl)).mono ?_
  rintro e w10 ⟨rfl, hb10⟩
  have HB := Lib.hid (below_tr HL9.out.2.1 hb10)
  clear hb10
  go_wp2_with fail
  go_ret
  exact ⟨rfl, HB.out⟩

set_option maxRecDepth 100000 in
theorem lifted (os : Os) (started : os.Started) (H : Type) (enc : TypeId × Value → H) :
    ReturnsInHanded {} Try.checked os 3 .any (Rows.invertTellsSpec.pre6 enc Try.prog Try.f3 Rows.invertTellsRow.domain false) (Rows.invertTellsSpec.post enc Try.prog Try.f3 false true false false) := by
  refine returnsInHanded_of_change (C := Try.checked) own started (by kernel_rfl) Try.func3
    (ChangeSpec.witness6 (enc := enc) (C := Try.checked) false ⟨#[], #[.bool false, .slice none 0 0, .slice none 0 0], []⟩ 8 (by kernel_rfl) (by kernel_rfl) (by kernel_rfl) (by kernel_rfl)) ?_
  intro W base args ds gs before hval0 hW hcnd _
  have hval : ∀ (j : Nat) t v, Try.f3.params[j]? = some t → args[j]? = some v → Value.okWide Try.prog W .any base t v := hval0
  have hW' := hW
  obtain ⟨p, q, hA0, hV, rfl, hfz, hnd⟩ := hW
  have hA : DataW.TrodAll enc Try.prog W 0 (fun _ => true) true Try.f3.params.toList args.toList ds p := hA0
  rw [Try.params3] at hA hval
  obtain ⟨v0, vs0, d0, ds0, p0, q0, hargs, rfl, rfl, h0, r0⟩ := trodAll_cons hA
  obtain ⟨v1, vs1, d1, ds1, p1, q1, rfl, rfl, rfl, h1, r1⟩ := trodAll_cons r0
  obtain ⟨v2, vs2, d2, ds2, p2, q2, rfl, rfl, rfl, h2, r2⟩ := trodAll_cons r1
  obtain ⟨rfl, rfl, rfl⟩ := trodAll_nil r2
  obtain rfl : args = #[v0, v1, v2] := by cases args; simp_all
  obtain ⟨rfl, rfl⟩ := trodVars_none hV
  obtain ⟨a0, rfl, rfl, rfl⟩ := open_bool Try.underlying4 (hval 0 4 v0 rfl rfl) h0
  obtain ⟨a1, len1, cap1, rfl⟩ := okWide_slice Try.underlying22 (hval 1 22 v1 rfl rfl)
  have k1 := h1
  have lt1 : ∀ x ∈ p1, x.block < W.heap.size := by obtain ⟨m, hm⟩ := k1; exact DataW.trod_lt m _ _ _ hm
  have w1 : IsMat W a1 len1 cap1 := by
    obtain ⟨fuel, hf⟩ := h1
    exact mat_in hf
  obtain ⟨a2, len2, cap2, rfl⟩ := okWide_slice Try.underlying23 (hval 2 23 v2 rfl rfl)
  have k2 := h2
  have lt2 : ∀ x ∈ p2, x.block < W.heap.size := by obtain ⟨m, hm⟩ := k2; exact DataW.trod_lt m _ _ _ hm
  have w2 : IsInts W a2 len2 cap2 := by
    obtain ⟨fuel, hf⟩ := h2
    exact ints_in hf
  clear hA0 hval0
  refine (walk a0 a1 len1 cap1 a2 len2 cap2 W w1 w2).mono fun e W' ⟨he, bel⟩ => ?_
  subst he
  exact ⟨_, rfl, _, _, _, [], _, [], hW', trodAll_mk1 (shut_bool Try.underlying4 _), (trodAll_cons_mk (shut_bool Try.underlying4 _) (trodAll_cons_mk (Below.trod laidOut (by kernel_rfl) (of_decide_eq_true (by kernel_rfl)) k1 bel lt1) (trodAll_cons_mk (Below.trod laidOut (by kernel_rfl) (of_decide_eq_true (by kernel_rfl)) k2 bel lt2) trodAll_mk0))), rfl, bel.frame _, fun h => by cases h⟩

theorem over : Rows.invertTellsRow.holds Try.pinned (OpenSpec.ofChange Rows.invertTellsSpec) :=
  OpenClaim.holds_of_wide 3 Try.f3 rfl rfl rfl rfl rfl rfl rfl ⟨rfl, rfl, rfl, rfl, rfl⟩ rfl rfl rfl rfl rfl (by kernel_rfl) Try.func3 (by kernel_rfl)
    (of_decide_eq_true (by kernel_rfl)) (by unfold Func.isWrapper; first | (rw [if_pos (by decide +kernel)]; kernel_rfl) | (rw [if_neg (by decide +kernel)]; exact ⟨rfl, rfl⟩))
    (fun os started H enc _ => lifted os started H enc)

theorem proved : Rows.InvertTellsSaid := over
end Go.Proofs.Ytkbacjfjlffmcaa.invertTells
