/- Proved: for any three lists of rows of numbers the law MatrixLaws answers true (over the field of 8 bits products of matrices do not hang on which two are first, and the identity changes nothing), and its arguments read as they did. No conditions. -/
import Derived.Test.YtomlfmfahlcedaaRows
import Derived.Test.YtomlfmfahlcedaaMtp
import Derived.Test.YtomlfmfahlcedaaMto
import Derived.Deep.RegionHeld3
import Derived.WalkKit
import Derived.ProofKit
import Derived.OpenShut
import Derived.ShutString
import Derived.ChangeOld
import Derived.Below
namespace Go.Proofs.Ytomlfmfahlcedaa.matrixLaws
open Go.ChangeShapes Go.WideShapes Go.ChangeAt Go.RowKit
set_option linter.unusedVariables false

theorem own : ownKnob Try.prog.godebug = none := by kernel_rfl
theorem laidOut : laidOutB Try.prog = true := by kernel_rfl

set_option maxRecDepth 100000 in
set_option maxHeartbeats 8000000 in
theorem walk (a0 : Option Addr) (len0 cap0 : Nat) (a1 : Option Addr) (len1 cap1 : Nat) (a2 : Option Addr) (len2 cap2 : Nat) (w : World) (w0 : IsMat w a0 len0 cap0) (w1 : IsMat w a1 len1 cap1) (w2 : IsMat w a2 len2 cap2) :
    Calls Try.prog 5 #[.slice a0 len0 cap0, .slice a1 len1 cap1, .slice a2 len2 cap2] w fun e w' => e = .returned (.bool true) ∧ Below w.heap.size w w' := by
  obtain ⟨F, La, _, _, hma⟩ := w0
  obtain ⟨G, Lb, _, _, hmb⟩ := w1
  obtain ⟨H, Lc, _, _, hmc⟩ := w2
  have HMA := Lib.hid hma
  have HMB := Lib.hid hmb
  have HMC := Lib.hid hmc
  clear hma hmb hmc
  go_enter Try.func5, Try.ntmps5
  go_wp2_with fail
  refine (awakeM _).mono ?_
  rintro e w1 ⟨rfl, hb1⟩
  have H1 := Lib.hid hb1
  clear hb1
  go_wp2_with fail
  refine (few10 w.heap.size F La a0 len0 cap0 _ ((HMA.out _ (Nat.le_refl _)).below H1.out)).mono ?_
  rintro e w' ⟨t, rfl, ht, rfl⟩
  cases t
  · clear ht
    go_wp2_with fail
    go_ret
    exact ⟨rfl, H1.out⟩
  obtain ⟨hn0, hLs⟩ := ht rfl
  have HLA := Lib.hid hLs
  clear ht hLs
  go_wp2_with fail
  refine (few10 w.heap.size G Lb a1 len1 cap1 _ ((HMB.out _ (Nat.le_refl _)).below H1.out)).mono ?_
  rintro e w' ⟨t, rfl, ht, rfl⟩
  cases t
  · clear ht
    go_wp2_with fail
    go_ret
    exact ⟨rfl, H1.out⟩
  obtain ⟨hn1, hLs⟩ := ht rfl
  clear ht hLs
  go_wp2_with fail
  refine (few10 w.heap.size H Lc a2 len2 cap2 _ ((HMC.out _ (Nat.le_refl _)).below H1.out)).mono ?_
  rintro e w' ⟨t, rfl, ht, rfl⟩
  cases t
  · clear ht
    go_wp2_with fail
    go_ret
    exact ⟨rfl, H1.out⟩
  obtain ⟨hn2, hLs⟩ := ht rfl
  clear ht hLs
  go_wp2_with fail
  refine (mfield_no _).mono ?_
  rintro e w2 ⟨b, rfl, hFl, hnb, hb2⟩
  have hL := Live.start H1.out hFl hnb hb2
  have HL := Lib.hid hL
  have hlow : w.heap.size ≤ b := hL.2.2
  have KEEP := Lib.hid (show ∀ w', Live 285 b 8 w w' → Mx b w' F La a0 len0 ∧ Mx b w' G Lb a1 len1 ∧ Mx b w' H Lc a2 len2 from fun w' h =>
    ⟨(HMA.out b hlow).below h.2.1, (HMB.out b hlow).below h.2.1, (HMC.out b hlow).below h.2.1⟩)
  clear hFl hnb hb2 H1 hL HMA HMB HMC
  go_wp2_with fail
  refine (mmul_any 285 b 8 F G La Lb a0 a1 len0 len1 cap0 cap1 _ HL.out.1 (KEEP.out _ HL.out).1 (KEEP.out _ HL.out).2.1).mono ?_
  rintro e w3 ⟨t3, A3, c3, rfl, ht3, hx3, hf3, htr3⟩
  have HL3 := Lib.hid (HL.out.next hf3 htr3)
  have X3 := Lib.hid hx3
  have HT3 := Lib.hid ht3
  clear hx3 hf3 htr3 ht3 HL
  go_wp2_with fail
  refine (mmul_any 285 b 8 G H Lb Lc a1 a2 len1 len2 cap1 cap2 _ HL3.out.1 (KEEP.out _ HL3.out).2.1 (KEEP.out _ HL3.out).2.2).mono ?_
  rintro e w4 ⟨t4, A4, c4, rfl, ht4, hx4, hf4, htr4⟩
  have HL4 := Lib.hid (HL3.out.next hf4 htr4)
  have X4 := Lib.hid (X3.out.turned htr4)
  have Y4 := Lib.hid hx4
  have HT4 := Lib.hid ht4
  clear hx4 hf4 htr4 ht4 HL3 X3
  cases t3
  · rw [show errOf false = 1 from rfl]
    go_wp2_with fail
    go_ret
    exact ⟨rfl, HL4.out.2.1⟩
  cases t4
  · rw [show errOf true = 0 from rfl, show errOf false = 1 from rfl]
    go_wp2_with fail
    go_ret
    exact ⟨rfl, HL4.out.2.1⟩
  rw [show errOf true = 0 from rfl]
  have h3 := HT3.out.1 rfl
  have h4 := HT4.out.1 rfl
  simp only [cond] at X4 Y4 ⊢
  have hp5 : mayP (M.ord 285) len0 (fun _ => Lb 0) (mulF 285 F G len1) ∧ mayP (M.ord 285) len2 Lc H ∧ Lb 0 = len2 := ⟨mulF_may good285 F G len1 h3.1.1 h3.2.1.2.1, h4.2.1, h4.2.2⟩
  have hp6 : mayP (M.ord 285) len0 La F ∧ mayP (M.ord 285) len1 (fun _ => Lc 0) (mulF 285 G H len2) ∧ La 0 = len1 := ⟨h3.1, mulF_may good285 G H len2 h4.1.1 h4.2.1.2.1, h3.2.2⟩
  have hp7 : mayP (M.ord 285) len0 (fun _ => len0) idF ∧ mayP (M.ord 285) len0 La F ∧ len0 = len0 := ⟨idF_may good285 h3.1.1, h3.1, rfl⟩
  have HP5 := Lib.hid hp5
  have HP6 := Lib.hid hp6
  have HP7 := Lib.hid hp7
  have HQ := Lib.hid (show ∀ r, r < len0 → ∀ j, j < Lc 0 → mulF 285 (mulF 285 F G len1) H len2 r j = mulF 285 F (mulF 285 G H len2) len1 r j from fun r hr j hj =>
    mulF_assoc good285 (n := len0) (q := Lc 0) (fun r hr => by have := h3.1.2.2 r hr; rw [this.1, h3.2.2] at this; exact this.2) (fun r hr => by have := h3.2.1.2.2 r hr; rw [this.1, h4.2.2] at this; exact this.2) (fun r hr => by have := h4.2.1.2.2 r hr; rw [this.1] at this; exact this.2) r hr j hj)
  have HI := Lib.hid (show ∀ r, r < len0 → ∀ j, j < La 0 → mulF 285 idF F len0 r j = F r j from fun r hr j hj => mulF_id good285 (m := La 0) (fun r hr => by have := h3.1.2.2 r hr; rw [this.1] at this; exact this.2) r hr j hj)
  have HLa := Lib.hid (show ∀ r, r < len0 → La 0 = La r from fun r hr => ((h3.1.2.2 r hr).1).symm)
  have hlc : Lc 0 ≤ 1000 := by have := h4.2.1.2.1.2; omega
  have hla : La 0 ≤ 1000 := by have := h3.1.2.1.2; omega
  have hid : idN len0 = len0 := by unfold idN; rw [if_pos (by omega)]
  clear h3 h4 hp5 hp6 hp7 HT3 HT4 HLA
  go_wp2_with fail
  refine (mmul_any 285 b 8 _ H _ Lc A3 a2 len0 len2 c3 cap2 _ HL4.out.1 X4.out (KEEP.out _ HL4.out).2.2).mono ?_
  rintro e w5 ⟨t5, A5, c5, rfl, ht5, hx5, hf5, htr5⟩
  obtain rfl : t5 = true := ht5.2 HP5.out
  rw [show errOf true = 0 from rfl]
  simp only [cond] at hx5 ⊢
  have HL5 := Lib.hid (HL4.out.next hf5 htr5)
  have Y5 := Lib.hid (Y4.out.turned htr5)
  have Z5 := Lib.hid hx5
  clear hx5 hf5 htr5 ht5 HL4 X4 Y4
  go_wp2_with fail
  refine (mmul_any 285 b 8 F _ La _ a0 A4 len0 len1 cap0 c4 _ HL5.out.1 (KEEP.out _ HL5.out).1 Y5.out).mono ?_
  rintro e w6 ⟨t6, A6, c6, rfl, ht6, hx6, hf6, htr6⟩
  obtain rfl : t6 = true := ht6.2 HP6.out
  rw [show errOf true = 0 from rfl]
  simp only [cond] at hx6 ⊢
  have HL6 := Lib.hid (HL5.out.next hf6 htr6)
  have Z6 := Lib.hid (Z5.out.turned htr6)
  have U6 := Lib.hid hx6
  clear hx6 hf6 htr6 ht6 HL5 Y5 Z5
  go_wp2_with fail
  refine (identity_any len0 _).mono ?_
  rintro e w7 ⟨v7, rfl, hv7⟩
  rw [hid] at hv7
  obtain ⟨A7, c7, rfl, _, hx7, hb7⟩ := hv7.at_ HL6.out.1.lt
  have HL7 := Lib.hid (HL6.out.below hb7)
  have Z7 := Lib.hid (Z6.out.below hb7)
  have U7 := Lib.hid (U6.out.below hb7)
  have I7 := Lib.hid hx7
  clear hv7 hx7 hb7 HL6 Z6 U6
  go_wp2_with fail
  refine (mmul_any 285 b 8 idF F _ La A7 a0 len0 len0 c7 cap0 _ HL7.out.1 I7.out (KEEP.out _ HL7.out).1).mono ?_
  rintro e w8 ⟨t8, A8, c8, rfl, ht8, hx8, hf8, htr8⟩
  obtain rfl : t8 = true := ht8.2 ⟨HP7.out.1, HP7.out.2.1, rfl⟩
  rw [show errOf true = 0 from rfl]
  simp only [cond] at hx8 ⊢
  have HL8 := Lib.hid (HL7.out.next hf8 htr8)
  have Z8 := Lib.hid (Z7.out.turned htr8)
  have U8 := Lib.hid (U7.out.turned htr8)
  have I8 := Lib.hid hx8
  clear hx8 hf8 htr8 ht8 HL7 Z7 U7 I7
  go_wp2_with fail
  refine (same19 b b _ _ _ _ A5 A6 len0 c5 c6 (by omega) (fun _ _ => hlc) _ Z8.out U8.out (fun _ _ => rfl) HQ.out).mono ?_
  rintro e w9 ⟨rfl, q9, rfl⟩
  have HL9 := Lib.hid (HL8.out.below (below_drewN' w8 q9))
  have I9 := Lib.hid (I8.out.below (below_drewN' w8 q9))
  generalize w8.drewN q9 = w9 at *
  clear HL8 Z8 U8 I8
  go_wp2_with fail
  refine (same19 b b _ _ _ _ A8 a0 len0 c8 cap0 (by omega) (fun _ _ => hla) _ I9.out (KEEP.out _ HL9.out).1 HLa.out HI.out).mono ?_
  rintro e w10 ⟨rfl, q10, rfl⟩
  have HB := Lib.hid (below_tr HL9.out.2.1 (below_drewN' w9 q10))
  go_wp2_with fail
  go_ret
  exact ⟨rfl, HB.out⟩

set_option maxRecDepth 100000 in
theorem lifted (os : Os) (started : os.Started) (H : Type) (enc : TypeId × Value → H) :
    ReturnsInHanded {} Try.checked os 5 .any (Rows.matrixLawsSpec.pre6 enc Try.prog Try.f5 Rows.matrixLawsRow.domain false) (Rows.matrixLawsSpec.post enc Try.prog Try.f5 false true false false) := by
  refine returnsInHanded_of_change (C := Try.checked) own started (by kernel_rfl) Try.func5
    (ChangeSpec.witness6 (enc := enc) (C := Try.checked) false ⟨#[], #[.slice none 0 0, .slice none 0 0, .slice none 0 0], []⟩ 8 (by kernel_rfl) (by kernel_rfl) (by kernel_rfl) (by kernel_rfl)) ?_
  intro W base args ds gs before hval0 hW hcnd _
  have hval : ∀ (j : Nat) t v, Try.f5.params[j]? = some t → args[j]? = some v → Value.okWide Try.prog W .any base t v := hval0
  have hW' := hW
  obtain ⟨p, q, hA0, hV, rfl, hfz, hnd⟩ := hW
  have hA : DataW.TrodAll enc Try.prog W 0 (fun _ => true) true Try.f5.params.toList args.toList ds p := hA0
  rw [Try.params5] at hA hval
  obtain ⟨v0, vs0, d0, ds0, p0, q0, hargs, rfl, rfl, h0, r0⟩ := trodAll_cons hA
  obtain ⟨v1, vs1, d1, ds1, p1, q1, rfl, rfl, rfl, h1, r1⟩ := trodAll_cons r0
  obtain ⟨v2, vs2, d2, ds2, p2, q2, rfl, rfl, rfl, h2, r2⟩ := trodAll_cons r1
  obtain ⟨rfl, rfl, rfl⟩ := trodAll_nil r2
  obtain rfl : args = #[v0, v1, v2] := by cases args; simp_all
  obtain ⟨rfl, rfl⟩ := trodVars_none hV
  obtain ⟨a0, len0, cap0, rfl⟩ := okWide_slice Try.underlying22 (hval 0 22 v0 rfl rfl)
  have k0 := h0
  have lt0 : ∀ x ∈ p0, x.block < W.heap.size := by obtain ⟨m, hm⟩ := k0; exact DataW.trod_lt m _ _ _ hm
  have w0 : IsMat W a0 len0 cap0 := by
    obtain ⟨fuel, hf⟩ := h0
    exact mat_in hf
  obtain ⟨a1, len1, cap1, rfl⟩ := okWide_slice Try.underlying22 (hval 1 22 v1 rfl rfl)
  have k1 := h1
  have lt1 : ∀ x ∈ p1, x.block < W.heap.size := by obtain ⟨m, hm⟩ := k1; exact DataW.trod_lt m _ _ _ hm
  have w1 : IsMat W a1 len1 cap1 := by
    obtain ⟨fuel, hf⟩ := h1
    exact mat_in hf
  obtain ⟨a2, len2, cap2, rfl⟩ := okWide_slice Try.underlying22 (hval 2 22 v2 rfl rfl)
  have k2 := h2
  have lt2 : ∀ x ∈ p2, x.block < W.heap.size := by obtain ⟨m, hm⟩ := k2; exact DataW.trod_lt m _ _ _ hm
  have w2 : IsMat W a2 len2 cap2 := by
    obtain ⟨fuel, hf⟩ := h2
    exact mat_in hf
  clear hA0 hval0
  refine (walk a0 len0 cap0 a1 len1 cap1 a2 len2 cap2 W w0 w1 w2).mono fun e W' ⟨he, bel⟩ => ?_
  subst he
  exact ⟨_, rfl, _, _, _, [], _, [], hW', trodAll_mk1 (shut_bool Try.underlying4 _), (trodAll_cons_mk (Below.trod laidOut (by kernel_rfl) (of_decide_eq_true (by kernel_rfl)) k0 bel lt0) (trodAll_cons_mk (Below.trod laidOut (by kernel_rfl) (of_decide_eq_true (by kernel_rfl)) k1 bel lt1) (trodAll_cons_mk (Below.trod laidOut (by kernel_rfl) (of_decide_eq_true (by kernel_rfl)) k2 bel lt2) trodAll_mk0))), rfl, bel.frame _, fun h => by cases h⟩

theorem over : Rows.matrixLawsRow.holds Try.pinned (OpenSpec.ofChange Rows.matrixLawsSpec) :=
  OpenClaim.holds_of_wide 5 Try.f5 rfl rfl rfl rfl rfl rfl rfl ⟨rfl, rfl, rfl, rfl, rfl⟩ rfl rfl rfl rfl rfl (by kernel_rfl) Try.func5 (by kernel_rfl)
    (of_decide_eq_true (by kernel_rfl)) (by unfold Func.isWrapper; first | (rw [if_pos (by decide +kernel)]; kernel_rfl) | (rw [if_neg (by decide +kernel)]; exact ⟨rfl, rfl⟩))
    (fun os started H enc _ => lifted os started H enc)

theorem proved : Rows.MatrixLawsSaid := over
end Go.Proofs.Ytomlfmfahlcedaa.matrixLaws
