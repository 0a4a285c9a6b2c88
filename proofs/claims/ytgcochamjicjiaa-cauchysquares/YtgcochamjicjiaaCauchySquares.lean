/- CauchySquares: whatever rows come in: rows that Safe says are safe have no 0, and of as many rows as columns they have an inverse; for every field choice and every matrix, no condition. -/
import Derived.Test.YtgcochamjicjiaaRows
import Derived.Test.YtgcochamjicjiaaCyh
import Derived.Test.YtgcochamjicjiaaMto
import Derived.Test.YtgcochamjicjiaaArr
import Derived.Deep.RegionHeld3
import Derived.WalkKit
import Derived.ProofKit
import Derived.OpenShut
import Derived.ShutString
import Derived.ChangeOld
import Derived.Below
namespace Go.Proofs.Ytgcochamjicjiaa.cauchySquares
open Go.ChangeShapes Go.WideShapes Go.ChangeAt Go.RowKit
set_option linter.unusedVariables false

theorem own : ownKnob Try.prog.godebug = none := by kernel_rfl
theorem laidOut : laidOutB Try.prog = true := by kernel_rfl

/-- a number of the field that is not 0 -/
theorem not_nought {q : FP} {n : Nat} {La : Nat → Nat} {F : Nat → Nat → Int} (hm : mayP (M.ord q.p) n La F) (hs : SafeP q (La 0) n (elM q F)) {i j : Nat} (hi : i < n) (hj : j < La i) : F i j ≠ 0 := fun h0 => by
  have hj0 : j < La 0 := by rw [← (hm.2.2 i hi).1]; exact hj
  have h1 := safe_ne hs hi hj0
  have h2 := elM_val hm hi hj0
  rw [h0] at h2
  refine h1 (El.eq_zero.2 ?_)
  unfold ivs at h2
  omega

set_option maxRecDepth 100000 in
set_option maxHeartbeats 8000000 in
theorem walk (a0 : Bool) (a1 : Option Addr) (len1 cap1 : Nat) (w : World) (w1 : IsMat w a1 len1 cap1) :
    Calls Try.prog 5 #[.bool a0, .slice a1 len1 cap1] w fun e w' => e = .returned (.bool true) ∧ Below w.heap.size w w' := by
  obtain ⟨F, La, _, _, hma⟩ := w1
  have HMA := Lib.hid hma
  clear hma
  go_enter Try.func5, Try.ntmps5
  go_wp2_with fail
  refine (awakeC _).mono ?_
  rintro e w1 ⟨rfl, hb1⟩
  have H1 := Lib.hid hb1
  clear hb1
  go_wp2_with fail
  refine (few10 w.heap.size F La a1 len1 cap1 _ ((HMA.out _ (Nat.le_refl _)).below H1.out)).mono ?_
  rintro e w' ⟨t, rfl, ht, rfl⟩
  cases t
  · clear ht
    go_wp2_with fail
    go_ret
    exact ⟨rfl, H1.out⟩
  clear ht
  go_wp2_with fail
  refine (cfield9 a0 _).mono ?_
  rintro e w2 ⟨q, wd, b, rfl, hFl, hnb, hb2⟩
  have hL := Live.start H1.out hFl hnb hb2
  have HL := Lib.hid hL
  have hlow : w.heap.size ≤ b := hL.2.2
  have KEEP := Lib.hid (show ∀ w', Live q.p b wd w w' → Mx b w' F La a1 len1 from fun w' h => (HMA.out b hlow).below h.2.1)
  clear hFl hnb hb2 H1 hL HMA
  go_wp2_with fail
  refine (safe_any q b wd len1 La F a1 cap1 _ HL.out.1 (KEEP.out _ HL.out)).mono ?_
  rintro e w3 ⟨s, t, rfl, hs, ht, hf3, ht3⟩
  have HL3 := Lib.hid (HL.out.next hf3 ht3)
  clear hf3 ht3 HL
  cases s
  · obtain rfl : t = false := by
      cases t
      · rfl
      · exact absurd (ht.1 rfl).1 (by decide)
    simp only [errOf, if_neg (show ¬ (false = true) by decide)]
    clear hs ht
    go_wp2_with fail
    go_ret
    exact ⟨rfl, HL3.out.2.1⟩
  simp only [errOf, if_true]
  cases t
  · clear hs ht
    go_wp2_with fail
    go_ret
    exact ⟨rfl, HL3.out.2.1⟩
  have hS := (ht.1 rfl).2
  obtain ⟨hmay, h5, h8⟩ := hs.1 rfl
  have hn1 := hmay.1.1
  have HMAY := Lib.hid hmay
  have HSF := Lib.hid hS
  have HNZ := Lib.hid (fun i j (hi : i < len1) (hj : j < La i) => not_nought hmay hS hi hj)
  have HLA := Lib.hid (show ∀ i, i < len1 → La i ≤ 8 from fun i hi => by rw [(hmay.2.2 i hi).1]; exact h8)
  obtain ⟨As, Ca, ra, rr⟩ := KEEP.out _ HL3.out
  have RA := Lib.hid ra
  have RR := Lib.hid rr
  obtain ⟨ad, rfl, hc1⟩ := ra.at_ (show 0 < len1 by omega)
  rw [show ad.add 0 = ad by simp [Addr.add]] at hc1
  simp only [slis] at hc1
  have hn0 : (0 : Int) < (len1 : Int) := by omega
  clear ra rr hs ht hmay hS
  go_wp2_with fail
  go_loop [11] (fun s11 => ∃ i : Nat, i ≤ len1 ∧ s11 = .int .i64 i) (fun s11 => len1 - (intOf s11).toNat)
  case atStart => exact ⟨0, Nat.zero_le _, rfl⟩
  case round =>
    obtain ⟨i, hi, rfl⟩ := hrel
    by_cases hlt : i < len1
    · obtain ⟨ad', e', d1⟩ := RA.out.at_ hlt
      injection e' with e'
      subst e'
      simp only [slis] at d1
      have hla := HLA.out i hlt
      go_wp2_with fail
      go_loop [12] (fun s12 => ∃ j : Nat, j ≤ La i ∧ s12 = .int .i64 j) (fun s12 => La i - (intOf s12).toNat)
      case atStart => exact ⟨0, Nat.zero_le _, rfl⟩
      case round =>
        obtain ⟨j, hj, rfl⟩ := hrel
        by_cases hlt2 : j < La i
        · obtain ⟨aj, ej, dj⟩ := (RR.out i hlt).at_ hlt2
          simp only [i64s] at dj
          have hne := HNZ.out i j hlt hlt2
          obtain ⟨x, hx⟩ : ∃ x, F i j = x := ⟨_, rfl⟩
          rw [hx] at dj hne
          have hd : (x == 0) = false := by simpa using hne
          rw [ej] at d1
          clear hne hx
          go_wp2_with fail
          exact ⟨⟨j + 1, hlt2, by go_num⟩, by simp [intOf]; omega⟩
        · obtain rfl : j = La i := by omega
          go_wp2_with fail
          exact ⟨⟨i + 1, hlt, by go_num⟩, by simp [intOf]; omega⟩
    · obtain rfl : i = len1 := by omega
      by_cases hsq : i = La 0
      · have hne : (((i : Nat) : Int) != ((La 0 : Nat) : Int)) = false := by simp; omega
        have hn2 : (((i : Nat) : Int) == 0) = false := by simp; omega
        have HIV := Lib.hid (inverse12 q b wd i La F (some ad) cap1 _ HL3.out.1 (KEEP.out _ HL3.out))
        have HSQ := Lib.hid (show sqP (M.ord q.p) i La F from ⟨HMAY.out, hsq⟩)
        have HRK := Lib.hid (show rk i (elM q F) i = i from safe_square (by have := HSF.out; rw [← hsq] at this; exact this))
        clear hsq
        go_wp2_with fail
        refine HIV.out.mono ?_
        rintro e w4 ⟨s, t, A4, c4, rfl, hs, ht, _, _, hf4, ht4⟩
        obtain rfl : s = true := hs.2 HSQ.out
        obtain rfl : t = true := (ht rfl).2 HRK.out
        have HE := Lib.hid (HL3.out.next hf4 ht4).2.1
        simp only [err2, cond]
        clear hs ht hf4 ht4
        go_wp2_with fail
        go_ret
        exact ⟨rfl, HE.out⟩
      · have hne : (((i : Nat) : Int) != ((La 0 : Nat) : Int)) = true := by simp; omega
        have hn2 : (((i : Nat) : Int) == 0) = false := by simp; omega
        have hd0 : decide (0 < i) = true := by simp; omega
        clear hsq
        go_wp2_with fail
        go_ret
        exact ⟨rfl, HL3.out.2.1⟩

set_option maxRecDepth 100000 in
theorem lifted (os : Os) (started : os.Started) (H : Type) (enc : TypeId × Value → H) :
    ReturnsInHanded {} Try.checked os 5 .any (Rows.cauchySquaresSpec.pre6 enc Try.prog Try.f5 Rows.cauchySquaresRow.domain false) (Rows.cauchySquaresSpec.post enc Try.prog Try.f5 false true false false) := by
  refine returnsInHanded_of_change (C := Try.checked) own started (by kernel_rfl) Try.func5
    (ChangeSpec.witness6 (enc := enc) (C := Try.checked) false ⟨#[], #[.bool false, .slice none 0 0], []⟩ 8 (by kernel_rfl) (by kernel_rfl) (by kernel_rfl) (by kernel_rfl)) ?_
  intro W base args ds gs before hval0 hW hcnd _
  have hval : ∀ (j : Nat) t v, Try.f5.params[j]? = some t → args[j]? = some v → Value.okWide Try.prog W .any base t v := hval0
  have hW' := hW
  obtain ⟨p, q, hA0, hV, rfl, hfz, hnd⟩ := hW
  have hA : DataW.TrodAll enc Try.prog W 0 (fun _ => true) true Try.f5.params.toList args.toList ds p := hA0
  rw [Try.params5] at hA hval
  obtain ⟨v0, vs0, d0, ds0, p0, q0, hargs, rfl, rfl, h0, r0⟩ := trodAll_cons hA
  obtain ⟨v1, vs1, d1, ds1, p1, q1, rfl, rfl, rfl, h1, r1⟩ := trodAll_cons r0
  obtain ⟨rfl, rfl, rfl⟩ := trodAll_nil r1
  obtain rfl : args = #[v0, v1] := by cases args; simp_all
  obtain ⟨rfl, rfl⟩ := trodVars_none hV
  obtain ⟨a0, rfl, rfl, rfl⟩ := open_bool Try.underlying4 (hval 0 4 v0 rfl rfl) h0
  obtain ⟨a1, len1, cap1, rfl⟩ := okWide_slice Try.underlying30 (hval 1 30 v1 rfl rfl)
  have k1 := h1
  have lt1 : ∀ x ∈ p1, x.block < W.heap.size := by obtain ⟨m, hm⟩ := k1; exact DataW.trod_lt m _ _ _ hm
  have w1 : IsMat W a1 len1 cap1 := by
    obtain ⟨fuel, hf⟩ := h1
    exact mat_in hf
  clear hA0 hval0
  refine (walk a0 a1 len1 cap1 W w1).mono fun e W' ⟨he, bel⟩ => ?_
  subst he
  exact ⟨_, rfl, _, _, _, [], _, [], hW', trodAll_mk1 (shut_bool Try.underlying4 _), (trodAll_cons_mk (shut_bool Try.underlying4 _) (trodAll_cons_mk (Below.trod laidOut (by kernel_rfl) (of_decide_eq_true (by kernel_rfl)) k1 bel lt1) trodAll_mk0)), rfl, bel.frame _, fun h => by cases h⟩

theorem over : Rows.cauchySquaresRow.holds Try.pinned (OpenSpec.ofChange Rows.cauchySquaresSpec) :=
  OpenClaim.holds_of_wide 5 Try.f5 rfl rfl rfl rfl rfl rfl rfl ⟨rfl, rfl, rfl, rfl, rfl⟩ rfl rfl rfl rfl rfl (by kernel_rfl) Try.func5 (by kernel_rfl)
    (of_decide_eq_true (by kernel_rfl)) (by unfold Func.isWrapper; first | (rw [if_pos (by decide +kernel)]; kernel_rfl) | (rw [if_neg (by decide +kernel)]; exact ⟨rfl, rfl⟩))
    (fun os started H enc _ => lifted os started H enc)

theorem proved : Rows.CauchySquaresSaid := over
end Go.Proofs.Ytgcochamjicjiaa.cauchySquares
