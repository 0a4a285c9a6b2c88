/- A rank is no more than the rows, nor than the numbers in each; with a row more it grows by one at most; twice the rows it does not. No conditions. -/
import Derived.Test.YtkbacjfjlffmcaaRows
import Derived.Test.YtkbacjfjlffmcaaIvk
import Derived.Test.YtkbacjfjlffmcaaIvl
import Derived.Test.YtkbacjfjlffmcaaMto
import Derived.Deep.RegionHeld3
import Derived.WalkKit
import Derived.ProofKit
import Derived.OpenShut
import Derived.ShutString
import Derived.ChangeOld
import Derived.Below
namespace Go.Proofs.Ytkbacjfjlffmcaa.invertRank
open Go.ChangeShapes Go.WideShapes Go.ChangeAt Go.RowKit
set_option linter.unusedVariables false

theorem own : ownKnob Try.prog.godebug = none := by kernel_rfl
theorem laidOut : laidOutB Try.prog = true := by kernel_rfl

set_option maxRecDepth 100000 in
set_option maxHeartbeats 8000000 in
theorem walk (a0 : Bool) (a1 : Option Addr) (len1 cap1 : Nat) (w : World) (w1 : IsMat w a1 len1 cap1) :
    Calls Try.prog 6 #[.bool a0, .slice a1 len1 cap1] w fun e w' => e = .returned (.bool true) ∧ Below w.heap.size w w' := by
  obtain ⟨F, La, hcap, _, hma⟩ := w1
  have HMA := Lib.hid hma
  clear hma
  go_enter Try.func6, Try.ntmps6
  go_wp2_with fail
  refine (awakeI _).mono ?_
  rintro e w1 ⟨rfl, hb1⟩
  have H1 := Lib.hid hb1
  clear hb1
  go_wp2_with fail
  refine (few10 w.heap.size F La a1 len1 cap1 _ ((HMA.out _ (Nat.le_refl _)).below H1.out)).mono ?_
  rintro e w' ⟨t, rfl, ht, rfl⟩
  cases t
  · clear ht
    go_wp2_with fail
    go_ret
    exact ⟨rfl, H1.out⟩
  obtain ⟨hn10, hLs⟩ := ht rfl
  clear ht hLs
  go_wp2_with fail
  refine (ifield11 a0 _).mono ?_
  rintro e w2 ⟨q, wd, b, rfl, hFl, hnb, hb2⟩
  have hL := Live.start H1.out hFl hnb hb2
  have HL := Lib.hid hL
  have hlow : w.heap.size ≤ b := hL.2.2
  have hkd := hFl.1.kind
  have KEEP := Lib.hid (show ∀ w', Live q.p b wd w w' → Mx b w' F La a1 len1 from fun w' h => (HMA.out b hlow).below h.2.1)
  clear hFl hnb hb2 H1 hL HMA
  go_wp2_with fail
  refine (rmay17 b wd (M.ord q.p) hkd F La a1 len1 cap1 _ (KEEP.out _ HL.out)).mono ?_
  rintro e w3 ⟨t, rfl, ht, q3, rfl⟩
  have HL3 := Lib.hid (HL.out.below (below_drewN' w2 q3))
  generalize w2.drewN q3 = w3 at *
  clear HL
  cases t
  · clear ht
    go_wp2_with fail
    go_ret
    exact ⟨rfl, HL3.out.2.1⟩
  have hm := ht.1 rfl
  have hn1 := hm.1.1
  have hn2 := hm.1.2
  have hl2 := hm.2.1.2
  have HM := Lib.hid hm
  clear ht hm
  have HJ := Lib.hid (show joinP (M.ord q.p) len1 La F len1 La F from ⟨HM.out, HM.out, rfl, by omega⟩)
  have HMJ := Lib.hid (show mayP (M.ord q.p) (len1 + len1) (joinL len1 La La) (joinF len1 F F) from ⟨⟨by omega, by omega⟩, by
      unfold joinL
      rw [if_pos (by omega)]
      exact HM.out.2.1, fun r hr => by
      unfold joinL joinF
      rw [if_pos (show 0 < len1 by omega)]
      by_cases e : r < len1
      · rw [if_pos e, if_pos e]
        exact HM.out.2.2 r e
      · rw [if_neg e, if_neg e]
        exact HM.out.2.2 (r - len1) (by omega)⟩)
  have HLJ := Lib.hid (show joinL len1 La La 0 = La 0 by unfold joinL; rw [if_pos (by omega)])
  have HRT := Lib.hid (show rk (len1 + len1) (elM q (joinF len1 F F)) (La 0) = rk len1 (elM q F) (La 0) from rk_twice (fun r _ j _ => by
      unfold elM joinF
      by_cases e : r < len1
      · rw [if_pos e, if_pos e]
      · rw [if_neg e, if_neg e]))
  go_wp2_with fail
  refine (rank14 q b wd len1 La F a1 cap1 _ HL3.out.1 (KEEP.out _ HL3.out)).mono ?_
  rintro e w4 ⟨s, rfl, hs, hf4, ht4⟩
  obtain rfl : s = true := hs.2 HM.out
  rw [show errOf true = 0 from rfl]
  have HL4 := Lib.hid (HL3.out.next hf4 ht4)
  simp only [cond]
  clear hs hf4 ht4 HL3
  go_wp2_with fail
  refine (join14 b wd (M.ord q.p) hkd F F La La a1 a1 len1 len1 cap1 cap1 _ HL4.out.1.c0 (KEEP.out _ HL4.out) (KEEP.out _ HL4.out)).mono ?_
  rintro e w5 ⟨t5, v5, rfl, ht5, A5, c5, rfl, _, hx5, hb5⟩
  obtain rfl : t5 = true := ht5.2 HJ.out
  rw [show errOf true = 0 from rfl]
  have HL5 := Lib.hid (HL4.out.below hb5)
  have X5 := Lib.hid (hx5 b HL4.out.1.lt)
  simp only [cond] at X5 ⊢
  clear ht5 hx5 hb5 HL4 HJ
  go_wp2_with fail
  refine (rank14 q b wd (len1 + len1) (joinL len1 La La) (joinF len1 F F) A5 c5 _ HL5.out.1 X5.out).mono ?_
  rintro e w6 ⟨s, rfl, hs, hf6, ht6⟩
  obtain rfl : s = true := hs.2 HMJ.out
  rw [show errOf true = 0 from rfl]
  have HL6 := Lib.hid (HL5.out.next hf6 ht6)
  simp only [cond]
  rw [HLJ.out, HRT.out]
  clear hs hf6 ht6 HL5 X5 HMJ HLJ HRT
  have hr1 := (rk_le len1 (elM q F) (La 0)).1
  have hr2 := (rk_le len1 (elM q F) (La 0)).2
  have hr3 := rk_sub (q := q) (n' := len1 - 1) (n := len1) (elM q F) (La 0) (by omega)
  have hr4 := rk_more (len1 - 1) (elM q F) (La 0)
  rw [show len1 - 1 + 1 = len1 by omega] at hr4
  obtain ⟨k, hk⟩ : ∃ k, rk len1 (elM q F) (La 0) = k := ⟨_, rfl⟩
  obtain ⟨l, hl⟩ : ∃ l, rk (len1 - 1) (elM q F) (La 0) = l := ⟨_, rfl⟩
  rw [hk] at hr1 hr2 hr3 hr4 ⊢
  rw [hl] at hr3 hr4
  have HKL := Lib.hid (And.intro hk hl)
  clear hk hl
  obtain ⟨As, Ca, ra, _⟩ := KEEP.out _ HL6.out
  obtain ⟨ad, rfl, hc1⟩ := ra.at_ (show 0 < len1 by omega)
  rw [show ad.add 0 = ad by simp [Addr.add]] at hc1
  simp only [slis] at hc1
  have hcT := Lib.hid (show ∀ w', Turned b w6 w' → Rd b w' (slis As La Ca) (some ad) len1 from fun _ h => ra.turned h)
  clear ra
  by_cases h1 : 1 < len1
  case neg =>
    have hd : decide ((1 : Int) < (len1 : Int)) = false := by simp; omega
    have g1 : ((k : Nat) : Int) ≤ (len1 : Int) := by omega
    have g2 : ((k : Nat) : Int) ≤ (La 0 : Int) := by omega
    have g3 : decide ((0 : Int) ≤ ((k : Nat) : Int)) = true := by simp
    clear h1
    go_wp2_with fail
    go_ret
    exact ⟨rfl, HL6.out.2.1⟩
  have hd : decide ((1 : Int) < (len1 : Int)) = true := by simp; omega
  have HMS := Lib.hid (show mayP (M.ord q.p) (len1 - 1) La F from ⟨⟨by omega, by omega⟩, HM.out.2.1, fun r hr => HM.out.2.2 r (by omega)⟩)
  have hI : ((len1 : Int) - 1) = ((len1 - 1 : Nat) : Int) := by omega
  go_wp2_with fail
  refine (rank14 q b wd (len1 - 1) La F (some ad) cap1 _ HL6.out.1 (show Mx b w6 F La (some ad) (len1 - 1) from by
    obtain ⟨As, Cs, h1, h2⟩ := KEEP.out _ HL6.out
    exact ⟨As, Cs, h1.take (by omega), fun r hr => h2 r (by omega)⟩)).mono ?_
  rintro e w7 ⟨s, rfl, hs, hf7, ht7⟩
  obtain rfl : s = true := hs.2 HMS.out
  rw [show errOf true = 0 from rfl]
  have HL7 := Lib.hid (HL6.out.next hf7 ht7)
  simp only [cond]
  rw [HKL.out.2]
  clear hs
  have hc7 := ((hcT.out _ ht7).at_ (show 0 < len1 by omega))
  obtain ⟨ad2, e2, hc7⟩ := hc7
  injection e2 with e2
  subst e2
  rw [show ad.add 0 = ad by simp [Addr.add]] at hc7
  simp only [slis] at hc7
  clear hc1 HL6 hf7 ht7
  have g1 : ((k : Nat) : Int) ≤ (len1 : Int) := by omega
  have g2 : ((k : Nat) : Int) ≤ (La 0 : Int) := by omega
  have g3 : decide (((k : Nat) : Int) < ((l : Nat) : Int)) = false := by simp; omega
  have g4 : decide (((l : Nat) : Int) < ((k : Nat) : Int) - 1) = false := by simp; omega
  have g5 : ((l : Nat) : Int) ≤ ((k : Nat) : Int) := by omega
  go_wp2_with fail
  go_ret
  exact ⟨rfl, HL7.out.2.1⟩

set_option maxRecDepth 100000 in
theorem lifted (os : Os) (started : os.Started) (H : Type) (enc : TypeId × Value → H) :
    ReturnsInHanded {} Try.checked os 6 .any (Rows.invertRankSpec.pre6 enc Try.prog Try.f6 Rows.invertRankRow.domain false) (Rows.invertRankSpec.post enc Try.prog Try.f6 false true false false) := by
  refine returnsInHanded_of_change (C := Try.checked) own started (by kernel_rfl) Try.func6
    (ChangeSpec.witness6 (enc := enc) (C := Try.checked) false ⟨#[], #[.bool false, .slice none 0 0], []⟩ 8 (by kernel_rfl) (by kernel_rfl) (by kernel_rfl) (by kernel_rfl)) ?_
  intro W base args ds gs before hval0 hW hcnd _
  have hval : ∀ (j : Nat) t v, Try.f6.params[j]? = some t → args[j]? = some v → Value.okWide Try.prog W .any base t v := hval0
  have hW' := hW
  obtain ⟨p, q, hA0, hV, rfl, hfz, hnd⟩ := hW
  have hA : DataW.TrodAll enc Try.prog W 0 (fun _ => true) true Try.f6.params.toList args.toList ds p := hA0
  rw [Try.params6] at hA hval
  obtain ⟨v0, vs0, d0, ds0, p0, q0, hargs, rfl, rfl, h0, r0⟩ := trodAll_cons hA
  obtain ⟨v1, vs1, d1, ds1, p1, q1, rfl, rfl, rfl, h1, r1⟩ := trodAll_cons r0
  obtain ⟨rfl, rfl, rfl⟩ := trodAll_nil r1
  obtain rfl : args = #[v0, v1] := by cases args; simp_all
  obtain ⟨rfl, rfl⟩ := trodVars_none hV
  obtain ⟨a0, rfl, rfl, rfl⟩ := open_bool Try.underlying4 (hval 0 4 v0 rfl rfl) h0
  obtain ⟨a1, len1, cap1, rfl⟩ := okWide_slice Try.underlying22 (hval 1 22 v1 rfl rfl)
  have k1 := h1
  have lt1 : ∀ x ∈ p1, x.block < W.heap.size := by obtain ⟨m, hm⟩ := k1; exact DataW.trod_lt m _ _ _ hm
  have w1 : IsMat W a1 len1 cap1 := by
    obtain ⟨fuel, hf⟩ := h1
    exact mat_in hf
  clear hA0 hval0
  refine (walk a0 a1 len1 cap1 W w1).mono fun e W' ⟨he, bel⟩ => ?_
  subst he
  exact ⟨_, rfl, _, _, _, [], _, [], hW', trodAll_mk1 (shut_bool Try.underlying4 _), (trodAll_cons_mk (shut_bool Try.underlying4 _) (trodAll_cons_mk (Below.trod laidOut (by kernel_rfl) (of_decide_eq_true (by kernel_rfl)) k1 bel lt1) trodAll_mk0)), rfl, bel.frame _, fun h => by cases h⟩

theorem over : Rows.invertRankRow.holds Try.pinned (OpenSpec.ofChange Rows.invertRankSpec) :=
  OpenClaim.holds_of_wide 6 Try.f6 rfl rfl rfl rfl rfl rfl rfl ⟨rfl, rfl, rfl, rfl, rfl⟩ rfl rfl rfl rfl rfl (by kernel_rfl) Try.func6 (by kernel_rfl)
    (of_decide_eq_true (by kernel_rfl)) (by unfold Func.isWrapper; first | (rw [if_pos (by decide +kernel)]; kernel_rfl) | (rw [if_neg (by decide +kernel)]; exact ⟨rfl, rfl⟩))
    (fun os started H enc _ => lifted os started H enc)

theorem proved : Rows.InvertRankSaid := over
end Go.Proofs.Ytkbacjfjlffmcaa.invertRank
