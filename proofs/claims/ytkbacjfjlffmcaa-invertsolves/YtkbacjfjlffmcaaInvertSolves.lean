/- What is solved, applied, is what was asked; there is one answer alone. No conditions. -/
import Derived.Test.YtkbacjfjlffmcaaRows
import Derived.Test.YtkbacjfjlffmcaaIvm
import Derived.Test.YtkbacjfjlffmcaaMto
import Derived.Deep.RegionHeld3
import Derived.WalkKit
import Derived.ProofKit
import Derived.OpenShut
import Derived.ShutString
import Derived.ChangeOld
import Derived.Below
namespace Go.Proofs.Ytkbacjfjlffmcaa.invertSolves
open Go.ChangeShapes Go.WideShapes Go.ChangeAt Go.RowKit
set_option linter.unusedVariables false

theorem own : ownKnob Try.prog.godebug = none := by kernel_rfl
theorem laidOut : laidOutB Try.prog = true := by kernel_rfl

theorem i64_small (n : Nat) (h : n < 256) : IntKind.i64.wrap (n : Int) = n := by rw [IntKind.wrap_i64]; omega
/-- in the law's loop -/
def TakeAt (m : Nat) (f : Nat → Nat) (w2 : World) (s8 s9 : Value) (wr : World) : Prop := ∃ k : Nat, k ≤ m ∧ s9 = .int .i64 k ∧ App w2 TI (i64s (fun i => (f i : Nat))) k s8 wr

set_option maxRecDepth 100000 in
set_option maxHeartbeats 8000000 in
theorem walk (a0 : Bool) (a1 : Option Addr) (len1 cap1 : Nat) (a2 : Option Addr) (len2 cap2 : Nat) (w : World) (w1 : IsMat w a1 len1 cap1) (w2 : IsBytes w a2 len2 cap2) :
    Calls Try.prog 7 #[.bool a0, .slice a1 len1 cap1, .slice a2 len2 cap2] w fun e w' => e = .returned (.bool true) ∧ Below w.heap.size w w' := by
  obtain ⟨j0, hj, hy0, hy1, hy2⟩ := info_parts infoI
  obtain ⟨F, La, _, _, hma⟩ := w1
  obtain ⟨f, hf, _, hmf⟩ := w2
  have HMA := Lib.hid hma
  have HMF := Lib.hid hmf
  have HF := Lib.hid hf
  clear hma hmf hf
  go_enter Try.func7, Try.ntmps7
  go_wp2_with fail
  refine (awakeI _).mono ?_
  rintro e w1 ⟨rfl, hb1⟩
  have H1 := Lib.hid hb1
  clear hb1
  go_wp2_with fail
  refine (few10 w.heap.size F La a1 len1 cap1 _ ((HMA.out _ (Nat.le_refl _)).below H1.out)).mono ?_
  rintro e w' ⟨t, rfl, ht, rfl⟩
  cases t
  · clear ht
    go_wp2_with fail
    go_ret
    exact ⟨rfl, H1.out⟩
  obtain ⟨hn10, hLs⟩ := ht rfl
  clear ht hLs
  by_cases hl20 : 20 < len2
  · go_wp2_with fail
    go_ret
    exact ⟨rfl, H1.out⟩
  have hd20 : decide ((20 : Int) < ((len2 : Nat) : Int)) = false := by simp; omega
  have hm20 : len2 ≤ 20 := by omega
  clear hl20
  go_wp2_with fail
  refine (ifield11 a0 _).mono ?_
  rintro e w2 ⟨q, wd, b, rfl, hFl, hnb, hb2⟩
  have hL := Live.start H1.out hFl hnb hb2
  have HL := Lib.hid hL
  have hlow : w.heap.size ≤ b := hL.2.2
  have hg := hFl.1
  have hkb := hg.kind.bounds
  have hbl := hFl.lt
  have KEEP := Lib.hid (show ∀ w', Live q.p b wd w w' → Mx b w' F La a1 len1 ∧ Rd b w' (u8s f) a2 len2 from fun w' h => ⟨(HMA.out b hlow).below h.2.1, (HMF.out b hlow).below h.2.1⟩)
  clear hFl hnb hb2 H1 hL HMA HMF
  go_wp2_with fail
  go_loopw [11, 12] (fun s8 s9 wr => TakeAt len2 f w2 s8 s9 wr) (fun _ s9 _ => len2 - (intOf s9).toNat)
  case atStart => exact ⟨0, Nat.zero_le _, rfl, App.start _ _ _⟩
  case round =>
    obtain ⟨k, hk, rfl, ha⟩ := hrel
    have HA := Lib.hid ha
    have hsz := ha.2.size
    clear ha
    by_cases hlt : k < len2
    · obtain ⟨ad, rfl, hcell⟩ := (KEEP.out _ (HL.out.below HA.out.2)).2.at_ hlt
      simp only [u8s] at hcell
      have hx := HF.out k
      have hw := i64_small (f k) hx
      have HV := Lib.hid (show i64s (fun i => ((f i : Nat) : Int)) k = .int .i64 (f k : Nat) from rfl)
      obtain ⟨u, hu⟩ : ∃ u, f k = u := ⟨_, rfl⟩
      rw [hu] at hcell hx hw HV
      clear hu
      go_wp2_with (at_builtin; refine wpList_append_own _ rfl _ _ TIs rfl w2.heap.size TI j0 (.int .i64 0) 1 8 underI hj hy0 hy1 hy2 rfl (by decide) _ _ _ rfl (HA.out.1.alloc _) ⟨wr.heap.size, 0, none⟩ 1 1 [i64s (fun i => ((f i : Nat) : Int)) k] rfl rfl (news_one HV.out.symm) (one_i64 _) (by unfold maxLen; omega) (by omega) (by simp; omega) ?_)
      intro v' w3 hown' hgrow _
      have HS := Lib.hid (HA.out.step hown' hgrow)
      clear hown' hgrow
      go_wp2_with fail
      exact ⟨⟨k + 1, hlt, by go_num, HS.out⟩, by simp [intOf]; omega⟩
    · obtain rfl : k = len2 := by omega
      obtain ⟨A8, c8, rfl, hc8, hr8⟩ := HA.out.rd hbl
      have HL3 := Lib.hid (HL.out.below HA.out.2)
      have R3 := Lib.hid hr8
      clear hr8 HA
      have HIN := Lib.hid (show allIn (M.ord q.p) (fun i => ((f i : Nat) : Int)) k from fun j _ => by
        have := HF.out j
        dsimp only
        omega)
      go_wp2_with fail
      refine (apply22 q.p b wd F La a1 A8 len1 k cap1 c8 (fun i => ((f i : Nat) : Int)) _ HL3.out.1 (KEEP.out _ HL3.out).1 R3.out).mono ?_
      rintro e w4 ⟨t4, A4, c4, rfl, ht4, hr4, hf4, htr4⟩
      have HT4 := Lib.hid ht4
      have HL4 := Lib.hid (HL3.out.next hf4 htr4)
      have R4 := Lib.hid hr4
      have X4 := Lib.hid (R3.out.turned htr4)
      clear ht4 hr4 hf4 htr4 HL3 R3
      cases t4
      · rw [show errOf false = 1 from rfl]
        go_wp2_with fail
        go_ret
        exact ⟨rfl, HL4.out.2.1⟩
      rw [show errOf true = 0 from rfl]
      obtain ⟨hm, hlk, _⟩ := HT4.out.1 rfl
      have R4 := Lib.hid (show Rd b w4 (i64s (fun r => ((dotN q.p (F r) (fun i => ((f i : Nat) : Int)) k : Nat) : Int))) A4 len1 from R4.out)
      simp only [cond]
      have hn1 := hm.1.1
      have hn2 := hm.1.2
      obtain ⟨As, Ca, ra, _⟩ := (KEEP.out _ HL4.out).1
      obtain ⟨ad, rfl, hc1⟩ := ra.at_ (show 0 < len1 by omega)
      rw [show ad.add 0 = ad by simp [Addr.add]] at hc1
      simp only [slis] at hc1
      have hn0 : (0 : Int) < (len1 : Int) := by omega
      clear ra
      by_cases hsq : len1 = La 0
      case neg =>
        have hne : (((len1 : Nat) : Int) != ((La 0 : Nat) : Int)) = true := by simp; omega
        clear hsq hm hlk HT4
        go_wp2_with fail
        go_ret
        exact ⟨rfl, HL4.out.2.1⟩
      have hne : (((len1 : Nat) : Int) != ((La 0 : Nat) : Int)) = false := by simp; omega
      obtain rfl : k = len1 := by omega
      have HSQ := Lib.hid (show sqP (M.ord q.p) k La F from ⟨hm, hsq⟩)
      have HSP := Lib.hid (show solP (M.ord q.p) k La F k (fun r => ((dotN q.p (F r) (fun i => ((f i : Nat) : Int)) k : Nat) : Int)) from ⟨HSQ.out, rfl, fun j _ => dot_in hg _ _ _⟩)
      have HBK := Lib.hid (fun h => solve_back (q := q) hm HIN.out hsq h)
      clear hm hsq hlk HT4
      go_wp2_with fail
      refine (solve16 q b wd k La F (some ad) cap1 k (fun r => ((dotN q.p (F r) (fun i => ((f i : Nat) : Int)) k : Nat) : Int)) A4 c4 (by omega) _ HL4.out.1 (KEEP.out _ HL4.out).1 R4.out).mono ?_
      rintro e w5 ⟨s, t5, A5, c5, rfl, hs, ht, hr5, hf5, ht5⟩
      obtain rfl : s = true := hs.2 HSP.out
      have HT5 := Lib.hid (ht rfl)
      have HL5 := Lib.hid (HL4.out.next hf5 ht5)
      have X5 := Lib.hid (X4.out.turned ht5)
      simp only [Bool.true_and] at hr5 ⊢
      have R5 := Lib.hid hr5
      clear hs ht hr5 hf5 ht5 HL4 X4 R4 hc1
      go_wp2_with fail
      refine (inverse12 q b wd k La F (some ad) cap1 _ HL5.out.1 (KEEP.out _ HL5.out).1).mono ?_
      rintro e w6 ⟨s, t6, A6, c6, rfl, hs, ht, _, _, hf6, ht6⟩
      obtain rfl : s = true := hs.2 HSQ.out
      obtain rfl : t6 = t5 := by
        have h1 := ht rfl
        have h2 := HT5.out
        cases t5 <;> cases t6 <;> simp_all
      have HL6 := Lib.hid (HL5.out.next hf6 ht6)
      have X6 := Lib.hid (X5.out.turned ht6)
      have R6 := Lib.hid (R5.out.turned ht6)
      simp only [Bool.true_and]
      clear hs ht hf6 ht6 HL5 X5 R5
      cases t6
      · rw [show err2 true false = 2 from rfl]
        simp only [cond]
        clear R6 HT5 HBK
        go_wp2_with fail
        go_ret
        exact ⟨rfl, HL6.out.2.1⟩
      rw [show err2 true true = 0 from rfl]
      have hfull := HT5.out.1 rfl
      have HQ := Lib.hid (HBK.out hfull)
      have R6 := Lib.hid (show Rd b w6 (i64s (fun r => ((mm k (ivm k (elM q F)) (colM q (fun r => ((dotN q.p (F r) (fun i => ((f i : Nat) : Int)) k : Nat) : Int))) r 0).val : Int))) A5 k from R6.out)
      simp only [cond]
      clear hfull HT5 HBK
      go_wp2_with fail
      refine (ints16 b b _ _ A5 A8 k c5 c8 (by omega) _ R6.out X6.out HQ.out).mono ?_
      rintro e w7 ⟨rfl, hb7⟩
      have HB := Lib.hid (below_tr HL6.out.2.1 hb7)
      clear hb7
      go_wp2_with fail
      go_ret
      exact ⟨rfl, HB.out⟩

set_option maxRecDepth 100000 in
theorem lifted (os : Os) (started : os.Started) (H : Type) (enc : TypeId × Value → H) :
    ReturnsInHanded {} Try.checked os 7 .any (Rows.invertSolvesSpec.pre6 enc Try.prog Try.f7 Rows.invertSolvesRow.domain false) (Rows.invertSolvesSpec.post enc Try.prog Try.f7 false true false false) := by
  refine returnsInHanded_of_change (C := Try.checked) own started (by kernel_rfl) Try.func7
    (ChangeSpec.witness6 (enc := enc) (C := Try.checked) false ⟨#[], #[.bool false, .slice none 0 0, .slice none 0 0], []⟩ 8 (by kernel_rfl) (by kernel_rfl) (by kernel_rfl) (by kernel_rfl)) ?_
  intro W base args ds gs before hval0 hW hcnd _
  have hval : ∀ (j : Nat) t v, Try.f7.params[j]? = some t → args[j]? = some v → Value.okWide Try.prog W .any base t v := hval0
  have hW' := hW
  obtain ⟨p, q, hA0, hV, rfl, hfz, hnd⟩ := hW
  have hA : DataW.TrodAll enc Try.prog W 0 (fun _ => true) true Try.f7.params.toList args.toList ds p := hA0
  rw [Try.params7] at hA hval
  obtain ⟨v0, vs0, d0, ds0, p0, q0, hargs, rfl, rfl, h0, r0⟩ := trodAll_cons hA
  obtain ⟨v1, vs1, d1, ds1, p1, q1, rfl, rfl, rfl, h1, r1⟩ := trodAll_cons r0
  obtain ⟨v2, vs2, d2, ds2, p2, q2, rfl, rfl, rfl, h2, r2⟩ := trodAll_cons r1
  obtain ⟨rfl, rfl, rfl⟩ := trodAll_nil r2
  obtain rfl : args = #[v0, v1, v2] := by cases args; simp_all
  obtain ⟨rfl, rfl⟩ := trodVars_none hV
  obtain ⟨a0, rfl, rfl, rfl⟩ := open_bool Try.underlying4 (hval 0 4 v0 rfl rfl) h0
  obtain ⟨a1, len1, cap1, rfl⟩ := okWide_slice Try.underlying22 (hval 1 22 v1 rfl rfl)
  have k1 := h1
  have lt1 : ∀ x ∈ p1, x.block < W.heap.size := by obtain ⟨m, hm⟩ := k1; exact DataW.trod_lt m _ _ _ hm
  have w1 : IsMat W a1 len1 cap1 := by
    obtain ⟨fuel, hf⟩ := h1
    exact mat_in hf
  obtain ⟨a2, len2, cap2, rfl⟩ := okWide_slice Try.underlying51 (hval 2 51 v2 rfl rfl)
  have k2 := h2
  have lt2 : ∀ x ∈ p2, x.block < W.heap.size := by obtain ⟨m, hm⟩ := k2; exact DataW.trod_lt m _ _ _ hm
  have w2 : IsBytes W a2 len2 cap2 := by
    obtain ⟨fuel, hf⟩ := h2
    exact bytes_in hf
  clear hA0 hval0
  refine (walk a0 a1 len1 cap1 a2 len2 cap2 W w1 w2).mono fun e W' ⟨he, bel⟩ => ?_
  subst he
  exact ⟨_, rfl, _, _, _, [], _, [], hW', trodAll_mk1 (shut_bool Try.underlying4 _), (trodAll_cons_mk (shut_bool Try.underlying4 _) (trodAll_cons_mk (Below.trod laidOut (by kernel_rfl) (of_decide_eq_true (by kernel_rfl)) k1 bel lt1) (trodAll_cons_mk (Below.trod laidOut (by kernel_rfl) (of_decide_eq_true (by kernel_rfl)) k2 bel lt2) trodAll_mk0))), rfl, bel.frame _, fun h => by cases h⟩

theorem over : Rows.invertSolvesRow.holds Try.pinned (OpenSpec.ofChange Rows.invertSolvesSpec) :=
  OpenClaim.holds_of_wide 7 Try.f7 rfl rfl rfl rfl rfl rfl rfl ⟨rfl, rfl, rfl, rfl, rfl⟩ rfl rfl rfl rfl rfl (by kernel_rfl) Try.func7 (by kernel_rfl)
    (of_decide_eq_true (by kernel_rfl)) (by unfold Func.isWrapper; first | (rw [if_pos (by decide +kernel)]; kernel_rfl) | (rw [if_neg (by decide +kernel)]; exact ⟨rfl, rfl⟩))
    (fun os started H enc _ => lifted os started H enc)

theorem proved : Rows.InvertSolvesSaid := over
end Go.Proofs.Ytkbacjfjlffmcaa.invertSolves
