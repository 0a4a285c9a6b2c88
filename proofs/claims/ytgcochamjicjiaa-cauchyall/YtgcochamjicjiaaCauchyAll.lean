/- CauchyAll: whatever bytes come in (5 and 8 at most are asked): rows of inverses of unlike numbers are safe, and what stands twice is refused; for every field choice, no condition. -/
import Derived.Test.YtgcochamjicjiaaRows
import Derived.Test.YtgcochamjicjiaaCyh
import Derived.Test.YtgcochamjicjiaaCyj
import Derived.Test.YtgcochamjicjiaaCyk
import Derived.Test.YtgcochamjicjiaaArr
import Derived.Deep.RegionHeld3
import Derived.WalkKit
import Derived.ProofKit
import Derived.OpenShut
import Derived.ShutString
import Derived.ChangeOld
import Derived.Below
namespace Go.Proofs.Ytgcochamjicjiaa.cauchyAll
open Go.ChangeShapes Go.WideShapes Go.ChangeAt Go.RowKit
set_option linter.unusedVariables false

theorem own : ownKnob Try.prog.godebug = none := by kernel_rfl
theorem laidOut : laidOutB Try.prog = true := by kernel_rfl

/-- bytes, one by one, as numbers -/
theorem conv_u8 {f : Nat → Nat} (hf : ∀ j, f j < 256) (j : Nat) : IntKind.i64.wrap ((f j : Nat) : Int) = ((f j : Nat) : Int) := by
  have := hf j
  rw [IntKind.wrap_i64]
  omega
/-- rows of inverses are rows of the field's numbers -/
theorem of_safe {q : FP} {n m : Nat} {lx ly : Nat → Int} (h : ofP (M.ord q.p) n m lx ly) : SafeP q m n (elM q (ivs (ofE q lx ly))) := by
  rw [elM_ivs]
  exact cau_safe (fun i j hi hj e => h.xx i j hi hj (toEl_inj (h.x hi) (h.x hj) e)) (fun i j hi hj e => h.yy i j hi hj (toEl_inj (h.y hi) (h.y hj) e)) (fun i j hi hj e => h.xy i j hi hj (toEl_inj (h.x hi) (h.y hj) e))

set_option maxRecDepth 100000 in
set_option maxHeartbeats 8000000 in
theorem walk (a0 : Bool) (a1 : Option Addr) (len1 cap1 : Nat) (a2 : Option Addr) (len2 cap2 : Nat) (w : World) (w1 : IsBytes w a1 len1 cap1) (w2 : IsBytes w a2 len2 cap2) :
    Calls Try.prog 4 #[.bool a0, .slice a1 len1 cap1, .slice a2 len2 cap2] w fun e w' => e = .returned (.bool true) ∧ Below w.heap.size w w' := by
  obtain ⟨j0, hj, hy0, hy1, hy2⟩ := info_parts infoI
  obtain ⟨fx, hfx, _, hmx⟩ := w1
  obtain ⟨fy, hfy, _, hmy⟩ := w2
  have HFX := Lib.hid hfx
  have HFY := Lib.hid hfy
  have HMX := Lib.hid hmx
  have HMY := Lib.hid hmy
  clear hfx hfy hmx hmy
  go_enter Try.func4, Try.ntmps4
  go_wp2_with fail
  refine (awakeC _).mono ?_
  rintro e w1 ⟨rfl, hb1⟩
  have H1 := Lib.hid hb1
  clear hb1
  go_wp2_with fail
  refine (cfield9 a0 _).mono ?_
  rintro e w2 ⟨q, wd, b, rfl, hFl, hnb, hb2⟩
  have hL := Live.start H1.out hFl hnb hb2
  have HL := Lib.hid hL
  have HG := Lib.hid hFl.1
  have hlow : w.heap.size ≤ b := hL.2.2
  have hbl2 : b < w2.heap.size := hFl.lt
  clear hFl hnb hb2 H1 hL
  by_cases hl1 : len1 ≤ 5
  case neg =>
    have e1 : decide ((5 : Int) < (len1 : Int)) = true := by simp; omega
    go_wp2_with fail
    go_ret
    exact ⟨rfl, HL.out.2.1⟩
  have e1 : decide ((5 : Int) < (len1 : Int)) = false := by simp; omega
  by_cases hl2 : len2 ≤ 8
  case neg =>
    have e2 : decide ((8 : Int) < (len2 : Int)) = true := by simp; omega
    go_wp2_with fail
    go_ret
    exact ⟨rfl, HL.out.2.1⟩
  have e2 : decide ((8 : Int) < (len2 : Int)) = false := by simp; omega
  have RX := Lib.hid ((HMX.out b hlow).below HL.out.2.1)
  have RY := Lib.hid ((HMY.out b hlow).below HL.out.2.1)
  clear HMX HMY
  go_wp2_with fail
  go_loopw [11, 13] (fun s11 s13 wr => RowIn len1 (fun j => ((fx j : Nat) : Int)) w2 s11 s13 wr) (fun _ s13 _ => len1 - (intOf s13).toNat)
  case atStart => exact ⟨0, Nat.zero_le _, rfl, App.start _ _ _⟩
  case round =>
    obtain ⟨i, hin, rfl, ha⟩ := hrel
    have HA := Lib.hid ha
    have hsz := ha.2.size
    clear ha
    by_cases hlt : i < len1
    · obtain ⟨ad, rfl, hc⟩ := (RX.out.below HA.out.2).at_ hlt
      simp only [u8s] at hc
      have hcv := conv_u8 HFX.out i
      have hxl := HFX.out i
      go_wp2_with (at_builtin; refine wpList_append_own _ rfl _ _ TIs rfl w2.heap.size TI j0 (.int .i64 0) 1 8 underI hj hy0 hy1 hy2 rfl (by decide) _ _ _ rfl (HA.out.1.alloc _) ⟨wr.heap.size, 0, none⟩ 1 1 [i64s (fun j => ((fx j : Nat) : Int)) i] rfl rfl (news_one rfl) (one_i64 _) (by unfold maxLen; omega) (by omega) (by simp; omega) ?_)
      intro v' w3 hown' hgrow _
      have HS := Lib.hid (HA.out.step hown' hgrow)
      clear hown' hgrow hcv
      go_wp2_with fail
      exact ⟨⟨i + 1, hlt, by go_num, HS.out⟩, by simp [intOf]; omega⟩
    · obtain rfl : i = len1 := by omega
      obtain ⟨wa, hwa⟩ : ∃ wa, wa = wr := ⟨_, rfl⟩
      subst hwa
      obtain ⟨A1, c1, rfl, _, hr1⟩ := HA.out.rd hbl2
      have R1 := Lib.hid hr1
      have HLa := Lib.hid (HL.out.below HA.out.2)
      have RYa := Lib.hid (RY.out.below HA.out.2)
      have hbla : b < wa.heap.size := by omega
      clear hr1 HA RX RY
      go_wp2_with fail
      go_loopw [12, 14] (fun s12 s14 wr => RowIn len2 (fun j => ((fy j : Nat) : Int)) wa s12 s14 wr) (fun _ s14 _ => len2 - (intOf s14).toNat)
      case atStart => exact ⟨0, Nat.zero_le _, rfl, App.start _ _ _⟩
      case round =>
        obtain ⟨k, hkn, rfl, ha⟩ := hrel
        have HA := Lib.hid ha
        have hsz := ha.2.size
        clear ha
        by_cases hlt2 : k < len2
        · obtain ⟨ad, rfl, hc⟩ := (RYa.out.below HA.out.2).at_ hlt2
          simp only [u8s] at hc
          have hcv := conv_u8 HFY.out k
          have hxl := HFY.out k
          go_wp2_with (at_builtin; refine wpList_append_own _ rfl _ _ TIs rfl wa.heap.size TI j0 (.int .i64 0) 1 8 underI hj hy0 hy1 hy2 rfl (by decide) _ _ _ rfl (HA.out.1.alloc _) ⟨wr.heap.size, 0, none⟩ 1 1 [i64s (fun j => ((fy j : Nat) : Int)) k] rfl rfl (news_one rfl) (one_i64 _) (by unfold maxLen; omega) (by omega) (by simp; omega) ?_)
          intro v' w3 hown' hgrow _
          have HS := Lib.hid (HA.out.step hown' hgrow)
          clear hown' hgrow hcv
          go_wp2_with fail
          exact ⟨⟨k + 1, hlt2, by go_num, HS.out⟩, by simp [intOf]; omega⟩
        · obtain rfl : k = len2 := by omega
          obtain ⟨wb, hwb⟩ : ∃ wb, wb = wr := ⟨_, rfl⟩
          subst hwb
          obtain ⟨A2, c2, rfl, _, hr2⟩ := HA.out.rd hbla
          have R2 := Lib.hid hr2
          have R1b := Lib.hid (R1.out.below HA.out.2)
          have HLb := Lib.hid (HLa.out.below HA.out.2)
          obtain ⟨lx, hlx⟩ : ∃ lx : Nat → Int, (fun j => ((fx j : Nat) : Int)) = lx := ⟨_, rfl⟩
          obtain ⟨ly, hly⟩ : ∃ ly : Nat → Int, (fun j => ((fy j : Nat) : Int)) = ly := ⟨_, rfl⟩
          have BX := Lib.hid (show ∀ j, -9223372036854775808 ≤ lx j ∧ lx j ≤ 9223372036854775807 from fun j => by rw [← hlx]; have := HFX.out j; dsimp only; omega)
          have BY := Lib.hid (show ∀ j, -9223372036854775808 ≤ ly j ∧ ly j ≤ 9223372036854775807 from fun j => by rw [← hly]; have := HFY.out j; dsimp only; omega)
          rw [hlx] at R1b
          rw [hly] at R2
          clear hr2 HA R1 HLa RYa hlx hly
          go_wp2_with fail
          refine (of_any q b wd i k lx ly A1 A2 c1 c2 (fun i _ => BX.out i) (fun i _ => BY.out i) _ HLb.out.1 R1b.out R2.out).mono ?_
          rintro e w5 ⟨t, A5, c5, rfl, ht, _, hx5, hf5, ht5⟩
          have HT := Lib.hid ht
          have HL5 := Lib.hid (HLb.out.next hf5 ht5)
          have X5 := Lib.hid hx5
          have R15 := Lib.hid (R1b.out.turned ht5)
          have R25 := Lib.hid (R2.out.turned ht5)
          clear ht hx5 hf5 ht5 HLb R1b R2
          go_wp2_with fail
          refine (rof10 q b wd i k HG.out lx ly A1 A2 c1 c2 _ HL5.out.1.lt R15.out R25.out).mono ?_
          rintro e w6 ⟨t', A6, c6, rfl, ht', hx6, hb6⟩
          obtain rfl : t = t' := Bool.eq_iff_iff.2 (HT.out.trans ht'.symm)
          have HL6 := Lib.hid (HL5.out.below hb6)
          have X6 := Lib.hid (X5.out.below hb6)
          clear ht' hx6 hb6 HL5 X5 R15 R25
          cases t
          · simp only [cond, errOf, if_neg (show ¬ (false = true) by decide)]
            go_wp2_with fail
            go_ret
            exact ⟨rfl, HL6.out.2.1⟩
          · have hP := HT.out.1 rfl
            have HP := Lib.hid hP
            have HSP := Lib.hid (show safeP (M.ord q.p) i (fun _ => k) (ivs (ofE q lx ly)) from ⟨ivs_may _ hP.1 hP.2.1, hl1, hl2⟩)
            simp only [cond, errOf, if_true]
            clear hP
            go_wp2_with fail
            refine (safe_any q b wd i (fun _ => k) (ivs (ofE q lx ly)) A5 c5 _ HL6.out.1 X6.out).mono ?_
            rintro e w7 ⟨s, t, rfl, hs, ht, hf7, ht7⟩
            obtain rfl : s = true := hs.2 HSP.out
            obtain rfl : t = true := ht.2 ⟨rfl, of_safe HP.out⟩
            have HE := Lib.hid (HL6.out.next hf7 ht7).2.1
            simp only [errOf, if_true]
            clear hs ht hf7 ht7
            go_wp2_with fail
            go_ret
            exact ⟨rfl, HE.out⟩

set_option maxRecDepth 100000 in
theorem lifted (os : Os) (started : os.Started) (H : Type) (enc : TypeId × Value → H) :
    ReturnsInHanded {} Try.checked os 4 .any (Rows.cauchyAllSpec.pre6 enc Try.prog Try.f4 Rows.cauchyAllRow.domain false) (Rows.cauchyAllSpec.post enc Try.prog Try.f4 false true false false) := by
  refine returnsInHanded_of_change (C := Try.checked) own started (by kernel_rfl) Try.func4
    (ChangeSpec.witness6 (enc := enc) (C := Try.checked) false ⟨#[], #[.bool false, .slice none 0 0, .slice none 0 0], []⟩ 8 (by kernel_rfl) (by kernel_rfl) (by kernel_rfl) (by kernel_rfl)) ?_
  intro W base args ds gs before hval0 hW hcnd _
  have hval : ∀ (j : Nat) t v, Try.f4.params[j]? = some t → args[j]? = some v → Value.okWide Try.prog W .any base t v := hval0
  have hW' := hW
  obtain ⟨p, q, hA0, hV, rfl, hfz, hnd⟩ := hW
  have hA : DataW.TrodAll enc Try.prog W 0 (fun _ => true) true Try.f4.params.toList args.toList ds p := hA0
  rw [Try.params4] at hA hval
  obtain ⟨v0, vs0, d0, ds0, p0, q0, hargs, rfl, rfl, h0, r0⟩ := trodAll_cons hA
  obtain ⟨v1, vs1, d1, ds1, p1, q1, rfl, rfl, rfl, h1, r1⟩ := trodAll_cons r0
  obtain ⟨v2, vs2, d2, ds2, p2, q2, rfl, rfl, rfl, h2, r2⟩ := trodAll_cons r1
  obtain ⟨rfl, rfl, rfl⟩ := trodAll_nil r2
  obtain rfl : args = #[v0, v1, v2] := by cases args; simp_all
  obtain ⟨rfl, rfl⟩ := trodVars_none hV
  obtain ⟨a0, rfl, rfl, rfl⟩ := open_bool Try.underlying4 (hval 0 4 v0 rfl rfl) h0
  obtain ⟨a1, len1, cap1, rfl⟩ := okWide_slice Try.underlying42 (hval 1 42 v1 rfl rfl)
  have k1 := h1
  have lt1 : ∀ x ∈ p1, x.block < W.heap.size := by obtain ⟨m, hm⟩ := k1; exact DataW.trod_lt m _ _ _ hm
  have w1 : IsBytes W a1 len1 cap1 := by
    obtain ⟨fuel, hf⟩ := h1
    exact bytes_in hf
  obtain ⟨a2, len2, cap2, rfl⟩ := okWide_slice Try.underlying42 (hval 2 42 v2 rfl rfl)
  have k2 := h2
  have lt2 : ∀ x ∈ p2, x.block < W.heap.size := by obtain ⟨m, hm⟩ := k2; exact DataW.trod_lt m _ _ _ hm
  have w2 : IsBytes W a2 len2 cap2 := by
    obtain ⟨fuel, hf⟩ := h2
    exact bytes_in hf
  clear hA0 hval0
  refine (walk a0 a1 len1 cap1 a2 len2 cap2 W w1 w2).mono fun e W' ⟨he, bel⟩ => ?_
  subst he
  exact ⟨_, rfl, _, _, _, [], _, [], hW', trodAll_mk1 (shut_bool Try.underlying4 _), (trodAll_cons_mk (shut_bool Try.underlying4 _) (trodAll_cons_mk (Below.trod laidOut (by kernel_rfl) (of_decide_eq_true (by kernel_rfl)) k1 bel lt1) (trodAll_cons_mk (Below.trod laidOut (by kernel_rfl) (of_decide_eq_true (by kernel_rfl)) k2 bel lt2) trodAll_mk0))), rfl, bel.frame _, fun h => by cases h⟩

theorem over : Rows.cauchyAllRow.holds Try.pinned (OpenSpec.ofChange Rows.cauchyAllSpec) :=
  OpenClaim.holds_of_wide 4 Try.f4 rfl rfl rfl rfl rfl rfl rfl ⟨rfl, rfl, rfl, rfl, rfl⟩ rfl rfl rfl rfl rfl (by kernel_rfl) Try.func4 (by kernel_rfl)
    (of_decide_eq_true (by kernel_rfl)) (by unfold Func.isWrapper; first | (rw [if_pos (by decide +kernel)]; kernel_rfl) | (rw [if_neg (by decide +kernel)]; exact ⟨rfl, rfl⟩))
    (fun os started H enc _ => lifted os started H enc)

theorem proved : Rows.CauchyAllSaid := over
end Go.Proofs.Ytgcochamjicjiaa.cauchyAll
