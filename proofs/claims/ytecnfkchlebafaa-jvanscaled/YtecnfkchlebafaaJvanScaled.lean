/- Proved of the law JvanScaled, for all inputs, without conditions: it tells true, that is, parity rows are those of the rows of powers, of which each column, and each row, was multiplied by one number. -/
import Derived.Test.YtecnfkchlebafaaRows
import Derived.Test.YtecnfkchlebafaaJve
import Derived.Test.YtecnfkchlebafaaMto
import Derived.Test.YtecnfkchlebafaaArr
import Derived.Deep.RegionHeld3
import Derived.WalkKit
import Derived.ProofKit
import Derived.OpenShut
import Derived.ShutString
import Derived.ChangeOld
import Derived.Below
namespace Go.Proofs.Ytecnfkchlebafaa.jvanScaled
open Go.ChangeShapes Go.WideShapes Go.ChangeAt Go.RowKit
set_option linter.unusedVariables false

theorem own : ownKnob Try.prog.godebug = none := by kernel_rfl
theorem laidOut : laidOutB Try.prog = true := by kernel_rfl

/-- in the law's loops -/
def ScAt (q : FP) (b wd k : Nat) (w0 : World) (si : Value) (wr : World) : Prop := ∃ j : Nat, j ≤ k ∧ si = .int .i64 j ∧ Fld q.p b wd wr ∧ Turned b w0 wr

set_option maxRecDepth 100000 in
set_option maxHeartbeats 4000000 in
theorem walk (a0 : Bool) (a1 a2 : Int) (w : World) (w1 : 0 ≤ a1 ∧ a1 ≤ 255) (w2 : 0 ≤ a2 ∧ a2 ≤ 255) :
    Calls Try.prog 6 #[.bool a0, .int .u8 a1, .int .u8 a2] w fun e w' => e = .returned (.bool true) ∧ Below w.heap.size w w' := by
  obtain ⟨a10, a11⟩ := w1
  obtain ⟨a20, a21⟩ := w2
  obtain ⟨k, hk, k1, k2⟩ : ∃ k : Nat, 1 + a1 % 8 = (k : Int) ∧ 1 ≤ k ∧ k ≤ 8 := ⟨(1 + a1 % 8).toNat, by omega, by omega, by omega⟩
  obtain ⟨m, hm, m1, m2⟩ : ∃ m : Nat, 1 + a2 % 4 = (m : Int) ∧ 1 ≤ m ∧ m ≤ 4 := ⟨(1 + a2 % 4).toNat, by omega, by omega, by omega⟩
  obtain ⟨N, hN, hNe⟩ : ∃ N : Nat, (k : Int) + (m : Int) = (N : Int) ∧ k + m = N := ⟨k + m, by omega, rfl⟩
  have SK := Lib.hid (show side k from ⟨by omega, by omega⟩)
  have SM := Lib.hid (show side m from ⟨by omega, by omega⟩)
  have HK := Lib.hid hk
  have HM := Lib.hid hm
  have HNE := Lib.hid hNe
  have hNb : N ≤ 12 := by omega
  have hkN : k ≤ N := by omega
  clear hk hm hNe
  go_enter Try.func6, Try.ntmps6
  go_wp2_with fail
  refine (awakeJ _).mono ?_
  rintro e w1 ⟨rfl, hb1⟩
  have H1 := Lib.hid hb1
  clear hb1
  go_wp2_with fail
  rw [HK.out, HM.out]
  clear HK HM a10 a11 a20 a21
  refine (jfield9 a0 _).mono ?_
  rintro e w2 ⟨q, wd, b, rfl, hFl, hnb, hb2⟩
  have HL := Lib.hid (Live.start H1.out hFl hnb hb2)
  have HO := Lib.hid hFl.1.kind.bounds
  clear hFl hnb hb2 H1
  go_wp2_with fail
  refine (jext_yes q b wd k m SK.out SM.out (by have := HNE.out; omega) _ HL.out.1).mono ?_
  rintro e w3 ⟨A3, c3, rfl, hc3, hx3, hf3, ht3⟩
  have HL3 := Lib.hid (HL.out.next hf3 ht3)
  rw [HNE.out] at hc3 hx3 ⊢
  have X3 := Lib.hid hx3
  clear hx3 hf3 ht3 HL
  go_wp2_with fail
  refine (jpar_yes q b wd k m SK.out SM.out (by have := HNE.out; omega) _ HL3.out.1).mono ?_
  rintro e w4 ⟨A4, c4, rfl, hc4, hx4, hf4, ht4⟩
  rw [HNE.out] at hx4
  have HL4 := Lib.hid (HL3.out.next hf4 ht4)
  have X4 := Lib.hid (X3.out.turned ht4)
  have P4 := Lib.hid hx4
  have hkc : k ≤ c3 := by omega
  clear hx4 hf4 ht4 HL3 X3 hc4
  have HFU := Lib.hid (ext_full (q := q) (k := k) (N := N) (by have := HO.out; omega) (by omega))
  have HI := Lib.hid (inverse12 q b wd k (fun _ => k) (ivs (extE q k N)) A3 c3 w4 HL4.out.1 (X4.out.take (by omega)))
  go_wp2_with fail
  refine HI.out.mono ?_
  rintro e w5 ⟨s, t, A5, c5, rfl, hs, ht, _, hx5, hf5, ht5⟩
  obtain rfl : s = true := hs.2 ⟨ivs_may _ SK.out SK.out, rfl⟩
  rw [elM_ivs] at ht hx5
  obtain rfl : t = true := (ht rfl).2 HFU.out
  rw [show err2 true true = 0 from rfl]
  simp only [Bool.and_self, cond] at hx5 ⊢
  have hfr := run_fromM A3 N c3 k hkN
  have hat := run_atM A3 N c3 k hkN
  have HC := Lib.hid ((X4.out.turned ht5).cut (k := k) (cap := c3) hkN hc3)
  obtain ⟨A', hA'⟩ : ∃ A', (if c3 = k then A3 else A3.map (·.add k)) = A' := ⟨_, rfl⟩
  rw [hA'] at hfr HC
  simp only [hA'] at hat
  have hNk : N - k = m := by have := HNE.out; omega
  rw [hNk] at hfr HC
  simp only [hNk] at hat
  have HL5 := Lib.hid (HL4.out.next hf5 ht5)
  have P5 := Lib.hid (P4.out.turned ht5)
  have HMU := Lib.hid (mmul_cap q.p b wd (ivs (fun r j => extE q k N (k + r) j)) (ivs (ivm k (extE q k N))) A' A5 m k k (c3 - k) c5 w5 hf5 HC.out hx5 (ivs_may _ SM.out SK.out) (ivs_may _ SK.out SK.out))
  clear hs ht hx5 hf5 ht5 HI HL4 X4 P4 HC hA' hNk
  go_wp2_with fail
  refine HMU.out.mono ?_
  rintro e w6 ⟨A6, c6, rfl, _, hx6, hf6, ht6⟩
  rw [mulF_ivs] at hx6
  have hx6 : Mx b w6 (ivs (jG q k N)) (fun _ => k) A6 m := hx6
  have HL6 := Lib.hid (HL5.out.next hf6 ht6)
  have P6 := Lib.hid (P5.out.turned ht6)
  have HF6 := Lib.hid hf6
  have HG := Lib.hid (show ∀ i, i < m → ∀ j, j < k → jG q k N i j ≠ 0 from fun i hi j hj => sysJ_ne (by have := HO.out; omega) (by omega) (by have := HNE.out; omega) hj)
  have HQ := Lib.hid (show ∀ i, i < m → ∀ j, j < k → fmul q.p (ivs (parE q k N) i j) (fmul q.p (ivs (jG q k N) 0 j) (ivs (jG q k N) i 0)) = fmul q.p (ivs (jG q k N) i j) (ivs (jG q k N) 0 0) from fun i hi j hj => by
    simp only [ivs]
    rw [fmul_el, fmul_el, fmul_el]
    unfold parE
    rw [row_scaled (HG.out 0 (by omega) j hj) (HG.out i hi 0 (by omega)) (HG.out 0 (by omega) 0 (by omega))])
  obtain ⟨F, hF⟩ : ∃ F, ivs (parE q k N) = F := ⟨_, rfl⟩
  obtain ⟨G, hGe⟩ : ∃ G, ivs (jG q k N) = G := ⟨_, rfl⟩
  rw [hF] at P6 HQ
  rw [hGe] at hx6 HQ
  have S6 := Lib.hid hx6
  clear hx6 hf6 ht6 HMU HL5 P5 hF hGe HG hfr hat HFU
  go_wp2_with fail
  go_loopw [21] (fun s21 wr => ScAt q b wd m w6 s21 wr) (fun s21 _ => m - (intOf s21).toNat)
  case atStart => exact ⟨0, Nat.zero_le _, rfl, HF6.out, Turned.refl _ _⟩
  case round =>
    obtain ⟨i, hi, rfl, hfi, hti⟩ := hrel
    have HFI := Lib.hid hfi
    have HTI := Lib.hid hti
    clear hfi hti
    by_cases hlt : i < m
    · go_wp2_with fail
      go_loopw [22] (fun s22 wr => ScAt q b wd k w6 s22 wr) (fun s22 _ => k - (intOf s22).toNat)
      case atStart => exact ⟨0, Nat.zero_le _, rfl, HFI.out, HTI.out⟩
      case round =>
        obtain ⟨j, hj, rfl, hfj, htj⟩ := hrel
        have HFJ := Lib.hid hfj
        have HTJ := Lib.hid htj
        clear hfj htj
        by_cases hlt2 : j < k
        · obtain ⟨Bp, Bq, p1, p2⟩ := P6.out
          obtain ⟨Bs, Bt, s1, s2⟩ := S6.out
          obtain ⟨adP, rfl, _⟩ := p1.at_ hlt
          obtain ⟨adS, rfl, _⟩ := s1.at_ hlt
          obtain ⟨adPi, ePi, _⟩ := (p2 i hlt).at_ hlt2
          obtain ⟨adSi, eSi, _⟩ := (s2 i hlt).at_ hlt2
          obtain ⟨adS0, eS0, _⟩ := (s2 0 (by omega)).at_ hlt2
          have CELL : ∀ {A : Option Addr} {n : Nat} {K : Nat → Value} {wx : World} {ad : Addr} {x : Nat}, Rd b wx K A n → A = some ad → x < n → wx.cell? (ad.add x) = some (K x) := fun h e hx => by
            obtain ⟨ad2, e2, h2⟩ := h.at_ hx
            rw [e] at e2
            injection e2 with e2
            subst e2
            exact h2
          have KEEP := Lib.hid (show ∀ w', Fld q.p b wd w' → Turned b w6 w' → w'.cell? (adP.add i) = some (.slice (some adPi) k (Bq i)) ∧ w'.cell? (adPi.add j) = some (.int .i64 (F i j)) ∧ w'.cell? adS = some (.slice (some adS0) k (Bt 0)) ∧ w'.cell? (adS.add i) = some (.slice (some adSi) k (Bt i)) ∧ w'.cell? (adS0.add j) = some (.int .i64 (G 0 j)) ∧ w'.cell? adS0 = some (.int .i64 (G 0 0)) ∧ w'.cell? (adSi.add j) = some (.int .i64 (G i j)) ∧ w'.cell? adSi = some (.int .i64 (G i 0)) ∧ Fld q.p b wd w' ∧ Turned b w6 w' from fun w' hf ht => by
            have h1 := CELL (p1.turned ht) rfl hlt
            have h2 := CELL (s1.turned ht) rfl hlt
            have h3 := CELL (s1.turned ht) rfl (show 0 < m by omega)
            simp only [slis] at h1 h2 h3
            rw [ePi] at h1
            rw [eSi] at h2
            rw [eS0] at h3
            have h4 := CELL ((p2 i hlt).turned ht) ePi hlt2
            have h5 := CELL ((s2 i hlt).turned ht) eSi hlt2
            have h6 := CELL ((s2 i hlt).turned ht) eSi (show 0 < k by omega)
            have h7 := CELL ((s2 0 (by omega)).turned ht) eS0 hlt2
            have h8 := CELL ((s2 0 (by omega)).turned ht) eS0 (show 0 < k by omega)
            exact ⟨h1, h4, h3, h2, h7, h8, h5, h6, hf, ht⟩)
          have HQJ := Lib.hid (HQ.out i hlt j hlt2)
          obtain ⟨x, hx⟩ : ∃ x, F i j = x := ⟨_, rfl⟩
          obtain ⟨y, hy⟩ : ∃ x, G 0 j = x := ⟨_, rfl⟩
          obtain ⟨z, hz⟩ : ∃ x, G 0 0 = x := ⟨_, rfl⟩
          obtain ⟨u, hu⟩ : ∃ x, G i j = x := ⟨_, rfl⟩
          obtain ⟨v, hv⟩ : ∃ x, G i 0 = x := ⟨_, rfl⟩
          rw [hx, hy, hz, hu, hv] at KEEP
          rw [hx, hy, hz, hu, hv] at HQJ
          have KS := Lib.hid (show ∀ w1 w', Fld q.p b wd w' → Turned b w1 w' → (w1.cell? (adP.add i) = some (.slice (some adPi) k (Bq i)) ∧ w1.cell? (adPi.add j) = some (.int .i64 x) ∧ w1.cell? adS = some (.slice (some adS0) k (Bt 0)) ∧ w1.cell? (adS.add i) = some (.slice (some adSi) k (Bt i)) ∧ w1.cell? (adS0.add j) = some (.int .i64 y) ∧ w1.cell? adS0 = some (.int .i64 z) ∧ w1.cell? (adSi.add j) = some (.int .i64 u) ∧ w1.cell? adSi = some (.int .i64 v) ∧ Fld q.p b wd w1 ∧ Turned b w6 w1) → _ from fun w1 w' hf ht h => KEEP.out w' hf (h.2.2.2.2.2.2.2.2.2.trans ht))
          have KF := Lib.hid (show ∀ w1, (w1.cell? (adP.add i) = some (.slice (some adPi) k (Bq i)) ∧ w1.cell? (adPi.add j) = some (.int .i64 x) ∧ w1.cell? adS = some (.slice (some adS0) k (Bt 0)) ∧ w1.cell? (adS.add i) = some (.slice (some adSi) k (Bt i)) ∧ w1.cell? (adS0.add j) = some (.int .i64 y) ∧ w1.cell? adS0 = some (.int .i64 z) ∧ w1.cell? (adSi.add j) = some (.int .i64 u) ∧ w1.cell? adSi = some (.int .i64 v) ∧ Fld q.p b wd w1 ∧ Turned b w6 w1) → Fld q.p b wd w1 from fun w1 h => h.2.2.2.2.2.2.2.2.1)
          have hst := KEEP.out wr.drew (HFJ.out.of_below (Below.refl wr.heap.size wr).drew) HTJ.out.drew
          have zm : 0 < m := by omega
          have zk : 0 < k := by omega
          have zm2 : (0 : Int) < (m : Int) := by omega
          have zk2 : (0 : Int) < (k : Int) := by omega
          clear hx hy hz hu hv p1 p2 s1 s2 ePi eSi eS0 CELL
          go_wp2_with fail
          go_region_held3 (fun w' => w'.cell? (adP.add i) = some (.slice (some adPi) k (Bq i)) ∧ w'.cell? (adPi.add j) = some (.int .i64 x) ∧ w'.cell? adS = some (.slice (some adS0) k (Bt 0)) ∧ w'.cell? (adS.add i) = some (.slice (some adSi) k (Bt i)) ∧ w'.cell? (adS0.add j) = some (.int .i64 y) ∧ w'.cell? adS0 = some (.int .i64 z) ∧ w'.cell? (adSi.add j) = some (.int .i64 u) ∧ w'.cell? adSi = some (.int .i64 v) ∧ Fld q.p b wd w' ∧ Turned b w6 w')
            (first | exact hst | assumption | (refine KS.out _ _ ‹_› ‹_› ?_; assumption))
            ((go_at_call 19; refine (fmul12 q.p b wd _ _ _ ?_).mono ?_; (refine KF.out _ ?_; assumption); rintro e w' ⟨rfl, hf, ht⟩))
          all_goals
            rename_i hh
            have HE := Lib.hid (And.intro hh.2.2.2.2.2.2.2.2.1 hh.2.2.2.2.2.2.2.2.2)
            rw [HQJ.out]
            obtain ⟨t, ht⟩ : ∃ t, fmul q.p u z = t := ⟨_, rfl⟩
            rw [ht]
            have tt : (t != t) = false := by simp
            clear hh ht hst KEEP KS KF HQJ
            go_wp2_with fail
            exact ⟨⟨j + 1, hlt2, by go_num, HE.out.1, HE.out.2⟩, by simp [intOf]; omega⟩
        · obtain rfl : j = k := by omega
          go_wp2_with fail
          exact ⟨⟨i + 1, hlt, by go_num, HFJ.out, HTJ.out⟩, by simp [intOf]; omega⟩
    · obtain rfl : i = m := by omega
      have HE := Lib.hid (HL6.out.next HFI.out HTI.out).2.1
      go_wp2_with fail
      go_ret
      exact ⟨rfl, HE.out⟩

set_option maxRecDepth 100000 in
theorem lifted (os : Os) (started : os.Started) (H : Type) (enc : TypeId × Value → H) :
    ReturnsInHanded {} Try.checked os 6 .any (Rows.jvanScaledSpec.pre6 enc Try.prog Try.f6 Rows.jvanScaledRow.domain false) (Rows.jvanScaledSpec.post enc Try.prog Try.f6 false true false false) := by
  refine returnsInHanded_of_change (C := Try.checked) own started (by kernel_rfl) Try.func6
    (ChangeSpec.witness6 (enc := enc) (C := Try.checked) false ⟨#[], #[.bool false, .int .u8 0, .int .u8 0], []⟩ 8 (by kernel_rfl) (by kernel_rfl) (by kernel_rfl) (by kernel_rfl)) ?_
  intro W base args ds gs before hval0 hW hcnd _
  have hval : ∀ (j : Nat) t v, Try.f6.params[j]? = some t → args[j]? = some v → Value.okWide Try.prog W .any base t v := hval0
  have hW' := hW
  obtain ⟨p, q, hA0, hV, rfl, hfz, hnd⟩ := hW
  have hA : DataW.TrodAll enc Try.prog W 0 (fun _ => true) true Try.f6.params.toList args.toList ds p := hA0
  rw [Try.params6] at hA hval
  obtain ⟨v0, vs0, d0, ds0, p0, q0, hargs, rfl, rfl, h0, r0⟩ := trodAll_cons hA
  obtain ⟨v1, vs1, d1, ds1, p1, q1, rfl, rfl, rfl, h1, r1⟩ := trodAll_cons r0
  obtain ⟨v2, vs2, d2, ds2, p2, q2, rfl, rfl, rfl, h2, r2⟩ := trodAll_cons r1
  obtain ⟨rfl, rfl, rfl⟩ := trodAll_nil r2
  obtain rfl : args = #[v0, v1, v2] := by cases args; simp_all
  obtain ⟨rfl, rfl⟩ := trodVars_none hV
  obtain ⟨a0, rfl, rfl, rfl⟩ := open_bool Try.underlying4 (hval 0 4 v0 rfl rfl) h0
  obtain ⟨a1, rfl, rfl, rfl, w1⟩ := open_int Try.underlying5 (hval 1 5 v1 rfl rfl) h1
  obtain ⟨a2, rfl, rfl, rfl, w2⟩ := open_int Try.underlying5 (hval 2 5 v2 rfl rfl) h2
  clear hA0 hval0
  refine (walk a0 a1 a2 W (bounds_u8 w1) (bounds_u8 w2)).mono fun e W' ⟨he, bel⟩ => ?_
  subst he
  exact ⟨_, rfl, _, _, _, [], _, [], hW', trodAll_mk1 (shut_bool Try.underlying4 _), (trodAll_cons_mk (shut_bool Try.underlying4 _) (trodAll_cons_mk (shut_int Try.underlying5 w1) (trodAll_cons_mk (shut_int Try.underlying5 w2) trodAll_mk0))), rfl, bel.frame _, fun h => by cases h⟩

theorem over : Rows.jvanScaledRow.holds Try.pinned (OpenSpec.ofChange Rows.jvanScaledSpec) :=
  OpenClaim.holds_of_wide 6 Try.f6 rfl rfl rfl rfl rfl rfl rfl ⟨rfl, rfl, rfl, rfl, rfl⟩ rfl rfl rfl rfl rfl (by kernel_rfl) Try.func6 (by kernel_rfl)
    (of_decide_eq_true (by kernel_rfl)) (by unfold Func.isWrapper; first | (rw [if_pos (by decide +kernel)]; kernel_rfl) | (rw [if_neg (by decide +kernel)]; exact ⟨rfl, rfl⟩))
    (fun os started H enc _ => lifted os started H enc)

theorem proved : Rows.JvanScaledSaid := over
end Go.Proofs.Ytecnfkchlebafaa.jvanScaled
