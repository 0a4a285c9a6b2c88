/- Proved: for every bool and every two uint8 the law VanderFirst answers true (of a matrix with the identity ahead of one column each row is 1; of ISA-L, the first row is, and the first column), and its arguments read as they did. No conditions. -/
import Derived.Test.YtmpamgnbbomoaaaRows
import Derived.Test.YtmpamgnbbomoaaaVdd
import Derived.Test.YtmpamgnbbomoaaaMto
import Derived.Test.YtmpamgnbbomoaaaArr
import Derived.Deep.RegionHeld3
import Derived.WalkKit
import Derived.ProofKit
import Derived.OpenShut
import Derived.ShutString
import Derived.ChangeOld
import Derived.Below
namespace Go.Proofs.Ytmpamgnbbomoaaa.vanderFirst
open Go.ChangeShapes Go.WideShapes Go.ChangeAt Go.RowKit
set_option linter.unusedVariables false

theorem own : ownKnob Try.prog.godebug = none := by kernel_rfl
theorem laidOut : laidOutB Try.prog = true := by kernel_rfl

theorem ep_one {q : FP} (k : Nat) : ep (1 : El q) k = 1 := by
  induction k with
  | zero => rfl
  | succ k ih => rw [ep, ih, El.one_mul]
theorem isal_first {q : FP} (r j : Nat) (h : r = 0 ∨ j = 0) : ivs (isalE q) r j = 1 := by
  rcases h with rfl | rfl
  · show ((ep (1 : El q) j).val : Int) = 1
    rw [ep_one]; rfl
  · rfl
theorem sys_first {q : FP} (h : (1 : Int) ≤ M.ord q.p) (r : Nat) : ivs (sysE q 1) r 0 = 1 := by
  have h0 := (ivm_inv (raw_full (q := q) (k := 1) h)).2 0 (by omega) 0 (by omega)
  have e : ∀ r, mm 1 (rawE q) (ivm 1 (rawE q)) r 0 = ivm 1 (rawE q) 0 0 := fun r => by
    show 0 + (1 : El q) * ivm 1 (rawE q) 0 0 = _
    rw [El.zero_add, El.one_mul]
  rw [e, dl_self] at h0
  show ((mm 1 (rawE q) (ivm 1 (rawE q)) r 0).val : Int) = 1
  rw [e, h0]; rfl

set_option maxRecDepth 100000 in
set_option maxHeartbeats 4000000 in
theorem walk (a0 : Bool) (a1 a2 : Int) (w : World) (w1 : 0 ≤ a1 ∧ a1 ≤ 255) (w2 : 0 ≤ a2 ∧ a2 ≤ 255) :
    Calls Try.prog 6 #[.bool a0, .int .u8 a1, .int .u8 a2] w fun e w' => e = .returned (.bool true) ∧ Below w.heap.size w w' := by
  obtain ⟨a10, a11⟩ := w1
  obtain ⟨a20, a21⟩ := w2
  obtain ⟨k, hk, k1, k2⟩ : ∃ k : Nat, 1 + a1 % 8 = (k : Int) ∧ 1 ≤ k ∧ k ≤ 8 := ⟨(1 + a1 % 8).toNat, by omega, by omega, by omega⟩
  obtain ⟨m, hm, m1, m2⟩ : ∃ m : Nat, 1 + a2 % 4 = (m : Int) ∧ 1 ≤ m ∧ m ≤ 4 := ⟨(1 + a2 % 4).toNat, by omega, by omega, by omega⟩
  have SK := Lib.hid (show side k from ⟨by omega, by omega⟩)
  have SM := Lib.hid (show side m from ⟨by omega, by omega⟩)
  have HK := Lib.hid hk
  have HM := Lib.hid hm
  clear hk hm
  go_enter Try.func6, Try.ntmps6
  go_wp2_with fail
  refine (awakeV _).mono ?_
  rintro e w1 ⟨rfl, hb1⟩
  have H1 := Lib.hid hb1
  clear hb1
  go_wp2_with fail
  rw [HK.out, HM.out]
  clear HK HM
  refine (lfield9 a0 _).mono ?_
  rintro e w2 ⟨q, wd, b, rfl, hFl, hnb, hb2⟩
  have HL := Lib.hid (Live.start H1.out hFl hnb hb2)
  have HO := Lib.hid hFl.1.kind.bounds
  clear hFl hnb hb2 H1
  have C3 := Lib.hid (vsys_yes q b wd 1 m ⟨by omega, by omega⟩ SM.out (by omega) w2 HL.out.1)
  rw [show 1 + m = m + 1 by omega] at C3
  go_wp2_with fail
  refine C3.out.mono ?_
  rintro e w3 ⟨A3, c3, rfl, hc3, hx3, hf3, ht3⟩
  have HL3 := Lib.hid (HL.out.next hf3 ht3)
  have X3 := Lib.hid hx3
  clear hx3 hf3 ht3 HL hc3 C3
  go_wp2_with fail
  refine (visal_yes q b wd k m SK.out SM.out (by omega) w3 HL3.out.1).mono ?_
  rintro e w4 ⟨A4, c4, rfl, hc4, hx4, hf4, ht4⟩
  have HL4 := Lib.hid (HL3.out.next hf4 ht4)
  obtain ⟨As, Cs, r1, r2⟩ := X3.out.turned ht4
  obtain ⟨Bs, Ds, s1, s2⟩ := hx4
  obtain ⟨ad, rfl, _⟩ := r1.at_ (show 0 < m + 1 by omega)
  obtain ⟨bd, rfl, _⟩ := s1.at_ (show 0 < m by omega)
  have R1 := Lib.hid r1
  have R2 := Lib.hid r2
  have S1 := Lib.hid s1
  have S2 := Lib.hid s2
  have HS := Lib.hid (sys_first (q := q) (by have := HO.out; omega))
  clear hf4 ht4 HL3 X3 hc4 r1 r2 s1 s2
  go_wp2_with fail
  go_loop [17] (fun s17 => ∃ i : Nat, i ≤ m + 1 ∧ s17 = .int .i64 i) (fun s17 => m + 1 - (intOf s17).toNat)
  case atStart => exact ⟨0, Nat.zero_le _, rfl⟩
  case round =>
    obtain ⟨i, hi, rfl⟩ := hrel
    by_cases hlt : i < m + 1
    · have hlt' : (i : Int) < (m : Int) + 1 := by omega
      obtain ⟨ad', e', d1⟩ := R1.out.at_ hlt
      injection e' with e'
      subst e'
      simp only [slis] at d1
      obtain ⟨ae, hae, d2⟩ := (R2.out i hlt).at_ (show 0 < 1 by omega)
      rw [show ae.add 0 = ae by simp [Addr.add]] at d2
      simp only [i64s] at d2
      rw [HS.out] at d2
      rw [hae] at d1
      clear hae
      go_wp2_with fail
      exact ⟨⟨i + 1, hlt, by go_num⟩, by simp [intOf]; omega⟩
    · obtain rfl : i = m + 1 := by omega
      clear R1 R2 HS
      go_wp2_with fail
      go_loop [18] (fun s18 => ∃ i : Nat, i ≤ m ∧ s18 = .int .i64 i) (fun s18 => m - (intOf s18).toNat)
      case atStart => exact ⟨0, Nat.zero_le _, rfl⟩
      case round =>
        obtain ⟨i, hi, rfl⟩ := hrel
        by_cases hlt : i < m
        · obtain ⟨bd', e', d1⟩ := S1.out.at_ hlt
          injection e' with e'
          subst e'
          simp only [slis] at d1
          obtain ⟨ae, hae, d2⟩ := (S2.out i hlt).at_ (show 0 < k by omega)
          rw [show ae.add 0 = ae by simp [Addr.add]] at d2
          simp only [i64s] at d2
          rw [isal_first i 0 (Or.inr rfl)] at d2
          rw [hae] at d1
          have hk0 : (0 : Int) < (k : Int) := by omega
          clear hae
          go_wp2_with fail
          exact ⟨⟨i + 1, hlt, by go_num⟩, by simp [intOf]; omega⟩
        · obtain rfl : i = m := by omega
          obtain ⟨bd', e', d1⟩ := S1.out.at_ (show 0 < i by omega)
          injection e' with e'
          subst e'
          rw [show bd.add 0 = bd by simp [Addr.add]] at d1
          simp only [slis] at d1
          have hi0 : (0 : Int) < (i : Int) := by omega
          go_wp2_with fail
          go_loop [19] (fun s19 => ∃ j : Nat, j ≤ k ∧ s19 = .int .i64 j) (fun s19 => k - (intOf s19).toNat)
          case atStart => exact ⟨0, Nat.zero_le _, rfl⟩
          case round =>
            obtain ⟨j, hj, rfl⟩ := hrel
            by_cases hlt2 : j < k
            · obtain ⟨ae, hae, d2⟩ := (S2.out 0 (by omega)).at_ hlt2
              simp only [i64s] at d2
              rw [isal_first 0 j (Or.inl rfl)] at d2
              rw [hae] at d1
              clear hae
              go_wp2_with fail
              exact ⟨⟨j + 1, hlt2, by go_num⟩, by simp [intOf]; omega⟩
            · obtain rfl : j = k := by omega
              go_wp2_with fail
              go_ret
              exact ⟨rfl, HL4.out.2.1⟩

set_option maxRecDepth 100000 in
theorem lifted (os : Os) (started : os.Started) (H : Type) (enc : TypeId × Value → H) :
    ReturnsInHanded {} Try.checked os 6 .any (Rows.vanderFirstSpec.pre6 enc Try.prog Try.f6 Rows.vanderFirstRow.domain false) (Rows.vanderFirstSpec.post enc Try.prog Try.f6 false true false false) := by
  refine returnsInHanded_of_change (C := Try.checked) own started (by kernel_rfl) Try.func6
    (ChangeSpec.witness6 (enc := enc) (C := Try.checked) false ⟨#[], #[.bool false, .int .u8 0, .int .u8 0], []⟩ 8 (by kernel_rfl) (by kernel_rfl) (by kernel_rfl) (by kernel_rfl)) ?_
  intro W base args ds gs before hval0 hW hcnd _
  have hval : ∀ (j : Nat) t v, Try.f6.params[j]? = some t → args[j]? = some v → Value.okWide Try.prog W .any base t v := hval0
  have hW' := hW
  obtain ⟨p, q, hA0, hV, rfl, hfz, hnd⟩ := hW
  have hA : DataW.TrodAll enc Try.prog W 0 (fun _ => true) true Try.f6.params.toList args.toList ds p := hA0
  rw [Try.params6] at hA hval
  obtain ⟨v0, vs0, d0, ds0, p0, q0, hargs, rfl, rfl, h0, r0⟩ := trodAll_cons hA
  obtain ⟨v1, vs1, d1, ds1, p1, q1, rfl, rfl, rfl, h1, r1⟩ := trodAll_cons r0
  obtain ⟨v2, vs2, d2, ds2, p2, q2, rfl, rfl, rfl, h2, r2⟩ := trodAll_cons r1
  obtain ⟨rfl, rfl, rfl⟩ := trodAll_nil r2
  obtain rfl : args = #[v0, v1, v2] := by cases args; simp_all
  obtain ⟨rfl, rfl⟩ := trodVars_none hV
  obtain ⟨a0, rfl, rfl, rfl⟩ := open_bool Try.underlying4 (hval 0 4 v0 rfl rfl) h0
  obtain ⟨a1, rfl, rfl, rfl, w1⟩ := open_int Try.underlying5 (hval 1 5 v1 rfl rfl) h1
  obtain ⟨a2, rfl, rfl, rfl, w2⟩ := open_int Try.underlying5 (hval 2 5 v2 rfl rfl) h2
  clear hA0 hval0
  refine (walk a0 a1 a2 W (bounds_u8 w1) (bounds_u8 w2)).mono fun e W' ⟨he, bel⟩ => ?_
  subst he
  exact ⟨_, rfl, _, _, _, [], _, [], hW', trodAll_mk1 (shut_bool Try.underlying4 _), (trodAll_cons_mk (shut_bool Try.underlying4 _) (trodAll_cons_mk (shut_int Try.underlying5 w1) (trodAll_cons_mk (shut_int Try.underlying5 w2) trodAll_mk0))), rfl, bel.frame _, fun h => by cases h⟩

theorem over : Rows.vanderFirstRow.holds Try.pinned (OpenSpec.ofChange Rows.vanderFirstSpec) :=
  OpenClaim.holds_of_wide 6 Try.f6 rfl rfl rfl rfl rfl rfl rfl ⟨rfl, rfl, rfl, rfl, rfl⟩ rfl rfl rfl rfl rfl (by kernel_rfl) Try.func6 (by kernel_rfl)
    (of_decide_eq_true (by kernel_rfl)) (by unfold Func.isWrapper; first | (rw [if_pos (by decide +kernel)]; kernel_rfl) | (rw [if_neg (by decide +kernel)]; exact ⟨rfl, rfl⟩))
    (fun os started H enc _ => lifted os started H enc)

theorem proved : Rows.VanderFirstSaid := over
end Go.Proofs.Ytmpamgnbbomoaaa.vanderFirst
