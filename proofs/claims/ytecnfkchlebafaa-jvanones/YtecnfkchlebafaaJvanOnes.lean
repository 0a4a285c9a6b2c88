/- Proved: for every bool and every two uint8 the law JvanOnes answers true (the first parity row is 1 everywhere, and so is the first column; no number is 0), and its arguments read as they did. No conditions. -/
import Derived.Test.YtecnfkchlebafaaRows
import Derived.Test.YtecnfkchlebafaaJve
import Derived.Test.YtecnfkchlebafaaMto
import Derived.Test.YtecnfkchlebafaaArr
import Derived.Deep.RegionHeld3
import Derived.WalkKit
import Derived.ProofKit
import Derived.OpenShut
import Derived.ShutString
import Derived.ChangeOld
import Derived.Below
namespace Go.Proofs.Ytecnfkchlebafaa.jvanOnes
open Go.ChangeShapes Go.WideShapes Go.ChangeAt Go.RowKit
set_option linter.unusedVariables false

theorem own : ownKnob Try.prog.godebug = none := by kernel_rfl
theorem laidOut : laidOutB Try.prog = true := by kernel_rfl

theorem par_ones {q : FP} {k m : Nat} (hm : 1 ≤ m) (hN : ((k + m : Nat) : Int) ≤ M.ord q.p) {i j : Nat} (hi : i < m) (hj : j < k) : ivs (parE q k (k + m)) i j ≠ 0 ∧ ((i = 0 ∨ j = 0) → ivs (parE q k (k + m)) i j = 1) := by
  have hG : ∀ i, i < m → ∀ j, j < k → jG q k (k + m) i j ≠ 0 := fun i hi j hj => sysJ_ne hN (by omega) (by omega) hj
  have h0 := hG 0 (by omega) 0 (by omega)
  refine ⟨fun h => ?_, fun h => ?_⟩
  · have h1 := row_ne (hG i hi j hj) (hG 0 (by omega) j hj) (hG i hi 0 (by omega)) h0
    unfold ivs at h
    exact h1 (El.eq_zero.2 (show (parE q k (k + m) i j).val = 0 by omega))
  · have h1 : parE q k (k + m) i j = 1 := by
      rcases h with rfl | rfl
      · exact (row_same h0).trans (col_first (hG 0 (by omega) j hj))
      · exact row_first (hG i hi 0 (by omega)) h0
    unfold ivs
    rw [h1]
    rfl

set_option maxRecDepth 100000 in
set_option maxHeartbeats 4000000 in
theorem walk (a0 : Bool) (a1 a2 : Int) (w : World) (w1 : 0 ≤ a1 ∧ a1 ≤ 255) (w2 : 0 ≤ a2 ∧ a2 ≤ 255) :
    Calls Try.prog 4 #[.bool a0, .int .u8 a1, .int .u8 a2] w fun e w' => e = .returned (.bool true) ∧ Below w.heap.size w w' := by
  obtain ⟨a10, a11⟩ := w1
  obtain ⟨a20, a21⟩ := w2
  obtain ⟨k, hk, k1, k2⟩ : ∃ k : Nat, 1 + a1 % 8 = (k : Int) ∧ 1 ≤ k ∧ k ≤ 8 := ⟨(1 + a1 % 8).toNat, by omega, by omega, by omega⟩
  obtain ⟨m, hm, m1, m2⟩ : ∃ m : Nat, 1 + a2 % 4 = (m : Int) ∧ 1 ≤ m ∧ m ≤ 4 := ⟨(1 + a2 % 4).toNat, by omega, by omega, by omega⟩
  have SK := Lib.hid (show side k from ⟨by omega, by omega⟩)
  have SM := Lib.hid (show side m from ⟨by omega, by omega⟩)
  have HK := Lib.hid hk
  have HM := Lib.hid hm
  clear hk hm
  go_enter Try.func4, Try.ntmps4
  go_wp2_with fail
  refine (awakeJ _).mono ?_
  rintro e w1 ⟨rfl, hb1⟩
  have H1 := Lib.hid hb1
  clear hb1
  go_wp2_with fail
  rw [HK.out, HM.out]
  clear HK HM
  refine (jfield9 a0 _).mono ?_
  rintro e w2 ⟨q, wd, b, rfl, hFl, hnb, hb2⟩
  have HL := Lib.hid (Live.start H1.out hFl hnb hb2)
  have HO := Lib.hid hFl.1.kind.bounds
  clear hFl hnb hb2 H1
  go_wp2_with fail
  refine (jpar_yes q b wd k m SK.out SM.out (by omega) _ HL.out.1).mono ?_
  rintro e w3 ⟨A3, c3, rfl, hc3, hx3, hf3, ht3⟩
  have HE := Lib.hid (HL.out.next hf3 ht3).2.1
  have HP := Lib.hid (show ∀ i, i < m → ∀ j, j < k → ivs (parE q k (k + m)) i j ≠ 0 ∧ ((i = 0 ∨ j = 0) → ivs (parE q k (k + m)) i j = 1) from fun i hi j hj => par_ones m1 (by have := HO.out; omega) hi hj)
  obtain ⟨F, hF⟩ : ∃ F, ivs (parE q k (k + m)) = F := ⟨_, rfl⟩
  rw [hF] at hx3 HP
  obtain ⟨As, Cs, hr1, hr2⟩ := hx3
  have HR1 := Lib.hid hr1
  have HR2 := Lib.hid hr2
  clear hf3 ht3 HL HO hF hr1 hr2 a10 a11 a20 a21
  go_wp2_with fail
  go_loop [15] (fun s15 => ∃ i : Nat, i ≤ m ∧ s15 = .int .i64 i) (fun s15 => m - (intOf s15).toNat)
  case atStart => exact ⟨0, Nat.zero_le _, rfl⟩
  case round =>
    obtain ⟨i, hi, rfl⟩ := hrel
    by_cases hlt : i < m
    · obtain ⟨ad, rfl, d1⟩ := HR1.out.at_ hlt
      obtain ⟨ad', e', _⟩ := (HR2.out i hlt).at_ (show 0 < k by omega)
      simp only [slis] at d1
      rw [e'] at d1
      have HRO := Lib.hid (HR2.out i hlt)
      rw [e'] at HRO
      clear e'
      go_wp2_with fail
      go_loop [16] (fun s16 => ∃ j : Nat, j ≤ k ∧ s16 = .int .i64 j) (fun s16 => k - (intOf s16).toNat)
      case atStart => exact ⟨0, Nat.zero_le _, rfl⟩
      case round =>
        obtain ⟨j, hj, rfl⟩ := hrel
        by_cases hlt2 : j < k
        · obtain ⟨ad2, e2, d2⟩ := HRO.out.at_ hlt2
          injection e2 with e2
          subst e2
          obtain ⟨P0, P1⟩ := HP.out i hlt j hlt2
          obtain ⟨x, hx⟩ : ∃ x, F i j = x := ⟨_, rfl⟩
          simp only [i64s] at d2
          rw [hx] at d2 P0 P1
          have x0 : (x == 0) = false := by simpa using P0
          clear hx P0
          by_cases hi0 : i = 0
          · have x1 : (x != 1) = false := by simp [P1 (Or.inl hi0)]
            have i0 : ((i : Int) == 0) = true := by simp; omega
            clear P1 hi0
            go_wp2_with fail
            exact ⟨⟨j + 1, hlt2, by go_num⟩, by simp [intOf]; omega⟩
          · have i0 : ((i : Int) == 0) = false := by simp; omega
            by_cases hj0 : j = 0
            · have x1 : (x != 1) = false := by simp [P1 (Or.inr hj0)]
              have j0 : ((j : Int) == 0) = true := by simp; omega
              clear P1 hi0 hj0
              go_wp2_with fail
              exact ⟨⟨j + 1, hlt2, by go_num⟩, by simp [intOf]; omega⟩
            · have j0 : ((j : Int) == 0) = false := by simp; omega
              clear P1 hi0 hj0
              go_wp2_with fail
              exact ⟨⟨j + 1, hlt2, by go_num⟩, by simp [intOf]; omega⟩
        · obtain rfl : j = k := by omega
          go_wp2_with fail
          exact ⟨⟨i + 1, hlt, by go_num⟩, by simp [intOf]; omega⟩
    · obtain rfl : i = m := by omega
      go_wp2_with fail
      go_ret
      exact ⟨rfl, HE.out⟩

set_option maxRecDepth 100000 in
theorem lifted (os : Os) (started : os.Started) (H : Type) (enc : TypeId × Value → H) :
    ReturnsInHanded {} Try.checked os 4 .any (Rows.jvanOnesSpec.pre6 enc Try.prog Try.f4 Rows.jvanOnesRow.domain false) (Rows.jvanOnesSpec.post enc Try.prog Try.f4 false true false false) := by
  refine returnsInHanded_of_change (C := Try.checked) own started (by kernel_rfl) Try.func4
    (ChangeSpec.witness6 (enc := enc) (C := Try.checked) false ⟨#[], #[.bool false, .int .u8 0, .int .u8 0], []⟩ 8 (by kernel_rfl) (by kernel_rfl) (by kernel_rfl) (by kernel_rfl)) ?_
  intro W base args ds gs before hval0 hW hcnd _
  have hval : ∀ (j : Nat) t v, Try.f4.params[j]? = some t → args[j]? = some v → Value.okWide Try.prog W .any base t v := hval0
  have hW' := hW
  obtain ⟨p, q, hA0, hV, rfl, hfz, hnd⟩ := hW
  have hA : DataW.TrodAll enc Try.prog W 0 (fun _ => true) true Try.f4.params.toList args.toList ds p := hA0
  rw [Try.params4] at hA hval
  obtain ⟨v0, vs0, d0, ds0, p0, q0, hargs, rfl, rfl, h0, r0⟩ := trodAll_cons hA
  obtain ⟨v1, vs1, d1, ds1, p1, q1, rfl, rfl, rfl, h1, r1⟩ := trodAll_cons r0
  obtain ⟨v2, vs2, d2, ds2, p2, q2, rfl, rfl, rfl, h2, r2⟩ := trodAll_cons r1
  obtain ⟨rfl, rfl, rfl⟩ := trodAll_nil r2
  obtain rfl : args = #[v0, v1, v2] := by cases args; simp_all
  obtain ⟨rfl, rfl⟩ := trodVars_none hV
  obtain ⟨a0, rfl, rfl, rfl⟩ := open_bool Try.underlying4 (hval 0 4 v0 rfl rfl) h0
  obtain ⟨a1, rfl, rfl, rfl, w1⟩ := open_int Try.underlying5 (hval 1 5 v1 rfl rfl) h1
  obtain ⟨a2, rfl, rfl, rfl, w2⟩ := open_int Try.underlying5 (hval 2 5 v2 rfl rfl) h2
  clear hA0 hval0
  refine (walk a0 a1 a2 W (bounds_u8 w1) (bounds_u8 w2)).mono fun e W' ⟨he, bel⟩ => ?_
  subst he
  exact ⟨_, rfl, _, _, _, [], _, [], hW', trodAll_mk1 (shut_bool Try.underlying4 _), (trodAll_cons_mk (shut_bool Try.underlying4 _) (trodAll_cons_mk (shut_int Try.underlying5 w1) (trodAll_cons_mk (shut_int Try.underlying5 w2) trodAll_mk0))), rfl, bel.frame _, fun h => by cases h⟩

theorem over : Rows.jvanOnesRow.holds Try.pinned (OpenSpec.ofChange Rows.jvanOnesSpec) :=
  OpenClaim.holds_of_wide 4 Try.f4 rfl rfl rfl rfl rfl rfl rfl ⟨rfl, rfl, rfl, rfl, rfl⟩ rfl rfl rfl rfl rfl (by kernel_rfl) Try.func4 (by kernel_rfl)
    (of_decide_eq_true (by kernel_rfl)) (by unfold Func.isWrapper; first | (rw [if_pos (by decide +kernel)]; kernel_rfl) | (rw [if_neg (by decide +kernel)]; exact ⟨rfl, rfl⟩))
    (fun os started H enc _ => lifted os started H enc)

theorem proved : Rows.JvanOnesSaid := over
end Go.Proofs.Ytecnfkchlebafaa.jvanOnes
