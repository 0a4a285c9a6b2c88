/- Proved: for every bool and every two uint8 the law VanderRows answers true (with a row more the others stay: of powers, of those with the identity ahead, and of those of ISA-L), and its arguments read as they did. No conditions. -/
import Derived.Test.YtmpamgnbbomoaaaRows
import Derived.Test.YtmpamgnbbomoaaaVdd
import Derived.Test.YtmpamgnbbomoaaaMto
import Derived.Test.YtmpamgnbbomoaaaArr
import Derived.Deep.RegionHeld3
import Derived.WalkKit
import Derived.ProofKit
import Derived.OpenShut
import Derived.ShutString
import Derived.ChangeOld
import Derived.Below
namespace Go.Proofs.Ytmpamgnbbomoaaa.vanderRows
open Go.ChangeShapes Go.WideShapes Go.ChangeAt Go.RowKit
set_option linter.unusedVariables false

theorem own : ownKnob Try.prog.godebug = none := by kernel_rfl
theorem laidOut : laidOutB Try.prog = true := by kernel_rfl

set_option maxRecDepth 100000 in
set_option maxHeartbeats 4000000 in
theorem walk (a0 : Bool) (a1 a2 : Int) (w : World) (w1 : 0 ≤ a1 ∧ a1 ≤ 255) (w2 : 0 ≤ a2 ∧ a2 ≤ 255) :
    Calls Try.prog 5 #[.bool a0, .int .u8 a1, .int .u8 a2] w fun e w' => e = .returned (.bool true) ∧ Below w.heap.size w w' := by
  obtain ⟨a10, a11⟩ := w1
  obtain ⟨a20, a21⟩ := w2
  obtain ⟨k, hk, k1, k2⟩ : ∃ k : Nat, 1 + a1 % 8 = (k : Int) ∧ 1 ≤ k ∧ k ≤ 8 := ⟨(1 + a1 % 8).toNat, by omega, by omega, by omega⟩
  obtain ⟨m, hm, m1, m2⟩ : ∃ m : Nat, 1 + a2 % 4 = (m : Int) ∧ 1 ≤ m ∧ m ≤ 4 := ⟨(1 + a2 % 4).toNat, by omega, by omega, by omega⟩
  obtain ⟨N, hN, hNe⟩ : ∃ N : Nat, (k : Int) + (m : Int) = (N : Int) ∧ N = k + m := ⟨k + m, by omega, rfl⟩
  have SK := Lib.hid (show side k from ⟨by omega, by omega⟩)
  have SM := Lib.hid (show side m from ⟨by omega, by omega⟩)
  have SM1 := Lib.hid (show side (m + 1) from ⟨by omega, by omega⟩)
  have SN := Lib.hid (show side N from ⟨by omega, by omega⟩)
  have SN1 := Lib.hid (show side (N + 1) from ⟨by omega, by omega⟩)
  have HK := Lib.hid hk
  have HM := Lib.hid hm
  have HNE := Lib.hid hNe
  have hNb : N ≤ 12 := by omega
  clear hk hm hNe
  go_enter Try.func5, Try.ntmps5
  go_wp2_with fail
  refine (awakeV _).mono ?_
  rintro e w1 ⟨rfl, hb1⟩
  have H1 := Lib.hid hb1
  clear hb1
  go_wp2_with fail
  rw [HK.out, HM.out]
  clear HK HM
  refine (lfield9 a0 _).mono ?_
  rintro e w2 ⟨q, wd, b, rfl, hFl, hnb, hb2⟩
  have HL := Lib.hid (Live.start H1.out hFl hnb hb2)
  clear hFl hnb hb2 H1
  go_wp2_with fail
  refine (vraw_yes q b wd N k SN.out SK.out _ HL.out.1).mono ?_
  rintro e w3 ⟨A3, c3, rfl, hc3, hx3, hf3, ht3⟩
  have HL3 := Lib.hid (HL.out.next hf3 ht3)
  have X3 := Lib.hid hx3
  clear hx3 hf3 ht3 HL
  go_wp2_with fail
  have C4 := Lib.hid (vraw_yes q b wd (N + 1) k SN1.out SK.out w3 HL3.out.1)
  rw [show (((N + 1 : Nat) : Int)) = (N : Int) + 1 by omega] at C4
  refine C4.out.mono ?_
  rintro e w4 ⟨A4, c4, rfl, hc4, hx4, hf4, ht4⟩
  have HL4 := Lib.hid (HL3.out.next hf4 ht4)
  have X4 := Lib.hid (X3.out.turned ht4)
  have Y4 := Lib.hid (hx4.take (show N ≤ N + 1 by omega))
  clear hx4 hf4 ht4 HL3 X3 C4
  have C5 := Lib.hid (vsys_yes q b wd k m SK.out SM.out (by have := HNE.out; omega) w4 HL4.out.1)
  rw [← HNE.out] at C5
  go_wp2_with fail
  refine C5.out.mono ?_
  rintro e w5 ⟨A5, c5, rfl, hc5, hx5, hf5, ht5⟩
  have HL5 := Lib.hid (HL4.out.next hf5 ht5)
  have X5 := Lib.hid (X4.out.turned ht5)
  have Y5 := Lib.hid (Y4.out.turned ht5)
  have Z5 := Lib.hid hx5
  clear hx5 hf5 ht5 HL4 X4 Y4 C5
  have C6 := Lib.hid (vsys_yes q b wd k (m + 1) SK.out SM1.out (by have := HNE.out; omega) w5 HL5.out.1)
  rw [show (((m + 1 : Nat) : Int)) = (m : Int) + 1 by omega, show k + (m + 1) = N + 1 by have := HNE.out; omega] at C6
  go_wp2_with fail
  refine C6.out.mono ?_
  rintro e w6 ⟨A6, c6, rfl, hc6, hx6, hf6, ht6⟩
  have HL6 := Lib.hid (HL5.out.next hf6 ht6)
  have X6 := Lib.hid (X5.out.turned ht6)
  have Y6 := Lib.hid (Y5.out.turned ht6)
  have Z6 := Lib.hid (Z5.out.turned ht6)
  have U6 := Lib.hid (hx6.take (show N ≤ N + 1 by omega))
  clear hx6 hf6 ht6 HL5 X5 Y5 Z5 C6
  go_wp2_with fail
  refine (visal_yes q b wd k m SK.out SM.out (by have := HNE.out; omega) w6 HL6.out.1).mono ?_
  rintro e w7 ⟨A7, c7, rfl, hc7, hx7, hf7, ht7⟩
  have HL7 := Lib.hid (HL6.out.next hf7 ht7)
  have X7 := Lib.hid (X6.out.turned ht7)
  have Y7 := Lib.hid (Y6.out.turned ht7)
  have Z7 := Lib.hid (Z6.out.turned ht7)
  have U7 := Lib.hid (U6.out.turned ht7)
  have V7 := Lib.hid hx7
  clear hx7 hf7 ht7 HL6 X6 Y6 Z6 U6
  have C8 := Lib.hid (visal_yes q b wd k (m + 1) SK.out SM1.out (by have := HNE.out; omega) w7 HL7.out.1)
  rw [show (((m + 1 : Nat) : Int)) = (m : Int) + 1 by omega] at C8
  go_wp2_with fail
  refine C8.out.mono ?_
  rintro e w8 ⟨A8, c8, rfl, hc8, hx8, hf8, ht8⟩
  have HL8 := Lib.hid (HL7.out.next hf8 ht8)
  have X8 := Lib.hid (X7.out.turned ht8)
  have Y8 := Lib.hid (Y7.out.turned ht8)
  have Z8 := Lib.hid (Z7.out.turned ht8)
  have U8 := Lib.hid (U7.out.turned ht8)
  have V8 := Lib.hid (V7.out.turned ht8)
  have T8 := Lib.hid (hx8.take (show m ≤ m + 1 by omega))
  clear hx8 hf8 ht8 HL7 X7 Y7 Z7 U7 V7 C8
  have g4 : N ≤ c4 := by omega
  have g6 : N ≤ c6 := by omega
  have g8 : m ≤ c8 := by omega
  go_wp2_with fail
  refine (same19 b b _ _ _ _ A4 A3 N c4 c3 (by omega) (fun _ _ => by omega) _ Y8.out X8.out (fun _ _ => rfl) (fun _ _ _ _ => rfl)).mono ?_
  rintro e w9 ⟨rfl, q9, rfl⟩
  go_wp2_with fail
  refine (same19 b b _ _ _ _ A6 A5 N c6 c5 (by omega) (fun _ _ => by omega) _ (U8.out.below (below_drewN' w8 q9)) (Z8.out.below (below_drewN' w8 q9)) (fun _ _ => rfl) (fun _ _ _ _ => rfl)).mono ?_
  rintro e w10 ⟨rfl, q10, rfl⟩
  have HB := Lib.hid (below_drewN' w8 (q9 + q10))
  go_wp2_with fail
  refine (same19 b b _ _ _ _ A8 A7 m c8 c7 (by omega) (fun _ _ => by omega) _ (T8.out.below HB.out) (V8.out.below HB.out) (fun _ _ => rfl) (fun _ _ _ _ => rfl)).mono ?_
  rintro e w11 ⟨rfl, q11, rfl⟩
  have HE := Lib.hid (fun n => (HL8.out.below (below_drewN' w8 n)).2.1)
  go_wp2_with fail
  go_ret
  exact ⟨rfl, HE.out _⟩

set_option maxRecDepth 100000 in
theorem lifted (os : Os) (started : os.Started) (H : Type) (enc : TypeId × Value → H) :
    ReturnsInHanded {} Try.checked os 5 .any (Rows.vanderRowsSpec.pre6 enc Try.prog Try.f5 Rows.vanderRowsRow.domain false) (Rows.vanderRowsSpec.post enc Try.prog Try.f5 false true false false) := by
  refine returnsInHanded_of_change (C := Try.checked) own started (by kernel_rfl) Try.func5
    (ChangeSpec.witness6 (enc := enc) (C := Try.checked) false ⟨#[], #[.bool false, .int .u8 0, .int .u8 0], []⟩ 8 (by kernel_rfl) (by kernel_rfl) (by kernel_rfl) (by kernel_rfl)) ?_
  intro W base args ds gs before hval0 hW hcnd _
  have hval : ∀ (j : Nat) t v, Try.f5.params[j]? = some t → args[j]? = some v → Value.okWide Try.prog W .any base t v := hval0
  have hW' := hW
  obtain ⟨p, q, hA0, hV, rfl, hfz, hnd⟩ := hW
  have hA : DataW.TrodAll enc Try.prog W 0 (fun _ => true) true Try.f5.params.toList args.toList ds p := hA0
  rw [Try.params5] at hA hval
  obtain ⟨v0, vs0, d0, ds0, p0, q0, hargs, rfl, rfl, h0, r0⟩ := trodAll_cons hA
  obtain ⟨v1, vs1, d1, ds1, p1, q1, rfl, rfl, rfl, h1, r1⟩ := trodAll_cons r0
  obtain ⟨v2, vs2, d2, ds2, p2, q2, rfl, rfl, rfl, h2, r2⟩ := trodAll_cons r1
  obtain ⟨rfl, rfl, rfl⟩ := trodAll_nil r2
  obtain rfl : args = #[v0, v1, v2] := by cases args; simp_all
  obtain ⟨rfl, rfl⟩ := trodVars_none hV
  obtain ⟨a0, rfl, rfl, rfl⟩ := open_bool Try.underlying4 (hval 0 4 v0 rfl rfl) h0
  obtain ⟨a1, rfl, rfl, rfl, w1⟩ := open_int Try.underlying5 (hval 1 5 v1 rfl rfl) h1
  obtain ⟨a2, rfl, rfl, rfl, w2⟩ := open_int Try.underlying5 (hval 2 5 v2 rfl rfl) h2
  clear hA0 hval0
  refine (walk a0 a1 a2 W (bounds_u8 w1) (bounds_u8 w2)).mono fun e W' ⟨he, bel⟩ => ?_
  subst he
  exact ⟨_, rfl, _, _, _, [], _, [], hW', trodAll_mk1 (shut_bool Try.underlying4 _), (trodAll_cons_mk (shut_bool Try.underlying4 _) (trodAll_cons_mk (shut_int Try.underlying5 w1) (trodAll_cons_mk (shut_int Try.underlying5 w2) trodAll_mk0))), rfl, bel.frame _, fun h => by cases h⟩

theorem over : Rows.vanderRowsRow.holds Try.pinned (OpenSpec.ofChange Rows.vanderRowsSpec) :=
  OpenClaim.holds_of_wide 5 Try.f5 rfl rfl rfl rfl rfl rfl rfl ⟨rfl, rfl, rfl, rfl, rfl⟩ rfl rfl rfl rfl rfl (by kernel_rfl) Try.func5 (by kernel_rfl)
    (of_decide_eq_true (by kernel_rfl)) (by unfold Func.isWrapper; first | (rw [if_pos (by decide +kernel)]; kernel_rfl) | (rw [if_neg (by decide +kernel)]; exact ⟨rfl, rfl⟩))
    (fun os started H enc _ => lifted os started H enc)

theorem proved : Rows.VanderRowsSaid := over
end Go.Proofs.Ytmpamgnbbomoaaa.vanderRows
