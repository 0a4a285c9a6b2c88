/- CauchyOthers: of as many data and parity shards as there may be: Jerasure's rows of inverses, ISA-L's, Jerasure's Vandermonde rows and those of System behind the identity are safe; for every field choice, no condition. -/
import Derived.Test.YtgcochamjicjiaaGreatRows
import Derived.Test.YtgcochamjicjiaaGreatCyh
import Derived.Test.YtgcochamjicjiaaGreatJvd
import Derived.Test.YtgcochamjicjiaaGreatArr
import Derived.Deep.RegionHeld3
import Derived.WalkKit
import Derived.ProofKit
import Derived.OpenShut
import Derived.ShutString
import Derived.ChangeOld
import Derived.Below
namespace Go.Proofs.YtgcochamjicjiaaGreat.cauchyOthers
open Go.ChangeShapes Go.WideShapes Go.ChangeAt Go.RowKit
set_option linter.unusedVariables false

theorem own : ownKnob Tryz.prog.godebug = none := by kernel_rfl
theorem laidOut : laidOutB Tryz.prog = true := by kernel_rfl

/-- rows of inverses are rows of the field's numbers -/
theorem of_safe {q : FP} {n m : Nat} {lx ly : Nat → Int} (h : ofP (M.ord q.p) n m lx ly) : SafeP q m n (elM q (ivs (ofE q lx ly))) := by
  rw [elM_ivs]
  exact cau_safe (fun i j hi hj e => h.xx i j hi hj (toEl_inj (h.x hi) (h.x hj) e)) (fun i j hi hj e => h.yy i j hi hj (toEl_inj (h.y hi) (h.y hj) e)) (fun i j hi hj e => h.xy i j hi hj (toEl_inj (h.x hi) (h.y hj) e))

set_option maxRecDepth 100000 in
set_option maxHeartbeats 8000000 in
theorem walk (a0 : Bool) (a1 a2 : Int) (w : World) (w1 : 0 ≤ a1 ∧ a1 ≤ 255) (w2 : 0 ≤ a2 ∧ a2 ≤ 255) :
    Calls Tryz.prog 4 #[.bool a0, .int .u8 a1, .int .u8 a2] w fun e w' => e = .returned (.bool true) ∧ Below w.heap.size w w' := by
  obtain ⟨a10, a11⟩ := w1
  obtain ⟨a20, a21⟩ := w2
  obtain ⟨k, hk, k1, k2⟩ : ∃ k : Nat, 1 + a1 % 8 = (k : Int) ∧ 1 ≤ k ∧ k ≤ 8 := ⟨(1 + a1 % 8).toNat, by omega, by omega, by omega⟩
  obtain ⟨m, hm, m1, m2⟩ : ∃ m : Nat, 1 + a2 % 4 = (m : Int) ∧ 1 ≤ m ∧ m ≤ 4 := ⟨(1 + a2 % 4).toNat, by omega, by omega, by omega⟩
  have SK := Lib.hid (show side k from ⟨by omega, by omega⟩)
  have SM := Lib.hid (show side m from ⟨by omega, by omega⟩)
  have HK := Lib.hid hk
  have HM := Lib.hid hm
  clear hk hm
  go_enter Tryz.func4, Tryz.ntmps4
  go_wp2_with fail
  refine (awakeC _).mono ?_
  rintro e w1 ⟨rfl, hb1⟩
  have H1 := Lib.hid hb1
  clear hb1
  go_wp2_with fail
  rw [HK.out, HM.out]
  clear HK HM
  refine (cfield9 a0 _).mono ?_
  rintro e w2 ⟨q, wd, b, rfl, hFl, hnb, hb2⟩
  have HL := Lib.hid (Live.start H1.out hFl hnb hb2)
  have HO := Lib.hid hFl.1.kind.bounds
  have HSP := Lib.hid (show ∀ E : Nat → Nat → El q, safeP (M.ord q.p) m (fun _ => k) (ivs E) from fun E => ⟨ivs_may _ SM.out SK.out, by omega, k2⟩)
  have S1 := Lib.hid (of_safe (q := q) (n := m) (m := k) (lx := frm 0) (ly := frm m) ⟨SM.out, SK.out, frm_apart (by have := HO.out; omega)⟩)
  have S2 := Lib.hid (of_safe (q := q) (n := m) (m := k) (lx := frm k) (ly := frm 0) ⟨SM.out, SK.out, frm_apart' (by have := HO.out; omega)⟩)
  have S3 := Lib.hid (show SafeP q k m (elM q (ivs (parE q k (k + m)))) from by rw [elM_ivs]; exact par_safe m1 (by have := HO.out; omega))
  have S4 := Lib.hid (show SafeP q k m (elM q (ivs (fun i j => sysE q k (k + i) j))) from by rw [elM_ivs]; exact sys_safe (by have := HO.out; omega))
  clear hFl hnb hb2 H1 a10 a11 a20 a21
  go_wp2_with fail
  refine (orig_yes q b wd k m k1 m1 (by omega) _ HL.out.1).mono ?_
  rintro e w3 ⟨A3, c3, rfl, _, hx3, hf3, ht3⟩
  have HL3 := Lib.hid (HL.out.next hf3 ht3)
  have X3 := Lib.hid (show Mx b w3 (ivs (ofE q (frm 0) (frm m))) (fun _ => k) A3 m from hx3)
  simp only [cond]
  clear hx3 hf3 ht3 HL
  go_wp2_with fail
  refine (cisal_yes q b wd k m k1 m1 (by omega) _ HL3.out.1).mono ?_
  rintro e w4 ⟨A4, c4, rfl, _, hx4, hf4, ht4⟩
  have HL4 := Lib.hid (HL3.out.next hf4 ht4)
  have X4 := Lib.hid (X3.out.turned ht4)
  have Y4 := Lib.hid (show Mx b w4 (ivs (ofE q (frm k) (frm 0))) (fun _ => k) A4 m from hx4)
  simp only [cond]
  clear hx4 hf4 ht4 HL3 X3
  go_wp2_with fail
  refine (jpar_yes q b wd k m SK.out SM.out (by omega) _ HL4.out.1).mono ?_
  rintro e w5 ⟨A5, c5, rfl, _, hx5, hf5, ht5⟩
  have HL5 := Lib.hid (HL4.out.next hf5 ht5)
  have X5 := Lib.hid (X4.out.turned ht5)
  have Y5 := Lib.hid (Y4.out.turned ht5)
  have Z5 := Lib.hid hx5
  clear hx5 hf5 ht5 HL4 X4 Y4
  go_wp2_with fail
  refine (vsys_yes q b wd k m SK.out SM.out (by omega) _ HL5.out.1).mono ?_
  rintro e w6 ⟨A6, c6, rfl, hc6, hx6, hf6, ht6⟩
  have HL6 := Lib.hid (HL5.out.next hf6 ht6)
  have X6 := Lib.hid (X5.out.turned ht6)
  have Y6 := Lib.hid (Y5.out.turned ht6)
  have Z6 := Lib.hid (Z5.out.turned ht6)
  have hfr := run_fromM A6 (k + m) c6 k (by omega)
  have hat := run_atM A6 (k + m) c6 k (by omega)
  have HC := Lib.hid (hx6.cut (k := k) (cap := c6) (by omega) hc6)
  obtain ⟨A', hA'⟩ : ∃ A', (if c6 = k then A6 else A6.map (·.add k)) = A' := ⟨_, rfl⟩
  rw [hA'] at hfr HC
  simp only [hA'] at hat
  have hNk : k + m - k = m := by omega
  rw [hNk] at hfr HC
  simp only [hNk] at hat
  have U6 := Lib.hid (show Mx b w6 (ivs (fun i j => sysE q k (k + i) j)) (fun _ => k) A' m from HC.out)
  have hkc : (k : Int) ≤ ((k + m : Nat) : Int) := by omega
  clear hx6 hf6 ht6 HL5 X5 Y5 Z5 HC hA' hNk
  go_wp2_with fail
  refine (safe_any q b wd m (fun _ => k) (ivs (ofE q (frm 0) (frm m))) A3 c3 _ HL6.out.1 X6.out).mono ?_
  rintro e w7 ⟨s, t, rfl, hs, ht, hf7, ht7⟩
  obtain rfl : s = true := hs.2 (HSP.out _)
  obtain rfl : t = true := ht.2 ⟨rfl, S1.out⟩
  have HL7 := Lib.hid (HL6.out.next hf7 ht7)
  have Y7 := Lib.hid (Y6.out.turned ht7)
  have Z7 := Lib.hid (Z6.out.turned ht7)
  have U7 := Lib.hid (U6.out.turned ht7)
  simp only [errOf, if_true]
  clear hs ht hf7 ht7 HL6 X6 Y6 Z6 U6
  go_wp2_with fail
  refine (safe_any q b wd m (fun _ => k) (ivs (ofE q (frm k) (frm 0))) A4 c4 _ HL7.out.1 Y7.out).mono ?_
  rintro e w8 ⟨s, t, rfl, hs, ht, hf8, ht8⟩
  obtain rfl : s = true := hs.2 (HSP.out _)
  obtain rfl : t = true := ht.2 ⟨rfl, S2.out⟩
  have HL8 := Lib.hid (HL7.out.next hf8 ht8)
  have Z8 := Lib.hid (Z7.out.turned ht8)
  have U8 := Lib.hid (U7.out.turned ht8)
  simp only [errOf, if_true]
  clear hs ht hf8 ht8 HL7 Y7 Z7 U7
  go_wp2_with fail
  refine (safe_any q b wd m (fun _ => k) (ivs (parE q k (k + m))) A5 c5 _ HL8.out.1 Z8.out).mono ?_
  rintro e w9 ⟨s, t, rfl, hs, ht, hf9, ht9⟩
  obtain rfl : s = true := hs.2 (HSP.out _)
  obtain rfl : t = true := ht.2 ⟨rfl, S3.out⟩
  have HL9 := Lib.hid (HL8.out.next hf9 ht9)
  have U9 := Lib.hid (U8.out.turned ht9)
  simp only [errOf, if_true]
  clear hs ht hf9 ht9 HL8 Z8 U8
  go_wp2_with fail
  refine (safe_any q b wd m (fun _ => k) (ivs (fun i j => sysE q k (k + i) j)) A' (c6 - k) _ HL9.out.1 U9.out).mono ?_
  rintro e w10 ⟨s, t, rfl, hs, ht, hf10, ht10⟩
  obtain rfl : s = true := hs.2 (HSP.out _)
  obtain rfl : t = true := ht.2 ⟨rfl, S4.out⟩
  have HE := Lib.hid (HL9.out.next hf10 ht10).2.1
  simp only [errOf, if_true]
  clear hs ht hf10 ht10 HL9 U9 hfr hat
  go_wp2_with fail
  go_ret
  exact ⟨rfl, HE.out⟩

set_option maxRecDepth 100000 in
theorem lifted (os : Os) (started : os.Started) (H : Type) (enc : TypeId × Value → H) :
    ReturnsInHanded {} Tryz.checked os 4 .any (Rows.cauchyOthersSpec.pre6 enc Tryz.prog Tryz.f4 Rows.cauchyOthersRow.domain false) (Rows.cauchyOthersSpec.post enc Tryz.prog Tryz.f4 false true false false) := by
  refine returnsInHanded_of_change (C := Tryz.checked) own started (by kernel_rfl) Tryz.func4
    (ChangeSpec.witness6 (enc := enc) (C := Tryz.checked) false ⟨#[], #[.bool false, .int .u8 0, .int .u8 0], []⟩ 8 (by kernel_rfl) (by kernel_rfl) (by kernel_rfl) (by kernel_rfl)) ?_
  intro W base args ds gs before hval0 hW hcnd _
  have hval : ∀ (j : Nat) t v, Tryz.f4.params[j]? = some t → args[j]? = some v → Value.okWide Tryz.prog W .any base t v := hval0
  have hW' := hW
  obtain ⟨p, q, hA0, hV, rfl, hfz, hnd⟩ := hW
  have hA : DataW.TrodAll enc Tryz.prog W 0 (fun _ => true) true Tryz.f4.params.toList args.toList ds p := hA0
  rw [Tryz.params4] at hA hval
  obtain ⟨v0, vs0, d0, ds0, p0, q0, hargs, rfl, rfl, h0, r0⟩ := trodAll_cons hA
  obtain ⟨v1, vs1, d1, ds1, p1, q1, rfl, rfl, rfl, h1, r1⟩ := trodAll_cons r0
  obtain ⟨v2, vs2, d2, ds2, p2, q2, rfl, rfl, rfl, h2, r2⟩ := trodAll_cons r1
  obtain ⟨rfl, rfl, rfl⟩ := trodAll_nil r2
  obtain rfl : args = #[v0, v1, v2] := by cases args; simp_all
  obtain ⟨rfl, rfl⟩ := trodVars_none hV
  obtain ⟨a0, rfl, rfl, rfl⟩ := open_bool Tryz.underlying4 (hval 0 4 v0 rfl rfl) h0
  obtain ⟨a1, rfl, rfl, rfl, w1⟩ := open_int Tryz.underlying5 (hval 1 5 v1 rfl rfl) h1
  obtain ⟨a2, rfl, rfl, rfl, w2⟩ := open_int Tryz.underlying5 (hval 2 5 v2 rfl rfl) h2
  clear hA0 hval0
  refine (walk a0 a1 a2 W (bounds_u8 w1) (bounds_u8 w2)).mono fun e W' ⟨he, bel⟩ => ?_
  subst he
  exact ⟨_, rfl, _, _, _, [], _, [], hW', trodAll_mk1 (shut_bool Tryz.underlying4 _), (trodAll_cons_mk (shut_bool Tryz.underlying4 _) (trodAll_cons_mk (shut_int Tryz.underlying5 w1) (trodAll_cons_mk (shut_int Tryz.underlying5 w2) trodAll_mk0))), rfl, bel.frame _, fun h => by cases h⟩

theorem over : Rows.cauchyOthersRow.holds Tryz.pinned (OpenSpec.ofChange Rows.cauchyOthersSpec) :=
  OpenClaim.holds_of_wide 4 Tryz.f4 rfl rfl rfl rfl rfl rfl rfl ⟨rfl, rfl, rfl, rfl, rfl⟩ rfl rfl rfl rfl rfl (by kernel_rfl) Tryz.func4 (by kernel_rfl)
    (of_decide_eq_true (by kernel_rfl)) (by unfold Func.isWrapper; first | (rw [if_pos (by decide +kernel)]; kernel_rfl) | (rw [if_neg (by decide +kernel)]; exact ⟨rfl, rfl⟩))
    (fun os started H enc _ => lifted os started H enc)

theorem proved : Rows.CauchyOthersSaid := over
end Go.Proofs.YtgcochamjicjiaaGreat.cauchyOthers
