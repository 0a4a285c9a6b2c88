/- Proved: for every bool and every two pairs of uint8 the law JvanAny answers true (any k rows of the identity with parity behind it have an inverse), and its arguments read as they did. No conditions. -/
import Derived.Test.YtecnfkchlebafaaRows
import Derived.Test.YtecnfkchlebafaaJve
import Derived.Test.YtecnfkchlebafaaGxp
import Derived.Test.YtecnfkchlebafaaGxm
import Derived.Test.YtecnfkchlebafaaMto
import Derived.Test.YtecnfkchlebafaaArr
import Derived.Deep.RegionHeld3
import Derived.WalkKit
import Derived.ProofKit
import Derived.OpenShut
import Derived.ShutString
import Derived.ChangeOld
import Derived.Below
namespace Go.Proofs.Ytecnfkchlebafaa.jvanAny
open Go.ChangeShapes Go.WideShapes Go.ChangeAt Go.RowKit
set_option linter.unusedVariables false

theorem own : ownKnob Try.prog.godebug = none := by kernel_rfl
theorem laidOut : laidOutB Try.prog = true := by kernel_rfl

/-- the numbers of rows, as rows of the field -/
theorem join_ivs {q : FP} (k : Nat) (E : Nat → Nat → El q) : joinF k idF (ivs E) = ivs (joinE k dl E) := by
  funext r j
  unfold joinF ivs joinE
  by_cases h : r < k
  · rw [if_pos h, if_pos h]; exact idF_el (q := q) r j
  · rw [if_neg h, if_neg h]

set_option maxRecDepth 100000 in
set_option maxHeartbeats 4000000 in
theorem walk (a0 : Bool) (a1 c1 a2 c2 : Int) (w : World) (w1 : (0 ≤ a1 ∧ a1 ≤ 255) ∧ 0 ≤ c1 ∧ c1 ≤ 255) (w2 : (0 ≤ a2 ∧ a2 ≤ 255) ∧ 0 ≤ c2 ∧ c2 ≤ 255) :
    Calls Try.prog 3 #[.bool a0, .agg #[.int .u8 a1, .int .u8 c1], .agg #[.int .u8 a2, .int .u8 c2]] w fun e w' => e = .returned (.bool true) ∧ Below w.heap.size w w' := by
  obtain ⟨⟨a10, a11⟩, c10, c11⟩ := w1
  obtain ⟨⟨a20, a21⟩, c20, c21⟩ := w2
  obtain ⟨x, rfl⟩ := Int.eq_ofNat_of_zero_le a10
  obtain ⟨y, rfl⟩ := Int.eq_ofNat_of_zero_le c10
  obtain ⟨f, rfl⟩ := Int.eq_ofNat_of_zero_le a20
  obtain ⟨s, rfl⟩ := Int.eq_ofNat_of_zero_le c20
  clear a10 c10 a20 c20
  obtain ⟨k, hk, k1, k2⟩ : ∃ k : Nat, 1 + (x : Int) % 8 = (k : Int) ∧ 1 ≤ k ∧ k ≤ 8 := ⟨1 + x % 8, by omega, by omega, by omega⟩
  obtain ⟨m, hm, m1, m2⟩ : ∃ m : Nat, 1 + (y : Int) % 4 = (m : Int) ∧ 1 ≤ m ∧ m ≤ 4 := ⟨1 + y % 4, by omega, by omega, by omega⟩
  obtain ⟨N, hN, hNe⟩ : ∃ N : Nat, (k : Int) + (m : Int) = (N : Int) ∧ N = k + m := ⟨k + m, by omega, rfl⟩
  have SK := Lib.hid (show side k from ⟨by omega, by omega⟩)
  have SM := Lib.hid (show side m from ⟨by omega, by omega⟩)
  have SN := Lib.hid (show side N from ⟨by omega, by omega⟩)
  have HK := Lib.hid hk
  have HM := Lib.hid hm
  have HNE := Lib.hid hNe
  have hNb : N ≤ 12 := by omega
  clear hk hm hNe
  have HW := Lib.hid (show Below w.heap.size w ((w.alloc (.cells #[.int .u8 x, .int .u8 y] 22)).alloc (.cells #[.int .u8 f, .int .u8 s] 22)) from ((Below.refl _ _).alloc (Nat.le_refl _) _).alloc (by simp) _)
  have g0 : ((w.alloc (.cells #[.int .u8 x, .int .u8 y] 22)).alloc (.cells #[.int .u8 f, .int .u8 s] 22)).cell? ⟨w.heap.size, 0, none⟩ = some (.int .u8 x) := by simp
  have g1 : ((w.alloc (.cells #[.int .u8 x, .int .u8 y] 22)).alloc (.cells #[.int .u8 f, .int .u8 s] 22)).cell? ⟨w.heap.size, 1, none⟩ = some (.int .u8 y) := by simp
  have g2 : ((w.alloc (.cells #[.int .u8 x, .int .u8 y] 22)).alloc (.cells #[.int .u8 f, .int .u8 s] 22)).cell? ⟨w.heap.size + 1, 0, none⟩ = some (.int .u8 f) := by simp
  have g3 : ((w.alloc (.cells #[.int .u8 x, .int .u8 y] 22)).alloc (.cells #[.int .u8 f, .int .u8 s] 22)).cell? ⟨w.heap.size + 1, 1, none⟩ = some (.int .u8 s) := by simp
  have gz : w.heap.size + 1 < ((w.alloc (.cells #[.int .u8 x, .int .u8 y] 22)).alloc (.cells #[.int .u8 f, .int .u8 s] 22)).heap.size := by simp
  go_enter Try.func3, Try.ntmps3
  go_wp2_with fail
  generalize (w.alloc (.cells #[.int .u8 x, .int .u8 y] 22)).alloc (.cells #[.int .u8 f, .int .u8 s] 22) = v at *
  refine (awakeJ _).mono ?_
  rintro e w1 ⟨rfl, hb1⟩
  have l0 := (hb1.cell (p := ⟨w.heap.size, 0, none⟩) (show w.heap.size < v.heap.size by omega)).trans g0
  have l1 := (hb1.cell (p := ⟨w.heap.size, 1, none⟩) (show w.heap.size < v.heap.size by omega)).trans g1
  have H1 := Lib.hid hb1
  clear hb1 g0 g1
  go_wp2_with fail
  rw [HK.out, HM.out]
  clear HK HM l0 l1
  refine (jfield9 a0 _).mono ?_
  rintro e w2 ⟨q, wd, b, rfl, hFl, hnb, hb2⟩
  have hL := Live.start H1.out hFl hnb hb2
  have HL := Lib.hid hL
  have hkd := hFl.1.kind
  have HO := Lib.hid hkd.bounds
  clear hFl hnb hb2 H1 hL
  go_wp2_with fail
  refine (jpar_yes q b wd k m SK.out SM.out (by have := HNE.out; omega) _ HL.out.1).mono ?_
  rintro e w3 ⟨A3, c3, rfl, hc3, hx3, hf3, ht3⟩
  have HR := Lib.hid (par_any (q := q) (k := k) (m := m) m1 (by have := HO.out; have := HNE.out; omega) (chAt N s f) (fun i _ => by rw [← HNE.out]; exact chAt_lt (by omega) s f i) (fun i j hi hj h => chAt_inj (n := N) (by omega) (by omega) s f i j (by have := HNE.out; omega) (by have := HNE.out; omega) h))
  obtain ⟨E, hE⟩ : ∃ E, parE q k (k + m) = E := ⟨_, rfl⟩
  rw [hE] at hx3 HR
  clear hE
  have HL3 := Lib.hid (HL.out.next hf3 ht3)
  have X3 := Lib.hid hx3
  clear hx3 hf3 ht3 HL hc3
  go_wp2_with fail
  refine (ridentity26 b k (by omega) _ HL3.out.1.lt).mono ?_
  rintro e w4 ⟨v4, rfl, A4, c4, rfl, _, hx4, hb4⟩
  have HL4 := Lib.hid (HL3.out.below hb4)
  have X4 := Lib.hid (X3.out.below hb4)
  have I4 := Lib.hid hx4
  clear hx4 hb4 HL3 X3
  go_wp2_with fail
  refine (join14 b wd _ hkd idF (ivs (E)) (fun _ => k) (fun _ => k) A4 A3 k m c4 c3 _ HL4.out.1.c0 I4.out X4.out).mono ?_
  rintro e w5 ⟨t, v5, rfl, ht, hv5⟩
  obtain rfl : t = true := ht.2 ⟨idF_may HL4.out.1.1 SK.out, ivs_may _ SM.out SK.out, rfl, by have := HNE.out; omega⟩
  rw [show errOf true = 0 from rfl]
  simp only [cond] at hv5 ⊢
  rw [← HNE.out, join_ivs] at hv5
  obtain ⟨A5, c5, rfl, _, hx5, hb5⟩ := hv5
  have HL5 := Lib.hid (HL4.out.below hb5)
  have S5 := Lib.hid ((hx5 b HL4.out.1.lt).congr (Ls' := fun _ => k) (fun r hr => by unfold joinL; split <;> rfl) (fun _ _ _ _ => rfl))
  have l2 := (HL5.out.cell (q := ⟨w.heap.size + 1, 0, none⟩) gz).trans g2
  have l3 := (HL5.out.cell (q := ⟨w.heap.size + 1, 1, none⟩) gz).trans g3
  clear hx5 hb5 ht HL4 X4 I4 g2 g3
  go_wp2_with fail
  refine (chosen11 N k f s (by omega) (by omega) (by have := HNE.out; omega) (by omega) (by omega) _).mono ?_
  rintro e w6 ⟨A6, c6, rfl, hr6, hb6⟩
  have HL6 := Lib.hid (HL5.out.below hb6)
  have S6 := Lib.hid (S5.out.below hb6)
  have R6 := Lib.hid (hr6 b HL5.out.1.lt)
  clear hr6 hb6 HL5 S5 l2 l3
  have HP := Lib.hid (show pickP (M.ord q.p) N (fun _ => k) (ivs (joinE k dl (E))) k (fun j => (chAt N s f j : Int)) from ⟨ivs_may _ SN.out SK.out, SK.out, fun r _ => by have := chAt_lt (n := N) (by omega) s f r; dsimp only; omega⟩)
  go_wp2_with fail
  refine (pick12 b wd _ hkd (ivs (joinE k dl (E))) (fun _ => k) A5 A6 N k c5 c6 (fun j => (chAt N s f j : Int)) _ HL6.out.1.c0 S6.out R6.out).mono ?_
  rintro e w7 ⟨t, v7, rfl, ht, hv7⟩
  obtain rfl : t = true := ht.2 HP.out
  rw [show errOf true = 0 from rfl]
  simp only [cond] at hv7 ⊢
  obtain ⟨A7, c7, rfl, _, hx7, hb7⟩ := hv7
  have HL7 := Lib.hid (HL6.out.below hb7)
  have P7 := Lib.hid (show Mx b w7 (ivs (fun i j => joinE k dl (E) (chAt N s f i) j)) (fun _ => k) A7 k from hx7 b HL6.out.1.lt)
  clear hx7 hb7 ht HL6 S6 R6 HP
  go_wp2_with fail
  refine (inverse12 q b wd k (fun _ => k) _ A7 c7 _ HL7.out.1 P7.out).mono ?_
  rintro e w8 ⟨s8, t8, A8, c8, rfl, hs, ht, _, _, hf8, ht8⟩
  obtain rfl : s8 = true := hs.2 ⟨ivs_may _ SK.out SK.out, rfl⟩
  rw [elM_ivs] at ht
  obtain rfl : t8 = true := (ht rfl).2 HR.out
  rw [show err2 true true = 0 from rfl]
  have HE := Lib.hid (HW.out.trans ((HL7.out.next hf8 ht8).2.1.mono (show w.heap.size ≤ v.heap.size by omega)))
  clear hs ht hf8 ht8 HL7 P7 HR
  go_wp2_with fail
  go_ret
  exact ⟨rfl, HE.out⟩

set_option maxRecDepth 100000 in
theorem lifted (os : Os) (started : os.Started) (H : Type) (enc : TypeId × Value → H) :
    ReturnsInHanded {} Try.checked os 3 .any (Rows.jvanAnySpec.pre6 enc Try.prog Try.f3 Rows.jvanAnyRow.domain false) (Rows.jvanAnySpec.post enc Try.prog Try.f3 false true false false) := by
  refine returnsInHanded_of_change (C := Try.checked) own started (by kernel_rfl) Try.func3
    (ChangeSpec.witness6 (enc := enc) (C := Try.checked) false ⟨#[], #[.bool false, .agg #[.int .u8 0, .int .u8 0], .agg #[.int .u8 0, .int .u8 0]], []⟩ 8 (by kernel_rfl) (by kernel_rfl) (by kernel_rfl) (by kernel_rfl)) ?_
  intro W base args ds gs before hval0 hW hcnd _
  have hval : ∀ (j : Nat) t v, Try.f3.params[j]? = some t → args[j]? = some v → Value.okWide Try.prog W .any base t v := hval0
  have hW' := hW
  obtain ⟨p, q, hA0, hV, rfl, hfz, hnd⟩ := hW
  have hA : DataW.TrodAll enc Try.prog W 0 (fun _ => true) true Try.f3.params.toList args.toList ds p := hA0
  rw [Try.params3] at hA hval
  obtain ⟨v0, vs0, d0, ds0, p0, q0, hargs, rfl, rfl, h0, r0⟩ := trodAll_cons hA
  obtain ⟨v1, vs1, d1, ds1, p1, q1, rfl, rfl, rfl, h1, r1⟩ := trodAll_cons r0
  obtain ⟨v2, vs2, d2, ds2, p2, q2, rfl, rfl, rfl, h2, r2⟩ := trodAll_cons r1
  obtain ⟨rfl, rfl, rfl⟩ := trodAll_nil r2
  obtain rfl : args = #[v0, v1, v2] := by cases args; simp_all
  obtain ⟨rfl, rfl⟩ := trodVars_none hV
  obtain ⟨a0, rfl, rfl, rfl⟩ := open_bool Try.underlying4 (hval 0 4 v0 rfl rfl) h0
  obtain ⟨cs1, rfl, hsz1, _⟩ : ∃ cs, v1 = .agg cs ∧ cs.size = Try.prog.cellsOf 22 ∧ Row.okWide Try.prog W .any base 22 cs := by
    have := hval 1 22 v1 rfl rfl
    simpa [Value.okWide, Try.underlying22] using this
  rw [show Try.prog.cellsOf 22 = 2 by kernel_rfl] at hsz1
  obtain ⟨l1⟩ := cs1
  obtain ⟨e1, f1, rfl⟩ := list2 l1 hsz1
  have k1 := h1
  have lt1 : ∀ x ∈ p1, x.block < W.heap.size := by obtain ⟨m, hm⟩ := k1; exact DataW.trod_lt m _ _ _ hm
  obtain ⟨fuel1, hf1⟩ := h1
  obtain ⟨m1, y1, z1, hy1, hz1⟩ := two_cells Try.underlying22 (by kernel_rfl) hf1
  obtain ⟨a1, g1, rfl, wa1⟩ := DataW.trod_int Try.underlying5 hy1
  obtain ⟨c1, j1, rfl, wc1⟩ := DataW.trod_int Try.underlying5 hz1
  simp at g1 j1
  subst g1 j1
  obtain ⟨cs2, rfl, hsz2, _⟩ : ∃ cs, v2 = .agg cs ∧ cs.size = Try.prog.cellsOf 22 ∧ Row.okWide Try.prog W .any base 22 cs := by
    have := hval 2 22 v2 rfl rfl
    simpa [Value.okWide, Try.underlying22] using this
  rw [show Try.prog.cellsOf 22 = 2 by kernel_rfl] at hsz2
  obtain ⟨l2⟩ := cs2
  obtain ⟨e2, f2, rfl⟩ := list2 l2 hsz2
  have k2 := h2
  have lt2 : ∀ x ∈ p2, x.block < W.heap.size := by obtain ⟨m, hm⟩ := k2; exact DataW.trod_lt m _ _ _ hm
  obtain ⟨fuel2, hf2⟩ := h2
  obtain ⟨m2, y2, z2, hy2, hz2⟩ := two_cells Try.underlying22 (by kernel_rfl) hf2
  obtain ⟨a2, g2, rfl, wa2⟩ := DataW.trod_int Try.underlying5 hy2
  obtain ⟨c2, j2, rfl, wc2⟩ := DataW.trod_int Try.underlying5 hz2
  simp at g2 j2
  subst g2 j2
  clear hA0 hval0
  refine (walk a0 a1 c1 a2 c2 W ⟨bounds_u8 wa1, bounds_u8 wc1⟩ ⟨bounds_u8 wa2, bounds_u8 wc2⟩).mono fun e W' ⟨he, bel⟩ => ?_
  subst he
  exact ⟨_, rfl, _, _, _, [], _, [], hW', trodAll_mk1 (shut_bool Try.underlying4 _), (trodAll_cons_mk (shut_bool Try.underlying4 _) (trodAll_cons_mk (Below.trod laidOut (by kernel_rfl) (of_decide_eq_true (by kernel_rfl)) k1 bel lt1) (trodAll_cons_mk (Below.trod laidOut (by kernel_rfl) (of_decide_eq_true (by kernel_rfl)) k2 bel lt2) trodAll_mk0))), rfl, bel.frame _, fun h => by cases h⟩

theorem over : Rows.jvanAnyRow.holds Try.pinned (OpenSpec.ofChange Rows.jvanAnySpec) :=
  OpenClaim.holds_of_wide 3 Try.f3 rfl rfl rfl rfl rfl rfl rfl ⟨rfl, rfl, rfl, rfl, rfl⟩ rfl rfl rfl rfl rfl (by kernel_rfl) Try.func3 (by kernel_rfl)
    (of_decide_eq_true (by kernel_rfl)) (by unfold Func.isWrapper; first | (rw [if_pos (by decide +kernel)]; kernel_rfl) | (rw [if_neg (by decide +kernel)]; exact ⟨rfl, rfl⟩))
    (fun os started H enc _ => lifted os started H enc)

theorem proved : Rows.JvanAnySaid := over
end Go.Proofs.Ytecnfkchlebafaa.jvanAny
