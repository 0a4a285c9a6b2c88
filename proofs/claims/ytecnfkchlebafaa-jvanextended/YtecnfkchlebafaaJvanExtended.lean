/- Proved: for every bool and every two arrays of two uint8 the law JvanExtended answers true (any k rows of the rows of powers have an inverse; the first row, and the last one, have 1 at one end alone), and its arguments read as they did. No conditions. -/
import Derived.Test.YtecnfkchlebafaaRows
import Derived.Test.YtecnfkchlebafaaJve
import Derived.Test.YtecnfkchlebafaaGxp
import Derived.Test.YtecnfkchlebafaaGxm
import Derived.Test.YtecnfkchlebafaaMto
import Derived.Test.YtecnfkchlebafaaArr
import Derived.Deep.RegionHeld3
import Derived.WalkKit
import Derived.ProofKit
import Derived.OpenShut
import Derived.ShutString
import Derived.ChangeOld
import Derived.Below
namespace Go.Proofs.Ytecnfkchlebafaa.jvanExtended
open Go.ChangeShapes Go.WideShapes Go.ChangeAt Go.RowKit
set_option linter.unusedVariables false

theorem own : ownKnob Try.prog.godebug = none := by kernel_rfl
theorem laidOut : laidOutB Try.prog = true := by kernel_rfl

/-- two rows side by side -/
def twoF (F0 F1 : Nat → Int) (r : Nat) : Nat → Int := if r = 0 then F0 else F1
theorem two_mx {b g k c0 c1 : Nat} {W : World} {F0 F1 : Nat → Int} {A0 A1 : Option Addr} {f : Nat → Value} (h : W.rowIs g TIs 2 f) (hg : g ≠ b) (e0 : f 0 = .slice A0 k c0) (e1 : f 1 = .slice A1 k c1) (h0 : Rd b W (i64s F0) A0 k) (h1 : Rd b W (i64s F1) A1 k) :
    Mx b W (twoF F0 F1) (fun _ => k) (some ⟨g, 0, none⟩) 2 := by
  refine ⟨fun r => if r = 0 then A0 else A1, fun r => if r = 0 then c0 else c1, (Rd.of_row h hg (Nat.le_refl _)).congr (fun j hj => ?_), fun r hr => ?_⟩
  · match j, hj with
    | 0, _ => exact e0
    | 1, _ => exact e1
  · match r, hr with
    | 0, _ => exact h0
    | 1, _ => exact h1
/-- four rows, two and two, laid into two new slices -/
theorem two_two {b k a0 a1 c0 c1 : Nat} {w W : World} {F0 F1 G0 G1 : Nat → Int} {A0 A1 B0 B1 : Option Addr} (hb : b < w.heap.size) (hA0 : Rd b w (i64s F0) A0 k) (hA1 : Rd b w (i64s F1) A1 k) (hB0 : Rd b w (i64s G0) B0 k) (hB1 : Rd b w (i64s G1) B1 k)
    (hW : (w.alloc (.cells #[.slice A0 k a0, .slice A1 k a1] TIs)).alloc (.cells #[.slice B0 k c0, .slice B1 k c1] TIs) = W) :
    Mx b W (twoF F0 F1) (fun _ => k) (some ⟨w.heap.size, 0, none⟩) 2 ∧ Mx b W (twoF G0 G1) (fun _ => k) (some ⟨w.heap.size + 1, 0, none⟩) 2 ∧ Below w.heap.size w W := by
  have r1 := row_at (w := w) #[.slice A0 k a0, .slice A1 k a1] TIs (fun i => if i = 0 then .slice A0 k a0 else .slice A1 k a1) _ rfl (fun i hi => by
    simp at hi
    match i, hi with
    | 0, _ => rfl
    | 1, _ => rfl)
  have r2 := row_at (w := w.alloc (.cells #[.slice A0 k a0, .slice A1 k a1] TIs)) #[.slice B0 k c0, .slice B1 k c1] TIs (fun i => if i = 0 then .slice B0 k c0 else .slice B1 k c1) (w.heap.size + 1) (by simp) (fun i hi => by
    simp at hi
    match i, hi with
    | 0, _ => rfl
    | 1, _ => rfl)
  have hB : Below w.heap.size w W := by
    rw [← hW]
    exact (below_alloc w _).alloc (by simp) _
  have r1' := r1.alloc (.cells #[.slice B0 k c0, .slice B1 k c1] TIs)
  rw [hW] at r1' r2
  exact ⟨two_mx r1' (by omega) rfl rfl (hA0.below hB) (hA1.below hB), two_mx r2 (by omega) rfl rfl (hB0.below hB) (hB1.below hB), hB⟩

/-- of 0 all powers but the first are 0 -/
theorem raw_first (q : FP) (j : Nat) : ivs (rawE q) 0 j = idF 0 j := by
  rw [idF_el (q := q)]
  unfold ivs rawE
  have e0 : toEl q ((0 : Nat) : Int) = 0 := El.eq_zero.2 (by have := toEl_val (q := q) (a := ((0 : Nat) : Int)) ⟨by omega, by omega⟩; omega)
  rw [e0]
  cases j with
  | zero => rw [dl_self]; rfl
  | succ n => rw [dl_ne (by omega)]; unfold ep; rw [El.mul_zero]

set_option maxRecDepth 100000 in
set_option maxHeartbeats 4000000 in
theorem walk (a0 : Bool) (a1 c1 a2 c2 : Int) (w : World) (w1 : (0 ≤ a1 ∧ a1 ≤ 255) ∧ 0 ≤ c1 ∧ c1 ≤ 255) (w2 : (0 ≤ a2 ∧ a2 ≤ 255) ∧ 0 ≤ c2 ∧ c2 ≤ 255) :
    Calls Try.prog 5 #[.bool a0, .agg #[.int .u8 a1, .int .u8 c1], .agg #[.int .u8 a2, .int .u8 c2]] w fun e w' => e = .returned (.bool true) ∧ Below w.heap.size w w' := by
  obtain ⟨⟨a10, a11⟩, c10, c11⟩ := w1
  obtain ⟨⟨a20, a21⟩, c20, c21⟩ := w2
  obtain ⟨x, rfl⟩ := Int.eq_ofNat_of_zero_le a10
  obtain ⟨y, rfl⟩ := Int.eq_ofNat_of_zero_le c10
  obtain ⟨f, rfl⟩ := Int.eq_ofNat_of_zero_le a20
  obtain ⟨s, rfl⟩ := Int.eq_ofNat_of_zero_le c20
  clear a10 c10 a20 c20
  obtain ⟨k, hk, k1, k2⟩ : ∃ k : Nat, 1 + (x : Int) % 8 = (k : Int) ∧ 1 ≤ k ∧ k ≤ 8 := ⟨1 + x % 8, by omega, by omega, by omega⟩
  obtain ⟨m, hm, m1, m2⟩ : ∃ m : Nat, 1 + (y : Int) % 4 = (m : Int) ∧ 1 ≤ m ∧ m ≤ 4 := ⟨1 + y % 4, by omega, by omega, by omega⟩
  obtain ⟨N, hN, hNe⟩ : ∃ N : Nat, (k : Int) + (m : Int) = (N : Int) ∧ N = k + m := ⟨k + m, by omega, rfl⟩
  have SK := Lib.hid (show side k from ⟨by omega, by omega⟩)
  have SM := Lib.hid (show side m from ⟨by omega, by omega⟩)
  have SN := Lib.hid (show side N from ⟨by omega, by omega⟩)
  have HK := Lib.hid hk
  have HM := Lib.hid hm
  have HNE := Lib.hid hNe
  have hNb : N ≤ 12 := by omega
  obtain ⟨n1, hn1⟩ : ∃ n1 : Nat, N = n1 + 1 := ⟨N - 1, by omega⟩
  obtain ⟨k0, hk0⟩ : ∃ k0 : Nat, k = k0 + 1 := ⟨k - 1, by omega⟩
  have HN1 := Lib.hid hn1
  have HK0 := Lib.hid hk0
  have hN2 : 2 ≤ N := by omega
  clear hk hm hNe hn1 hk0
  have HW := Lib.hid (show Below w.heap.size w ((w.alloc (.cells #[.int .u8 x, .int .u8 y] 22)).alloc (.cells #[.int .u8 f, .int .u8 s] 22)) from ((Below.refl _ _).alloc (Nat.le_refl _) _).alloc (by simp) _)
  have g0 : ((w.alloc (.cells #[.int .u8 x, .int .u8 y] 22)).alloc (.cells #[.int .u8 f, .int .u8 s] 22)).cell? ⟨w.heap.size, 0, none⟩ = some (.int .u8 x) := by simp
  have g1 : ((w.alloc (.cells #[.int .u8 x, .int .u8 y] 22)).alloc (.cells #[.int .u8 f, .int .u8 s] 22)).cell? ⟨w.heap.size, 1, none⟩ = some (.int .u8 y) := by simp
  have g2 : ((w.alloc (.cells #[.int .u8 x, .int .u8 y] 22)).alloc (.cells #[.int .u8 f, .int .u8 s] 22)).cell? ⟨w.heap.size + 1, 0, none⟩ = some (.int .u8 f) := by simp
  have g3 : ((w.alloc (.cells #[.int .u8 x, .int .u8 y] 22)).alloc (.cells #[.int .u8 f, .int .u8 s] 22)).cell? ⟨w.heap.size + 1, 1, none⟩ = some (.int .u8 s) := by simp
  have gz : w.heap.size + 1 < ((w.alloc (.cells #[.int .u8 x, .int .u8 y] 22)).alloc (.cells #[.int .u8 f, .int .u8 s] 22)).heap.size := by simp
  go_enter Try.func5, Try.ntmps5
  go_wp2_with fail
  generalize (w.alloc (.cells #[.int .u8 x, .int .u8 y] 22)).alloc (.cells #[.int .u8 f, .int .u8 s] 22) = v at *
  refine (awakeJ _).mono ?_
  rintro e w1 ⟨rfl, hb1⟩
  have l0 := (hb1.cell (p := ⟨w.heap.size, 0, none⟩) (show w.heap.size < v.heap.size by omega)).trans g0
  have l1 := (hb1.cell (p := ⟨w.heap.size, 1, none⟩) (show w.heap.size < v.heap.size by omega)).trans g1
  have H1 := Lib.hid hb1
  clear hb1 g0 g1
  go_wp2_with fail
  rw [HK.out, HM.out]
  clear HK HM l0 l1
  refine (jfield9 a0 _).mono ?_
  rintro e w2 ⟨q, wd, b, rfl, hFl, hnb, hb2⟩
  have hL := Live.start H1.out hFl hnb hb2
  have HL := Lib.hid hL
  have hkd := hFl.1.kind
  have HO := Lib.hid hkd.bounds
  clear hFl hnb hb2 H1 hL
  go_wp2_with fail
  refine (jext_yes q b wd k m SK.out SM.out (by have := HNE.out; omega) _ HL.out.1).mono ?_
  rintro e w3 ⟨A3, c3, rfl, hc3, hx3, hf3, ht3⟩
  have HR := Lib.hid (ext_any (q := q) (k := k) (N := N) (by have := HO.out; omega) (l := chAt N s f) (fun i _ => chAt_lt (by omega) s f i) (fun i j hi hj h => chAt_inj (n := N) (by omega) (by omega) s f i j (by have := HNE.out; omega) (by have := HNE.out; omega) h))
  rw [← HNE.out] at hx3 ⊢
  have HV0 := Lib.hid (show ∀ j, ivs (extE q k N) 0 j = idF 0 j from fun j => by
    rw [← raw_first q j]
    unfold ivs
    rw [ext_raw (by omega)])
  have HV1 := Lib.hid (show ∀ j, ivs (extE q k N) n1 j = idF k0 j from fun j => by
    rw [idF_el (q := q)]
    unfold ivs
    rw [ext_last (by have := HN1.out; omega), show k - 1 = k0 by have := HK0.out; omega])
  obtain ⟨E, hE⟩ : ∃ E, extE q k N = E := ⟨_, rfl⟩
  rw [hE] at hx3 HR HV0 HV1
  clear hE
  have HL3 := Lib.hid (HL.out.next hf3 ht3)
  have X3 := Lib.hid hx3
  have l2 := (HL3.out.cell (q := ⟨w.heap.size + 1, 0, none⟩) gz).trans g2
  have l3 := (HL3.out.cell (q := ⟨w.heap.size + 1, 1, none⟩) gz).trans g3
  clear hx3 hf3 ht3 HL hc3 g2 g3
  go_wp2_with fail
  refine (chosen11 N k f s (by omega) (by omega) (by have := HNE.out; omega) (by omega) (by omega) _).mono ?_
  rintro e w6 ⟨A6, c6, rfl, hr6, hb6⟩
  have HL6 := Lib.hid (HL3.out.below hb6)
  have S6 := Lib.hid (X3.out.below hb6)
  have R6 := Lib.hid (hr6 b HL3.out.1.lt)
  clear hr6 hb6 HL3 X3 l2 l3
  have HP := Lib.hid (show pickP (M.ord q.p) N (fun _ => k) (ivs E) k (fun j => (chAt N s f j : Int)) from ⟨ivs_may _ SN.out SK.out, SK.out, fun r _ => by have := chAt_lt (n := N) (by omega) s f r; dsimp only; omega⟩)
  go_wp2_with fail
  refine (pick12 b wd _ hkd (ivs E) (fun _ => k) A3 A6 N k c3 c6 (fun j => (chAt N s f j : Int)) _ HL6.out.1.c0 S6.out R6.out).mono ?_
  rintro e w7 ⟨t, v7, rfl, ht, hv7⟩
  obtain rfl : t = true := ht.2 HP.out
  rw [show errOf true = 0 from rfl]
  simp only [cond] at hv7 ⊢
  obtain ⟨A7, c7, rfl, _, hx7, hb7⟩ := hv7
  have HL7 := Lib.hid (HL6.out.below hb7)
  have S7 := Lib.hid (S6.out.below hb7)
  have P7 := Lib.hid (show Mx b w7 (ivs (fun i j => E (chAt N s f i) j)) (fun _ => k) A7 k from hx7 b HL6.out.1.lt)
  clear hx7 hb7 ht HL6 S6 R6 HP
  go_wp2_with fail
  refine (inverse12 q b wd k (fun _ => k) _ A7 c7 _ HL7.out.1 P7.out).mono ?_
  rintro e w8 ⟨s8, t8, A8, c8, rfl, hs, ht, _, _, hf8, ht8⟩
  obtain rfl : s8 = true := hs.2 ⟨ivs_may _ SK.out SK.out, rfl⟩
  rw [elM_ivs] at ht
  obtain rfl : t8 = true := (ht rfl).2 HR.out
  rw [show err2 true true = 0 from rfl]
  have HL8 := Lib.hid (HL7.out.next hf8 ht8)
  have S8 := Lib.hid (S7.out.turned ht8)
  clear hs ht hf8 ht8 HL7 P7 HR S7
  go_wp2_with fail
  refine (ridentity26 b k (by omega) _ HL8.out.1.lt).mono ?_
  rintro e w9 ⟨v9, rfl, A9, c9, rfl, _, hx9, hb9⟩
  have HL9 := Lib.hid (HL8.out.below hb9)
  have S9 := Lib.hid (S8.out.below hb9)
  have I9 := Lib.hid hx9
  clear hx9 hb9 HL8 S8
  obtain ⟨As, Cs, a1, a2⟩ := S9.out
  obtain ⟨Is, Js, i1, i2⟩ := I9.out
  have hn1N : n1 < N := by have := HN1.out; omega
  have hk0k : k0 < k := by have := HK0.out; omega
  obtain ⟨adX, rfl, _⟩ := a1.at_ hn1N
  obtain ⟨adI, rfl, _⟩ := i1.at_ hk0k
  have CELL : ∀ {A : Option Addr} {n : Nat} {K : Nat → Value} {wx : World} {ad : Addr} {x : Nat}, Rd b wx K A n → A = some ad → x < n → wx.cell? (ad.add x) = some (K x) := fun h e hx => by
    obtain ⟨ad2, e2, h2⟩ := h.at_ hx
    rw [e] at e2
    injection e2 with e2
    subst e2
    exact h2
  have KEEP := Lib.hid (show ∀ w', Below w9.heap.size w9 w' → w'.cell? adX = some (.slice (As 0) k (Cs 0)) ∧ w'.cell? (adX.add n1) = some (.slice (As n1) k (Cs n1)) ∧ w'.cell? adI = some (.slice (Is 0) k (Js 0)) ∧ w'.cell? (adI.add k0) = some (.slice (Is k0) k (Js k0)) ∧ Below w9.heap.size w9 w' from fun w' hb => by
    have h1 := CELL (a1.below hb) rfl (show 0 < N by omega)
    have h2 := CELL (a1.below hb) rfl hn1N
    have h3 := CELL (i1.below hb) rfl (show 0 < k by omega)
    have h4 := CELL (i1.below hb) rfl hk0k
    exact ⟨h1, h2, h3, h4, hb⟩)
  have hbw : b < w9.heap.size := HL9.out.1.lt
  have hdr := (Below.refl w9.heap.size w9).drew
  have x0 := a2 0 (by omega)
  have x1 := a2 n1 hn1N
  have y0 := i2 0 (by omega)
  have y1 := i2 k0 hk0k
  have hst := KEEP.out _ hdr
  obtain ⟨X0, hX0⟩ : ∃ x, As 0 = x := ⟨_, rfl⟩
  obtain ⟨X1, hX1⟩ : ∃ x, As n1 = x := ⟨_, rfl⟩
  obtain ⟨Y0, hY0⟩ : ∃ x, Is 0 = x := ⟨_, rfl⟩
  obtain ⟨Y1, hY1⟩ : ∃ x, Is k0 = x := ⟨_, rfl⟩
  obtain ⟨x0c, hx0c⟩ : ∃ x, Cs 0 = x := ⟨_, rfl⟩
  obtain ⟨x1c, hx1c⟩ : ∃ x, Cs n1 = x := ⟨_, rfl⟩
  obtain ⟨y0c, hy0c⟩ : ∃ x, Js 0 = x := ⟨_, rfl⟩
  obtain ⟨y1c, hy1c⟩ : ∃ x, Js k0 = x := ⟨_, rfl⟩
  rw [hX0, hX1, hY0, hY1, hx0c, hx1c, hy0c, hy1c] at KEEP
  rw [hX0, hX1, hY0, hY1, hx0c, hx1c, hy0c, hy1c] at hst
  rw [hX0] at x0
  rw [hX1] at x1
  rw [hY0] at y0
  rw [hY1] at y1
  have HSM := Lib.hid (show ∀ r, r < 2 → ∀ j, j < k → twoF (ivs E 0) (ivs E n1) r j = twoF (idF 0) (idF k0) r j from fun r hr j _ => by
    match r, hr with
    | 0, _ => exact HV0.out j
    | 1, _ => exact HV1.out j)
  obtain ⟨WA, hWA⟩ : ∃ W, (w9.alloc (.cells #[.slice X0 k x0c, .slice X1 k x1c] TIs)).alloc (.cells #[.slice Y0 k y0c, .slice Y1 k y1c] TIs) = W := ⟨_, rfl⟩
  obtain ⟨ma1, ma2, hbA⟩ := two_two hbw x0 x1 y0 y1 hWA
  obtain ⟨WB, hWB⟩ : ∃ W, (w9.alloc (.cells #[.slice Y0 k y0c, .slice Y1 k y1c] TIs)).alloc (.cells #[.slice X0 k x0c, .slice X1 k x1c] TIs) = W := ⟨_, rfl⟩
  obtain ⟨mb1, mb2, hbB⟩ := two_two hbw y0 y1 x0 x1 hWB
  have CA := Lib.hid (same19 b b _ _ _ _ _ _ 2 2 2 (by omega) (fun _ _ => show k ≤ 1000 by omega) WA.drew (ma1.below (Below.refl _ _).drew) (ma2.below (Below.refl _ _).drew) (fun _ _ => rfl) HSM.out)
  have CB := Lib.hid (same19 b b _ _ _ _ _ _ 2 2 2 (by omega) (fun _ _ => show k ≤ 1000 by omega) WB.drew (mb2.below (Below.refl _ _).drew) (mb1.below (Below.refl _ _).drew) (fun _ _ => rfl) HSM.out)
  have KA := Lib.hid (fun n => KEEP.out _ (hbA.trans ((below_drewN' WA n).mono hbA.size)))
  have KB := Lib.hid (fun n => KEEP.out _ (hbB.trans ((below_drewN' WB n).mono hbB.size)))
  have LA := Lib.hid (KEEP.out _ hbA.drew)
  have LB := Lib.hid (KEEP.out _ hbB.drew)
  have HEA := Lib.hid (fun n => HW.out.trans (((HL9.out.below hbA).below (below_drewN' WA n)).2.1.mono (show w.heap.size ≤ v.heap.size by omega)))
  have HEB := Lib.hid (fun n => HW.out.trans (((HL9.out.below hbB).below (below_drewN' WB n)).2.1.mono (show w.heap.size ≤ v.heap.size by omega)))
  rw [← hWA] at CA KA HEA LA
  rw [← hWB] at CB KB HEB LB
  have zN : (0 : Int) < (N : Int) := by omega
  have zk : (0 : Int) < (k : Int) := by omega
  have zN1 : (n1 : Int) < (N : Int) := by omega
  have zk1 : (k0 : Int) < (k : Int) := by omega
  have eN1 : (N : Int) - 1 = (n1 : Int) := by have := HN1.out; omega
  have ek0 : (k : Int) - 1 = (k0 : Int) := by have := HK0.out; omega
  have wN : IntKind.i64.wrap (N : Int) = (N : Int) := by rw [IntKind.wrap_i64]; omega
  have wn : IntKind.i64.wrap (n1 : Int) = (n1 : Int) := by rw [IntKind.wrap_i64]; omega
  have wk : IntKind.i64.wrap (k0 : Int) = (k0 : Int) := by rw [IntKind.wrap_i64]; omega
  have zN3 : 0 < N := by omega
  have zk3 : 0 < k := by omega
  clear hX0 hX1 hY0 hY1 hx0c hx1c hy0c hy1c x0 x1 y0 y1 hWA hWB ma1 ma2 mb1 mb2 hbA hbB a1 a2 i1 i2 CELL S9 I9 HL9 HV0 HV1 HSM hdr
  go_wp2_with fail
  go_region_held3 (fun w' => w'.cell? adX = some (.slice X0 k x0c) ∧ w'.cell? (adX.add n1) = some (.slice X1 k x1c) ∧ w'.cell? adI = some (.slice Y0 k y0c) ∧ w'.cell? (adI.add k0) = some (.slice Y1 k y1c) ∧ Below w9.heap.size w9 w')
    (first | with_reducible exact hst | with_reducible assumption | with_reducible exact LA.out | with_reducible exact LB.out | with_reducible exact KEEP.out _ ((Below.refl w9.heap.size w9).alloc (Nat.le_refl _) _).drew | with_reducible exact KA.out _ | with_reducible exact KB.out _)
    (first | (go_at_call 17; with_reducible refine CA.out.mono ?_; rintro e w10 ⟨rfl, q10, rfl⟩; have HE := Lib.hid (HEA.out (1 + q10))) | (go_at_call 17; with_reducible refine CB.out.mono ?_; rintro e w10 ⟨rfl, q10, rfl⟩; have HE := Lib.hid (HEB.out (1 + q10))))
  all_goals
    go_wp2_with fail
    go_ret
    exact ⟨rfl, HE.out⟩

set_option maxRecDepth 100000 in
theorem lifted (os : Os) (started : os.Started) (H : Type) (enc : TypeId × Value → H) :
    ReturnsInHanded {} Try.checked os 5 .any (Rows.jvanExtendedSpec.pre6 enc Try.prog Try.f5 Rows.jvanExtendedRow.domain false) (Rows.jvanExtendedSpec.post enc Try.prog Try.f5 false true false false) := by
  refine returnsInHanded_of_change (C := Try.checked) own started (by kernel_rfl) Try.func5
    (ChangeSpec.witness6 (enc := enc) (C := Try.checked) false ⟨#[], #[.bool false, .agg #[.int .u8 0, .int .u8 0], .agg #[.int .u8 0, .int .u8 0]], []⟩ 8 (by kernel_rfl) (by kernel_rfl) (by kernel_rfl) (by kernel_rfl)) ?_
  intro W base args ds gs before hval0 hW hcnd _
  have hval : ∀ (j : Nat) t v, Try.f5.params[j]? = some t → args[j]? = some v → Value.okWide Try.prog W .any base t v := hval0
  have hW' := hW
  obtain ⟨p, q, hA0, hV, rfl, hfz, hnd⟩ := hW
  have hA : DataW.TrodAll enc Try.prog W 0 (fun _ => true) true Try.f5.params.toList args.toList ds p := hA0
  rw [Try.params5] at hA hval
  obtain ⟨v0, vs0, d0, ds0, p0, q0, hargs, rfl, rfl, h0, r0⟩ := trodAll_cons hA
  obtain ⟨v1, vs1, d1, ds1, p1, q1, rfl, rfl, rfl, h1, r1⟩ := trodAll_cons r0
  obtain ⟨v2, vs2, d2, ds2, p2, q2, rfl, rfl, rfl, h2, r2⟩ := trodAll_cons r1
  obtain ⟨rfl, rfl, rfl⟩ := trodAll_nil r2
  obtain rfl : args = #[v0, v1, v2] := by cases args; simp_all
  obtain ⟨rfl, rfl⟩ := trodVars_none hV
  obtain ⟨a0, rfl, rfl, rfl⟩ := open_bool Try.underlying4 (hval 0 4 v0 rfl rfl) h0
  obtain ⟨cs1, rfl, hsz1, _⟩ : ∃ cs, v1 = .agg cs ∧ cs.size = Try.prog.cellsOf 22 ∧ Row.okWide Try.prog W .any base 22 cs := by
    have := hval 1 22 v1 rfl rfl
    simpa [Value.okWide, Try.underlying22] using this
  rw [show Try.prog.cellsOf 22 = 2 by kernel_rfl] at hsz1
  obtain ⟨l1⟩ := cs1
  obtain ⟨e1, f1, rfl⟩ := list2 l1 hsz1
  have k1 := h1
  have lt1 : ∀ x ∈ p1, x.block < W.heap.size := by obtain ⟨m, hm⟩ := k1; exact DataW.trod_lt m _ _ _ hm
  obtain ⟨fuel1, hf1⟩ := h1
  obtain ⟨m1, y1, z1, hy1, hz1⟩ := two_cells Try.underlying22 (by kernel_rfl) hf1
  obtain ⟨a1, g1, rfl, wa1⟩ := DataW.trod_int Try.underlying5 hy1
  obtain ⟨c1, j1, rfl, wc1⟩ := DataW.trod_int Try.underlying5 hz1
  simp at g1 j1
  subst g1 j1
  obtain ⟨cs2, rfl, hsz2, _⟩ : ∃ cs, v2 = .agg cs ∧ cs.size = Try.prog.cellsOf 22 ∧ Row.okWide Try.prog W .any base 22 cs := by
    have := hval 2 22 v2 rfl rfl
    simpa [Value.okWide, Try.underlying22] using this
  rw [show Try.prog.cellsOf 22 = 2 by kernel_rfl] at hsz2
  obtain ⟨l2⟩ := cs2
  obtain ⟨e2, f2, rfl⟩ := list2 l2 hsz2
  have k2 := h2
  have lt2 : ∀ x ∈ p2, x.block < W.heap.size := by obtain ⟨m, hm⟩ := k2; exact DataW.trod_lt m _ _ _ hm
  obtain ⟨fuel2, hf2⟩ := h2
  obtain ⟨m2, y2, z2, hy2, hz2⟩ := two_cells Try.underlying22 (by kernel_rfl) hf2
  obtain ⟨a2, g2, rfl, wa2⟩ := DataW.trod_int Try.underlying5 hy2
  obtain ⟨c2, j2, rfl, wc2⟩ := DataW.trod_int Try.underlying5 hz2
  simp at g2 j2
  subst g2 j2
  clear hA0 hval0
  refine (walk a0 a1 c1 a2 c2 W ⟨bounds_u8 wa1, bounds_u8 wc1⟩ ⟨bounds_u8 wa2, bounds_u8 wc2⟩).mono fun e W' ⟨he, bel⟩ => ?_
  subst he
  exact ⟨_, rfl, _, _, _, [], _, [], hW', trodAll_mk1 (shut_bool Try.underlying4 _), (trodAll_cons_mk (shut_bool Try.underlying4 _) (trodAll_cons_mk (Below.trod laidOut (by kernel_rfl) (of_decide_eq_true (by kernel_rfl)) k1 bel lt1) (trodAll_cons_mk (Below.trod laidOut (by kernel_rfl) (of_decide_eq_true (by kernel_rfl)) k2 bel lt2) trodAll_mk0))), rfl, bel.frame _, fun h => by cases h⟩

theorem over : Rows.jvanExtendedRow.holds Try.pinned (OpenSpec.ofChange Rows.jvanExtendedSpec) :=
  OpenClaim.holds_of_wide 5 Try.f5 rfl rfl rfl rfl rfl rfl rfl ⟨rfl, rfl, rfl, rfl, rfl⟩ rfl rfl rfl rfl rfl (by kernel_rfl) Try.func5 (by kernel_rfl)
    (of_decide_eq_true (by kernel_rfl)) (by unfold Func.isWrapper; first | (rw [if_pos (by decide +kernel)]; kernel_rfl) | (rw [if_neg (by decide +kernel)]; exact ⟨rfl, rfl⟩))
    (fun os started H enc _ => lifted os started H enc)

theorem proved : Rows.JvanExtendedSaid := over
end Go.Proofs.Ytecnfkchlebafaa.jvanExtended
