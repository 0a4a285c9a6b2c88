/- Contracts of gambrelref08: from, Of, Orig, Isal. Contracts of gambrelref08: Orig, Isal. Contracts of gambrelref08: next, Safe. -/
import Derived.Test.YtgdgimknnjbieaaGreatDoorGxs
import Derived.Test.YtgdgimknnjbieaaGreatDoorGxq
import Derived.Test.YtgdgimknnjbieaaGreatDoorGxt

namespace Go.Proofs.YtgdgimknnjbieaaGreatDoor
open Go.RowKit

set_option maxRecDepth 100000 in
set_option maxHeartbeats 1000000 in
theorem rfrom31 (a n : Nat) (ha : a ≤ 1000) (hn : n ≤ 100) (w : World) :
    Calls Tryz.prog 110 #[.int .i64 a, .int .i64 n] w fun e w' => ∃ v, e = .returned v ∧ App w TI (i64s (frm a)) n v w' := by
  obtain ⟨j0, hj, hy0, hy1, hy2⟩ := info_parts infoI
  go_enter Tryz.func110, Tryz.ntmps110
  go_wp2_with fail
  go_loopw [5, 6] (fun s5 s6 wr => RowIn n (frm a) w s5 s6 wr) (fun _ s6 _ => n - (intOf s6).toNat)
  case atStart => exact ⟨0, Nat.zero_le _, rfl, App.start _ _ _⟩
  case round =>
    obtain ⟨j, hjn, rfl, ha⟩ := hrel
    have HA := Lib.hid ha
    have hsz := ha.2.size
    clear ha
    by_cases hlt : j < n
    · have HV := Lib.hid (show i64s (frm a) j = .int .i64 ((a : Int) + (j : Int)) from by simp only [i64s, frm]; congr 1)
      go_wp2_with (at_builtin; refine wpList_append_own _ rfl _ _ TIs rfl w.heap.size TI j0 (.int .i64 0) 1 8 underI hj hy0 hy1 hy2 rfl (by decide) _ _ _ rfl (HA.out.1.alloc _) ⟨wr.heap.size, 0, none⟩ 1 1 [i64s (frm a) j] rfl rfl (news_one HV.out.symm) (one_i64 _) (by unfold maxLen; omega) (by omega) (by simp; omega) ?_)
      intro v' w1 hown' hgrow _
      have HS := Lib.hid (HA.out.step hown' hgrow)
      clear hown' hgrow
      go_wp2_with fail
      exact ⟨⟨j + 1, hlt, by go_num, HS.out⟩, by simp [intOf]; omega⟩
    · obtain rfl : j = n := by omega
      go_wp2_with fail
      go_ret
      exact ⟨_, rfl, HA.out⟩

/-- what Of of the document tells -/
def ROfAny (q : FP) (b n m : Nat) (lx ly : Nat → Int) (w : World) (e : Ending) (w' : World) : Prop :=
  ∃ t A c, e = .returned (.tuple #[.slice A (cond t n 0) c, .bool t]) ∧ (t = true ↔ ofP (M.ord q.p) n m lx ly) ∧ Mx b w' (ivs (ofE q lx ly)) (fun _ => m) A (cond t n 0) ∧ Below w.heap.size w w'
theorem ROfAny.no {q : FP} {b n m : Nat} {lx ly : Nat → Int} {w w' : World} (h : ¬ ofP (M.ord q.p) n m lx ly) (hb : Below w.heap.size w w') : ROfAny q b n m lx ly w (.returned (.tuple #[nilS, .bool false])) w' :=
  ⟨false, none, 0, rfl, by simp [h], Mx.zero, hb⟩
theorem cat_list {n m : Nat} (lx ly : Nat → Int) : (List.range n).map (i64s lx) ++ (List.range m).map (i64s ly) = (List.range (n + m)).map (i64s (catL n lx ly)) := by
  rw [← joinV_all n m]
  refine range_congr (fun j _ => ?_)
  unfold joinV
  simp only [i64s, catL]
  split <;> rfl
/-- in the loops that compare -/
def RuAt (c : Nat) (l : Nat → Int) (n : Nat) (w2 : World) (s11 : Value) (wr : World) : Prop := ∃ i : Nat, i ≤ n ∧ s11 = .int .i64 i ∧ apartP c l i ∧ ∃ m, wr = w2.drewN m
def RuIn (l : Nat → Int) (i : Nat) (w2 : World) (s12 : Value) (wr : World) : Prop := ∃ k : Nat, k ≤ i ∧ s12 = .int .i64 k ∧ (∀ j, j < k → l i ≠ l j) ∧ ∃ m, wr = w2.drewN m

set_option maxRecDepth 100000 in
set_option maxHeartbeats 8000000 in
theorem rof10 (q : FP) (b wd n m : Nat) (hg : Good q.p wd) (lx ly : Nat → Int) (A B : Option Addr) (ca cb : Nat) (w : World) (hbw : b < w.heap.size) (hra : Rd b w (i64s lx) A n) (hrb : Rd b w (i64s ly) B m) :
    Calls Tryz.prog 109 #[.int .i64 wd, .int .u32 q.p, .slice A n ca, .slice B m cb] w (ROfAny q b n m lx ly w) := by
  obtain ⟨i0, hi0, hz0, hz1, hz2⟩ := info_parts infoRow
  obtain ⟨j0, hj, hy0, hy1, hy2⟩ := info_parts infoI
  have hkd := hg.kind
  have hkb := hg.kind.bounds
  have HA := Lib.hid hra
  have HB := Lib.hid hrb
  have HGD := Lib.hid hg
  have HNO := Lib.hid (fun (h : ¬ ofP (M.ord q.p) n m lx ly) => ROfAny.no (b := b) h (Below.refl w.heap.size w))
  clear hra hrb hg
  by_cases c1 : 1 ≤ n
  case neg =>
    have d1 : decide ((n : Int) < 1) = true := by simp; omega
    have HE := Lib.hid (HNO.out (fun h => c1 h.1.1))
    clear HNO
    go_enter Tryz.func109, Tryz.ntmps109
    go_wp2_with fail
    go_ret2
    exact HE.out
  have d1 : decide ((n : Int) < 1) = false := by simp; omega
  by_cases c2 : n ≤ 20
  case neg =>
    have d2 : decide (20 < (n : Int)) = true := by simp; omega
    have HE := Lib.hid (HNO.out (fun h => c2 h.1.2))
    clear HNO
    go_enter Tryz.func109, Tryz.ntmps109
    go_wp2_with fail
    go_ret2
    exact HE.out
  have d2 : decide (20 < (n : Int)) = false := by simp; omega
  by_cases c3 : 1 ≤ m
  case neg =>
    have d3 : decide ((m : Int) < 1) = true := by simp; omega
    have HE := Lib.hid (HNO.out (fun h => c3 h.2.1.1))
    clear HNO
    go_enter Tryz.func109, Tryz.ntmps109
    go_wp2_with fail
    go_ret2
    exact HE.out
  have d3 : decide ((m : Int) < 1) = false := by simp; omega
  by_cases c4 : m ≤ 20
  case neg =>
    have d4 : decide (20 < (m : Int)) = true := by simp; omega
    have HE := Lib.hid (HNO.out (fun h => c4 h.2.1.2))
    clear HNO
    go_enter Tryz.func109, Tryz.ntmps109
    go_wp2_with fail
    go_ret2
    exact HE.out
  have d4 : decide (20 < (m : Int)) = false := by simp; omega
  clear HNO
  obtain ⟨adA, rfl, _⟩ := HA.out.at_ (show 0 < n by omega)
  obtain ⟨adB, rfl, _⟩ := HB.out.at_ (show 0 < m by omega)
  have HS1 := Lib.hid (HA.out.below (below_alloc w (.cells #[] TI)))
  have HO1 := Lib.hid (own_fresh0 w w.heap.size TI w.heap.size rfl (Nat.le_refl _))
  go_enter Tryz.func109, Tryz.ntmps109
  go_wp2_with (at_builtin; refine append_rd _ rfl _ _ TIs rfl w.heap.size TI j0 (.int .i64 0) 8 underI hj hy0 hy1 hy2 rfl _ 0 _ rfl HO1.out b (i64s lx) (some adA) n ca rfl (fun h => by cases h) HS1.out (fun _ => rfl) (by unfold maxLen; omega) (by omega) (by simp) ?_)
  intro v1 w1 hown1 hgr1
  have hb1 := below_grown (below_alloc w (.cells #[] TI)) HO1.out hgr1
  have HB1 := Lib.hid hb1
  have HO2 := Lib.hid hown1
  have HS2 := Lib.hid (HB.out.below hb1)
  have hs1 := hb1.size
  clear hown1 hgr1 hb1 HS1 HO1
  go_wp2_with (at_builtin; refine append_rd _ rfl _ _ TIs rfl w.heap.size TI j0 (.int .i64 0) 8 underI hj hy0 hy1 hy2 rfl _ n _ rfl HO2.out b (i64s ly) (some adB) m cb rfl (fun h => by cases h) HS2.out (fun _ => rfl) (by unfold maxLen; omega) (by omega) hs1 ?_)
  intro v2 w2 hown2 hgr2
  have hb2 := below_grown HB1.out HO2.out hgr2
  rw [cat_list] at hown2
  have hApp : App w TI (i64s (catL n lx ly)) (n + m) v2 w2 := ⟨hown2, hb2⟩
  obtain ⟨A2, cc2, rfl, _, hrd2⟩ := hApp.rd hbw
  have HC := Lib.hid hrd2
  have HB2 := Lib.hid hb2
  obtain ⟨N, hN⟩ : ∃ N, n + m = N := ⟨_, rfl⟩
  have HN := Lib.hid hN
  have hN40 : N ≤ 40 := by omega
  rw [hN] at HC ⊢
  have HP := Lib.hid (show ∀ h : apartP (M.ord q.p) (catL n lx ly) N, ofP (M.ord q.p) n m lx ly from fun h => ⟨⟨c1, c2⟩, ⟨c3, c4⟩, by rw [hN]; exact h⟩)
  have HQ := Lib.hid (show ∀ h : ofP (M.ord q.p) n m lx ly, apartP (M.ord q.p) (catL n lx ly) N from fun h => by rw [← hN]; exact h.2.2)
  obtain ⟨l, hl⟩ : ∃ l, catL n lx ly = l := ⟨_, rfl⟩
  rw [hl] at HC HP HQ
  clear hown2 hgr2 hb2 hApp hrd2 HO2 HS2 HB1 hN hl
  go_wp2_with fail
  go_loopw [11] (fun s11 wr => RuAt (M.ord q.p) l N w2 s11 wr) (fun s11 _ => N - (intOf s11).toNat)
  case atStart => exact ⟨0, Nat.zero_le _, rfl, fun i hi => absurd hi (by omega), 0, rfl⟩
  case round =>
    obtain ⟨i, hi, rfl, hall, q1, rfl⟩ := hrel
    have HALL := Lib.hid hall
    clear hall
    by_cases hlt : i < N
    · obtain ⟨ad, rfl, hc1⟩ := HC.out.at_ hlt
      simp only [i64s] at hc1
      obtain ⟨x, hx⟩ : ∃ x, l i = x := ⟨_, rfl⟩
      rw [hx] at hc1
      have HX := Lib.hid hx
      clear hx
      have e1 : (w2.drewN q1).cell? (ad.add i) = some (.int .i64 x) := hc1
      go_wp2_with fail
      refine (rin32 wd _ hkd x _).mono ?_
      rintro e w' ⟨rfl, rfl⟩
      cases hin : inB (M.ord q.p) x
      · have HE := Lib.hid (ROfAny.no (b := b) (w := w) (w' := w2.drewN q1) (fun h => by
          have h1 := (HQ.out h i hlt).1
          rw [HX.out] at h1
          have := inB_false.1 hin
          omega) (below_tr HB2.out (below_drewN' w2 q1)))
        clear hin
        go_wp2_with fail
        go_ret2
        exact HE.out
      have HIN := Lib.hid (show 0 ≤ x ∧ x ≤ M.ord q.p from by
        have := inB_iff.1 hin
        omega)
      clear hin
      go_wp2_with fail
      go_loopw [12] (fun s12 wr => RuIn l i w2 s12 wr) (fun s12 _ => i - (intOf s12).toNat)
      case atStart => exact ⟨0, Nat.zero_le _, rfl, fun k hk => absurd hk (by omega), q1, rfl⟩
      case round =>
        obtain ⟨k, hk, rfl, hinn, q2, rfl⟩ := hrel
        have HINN := Lib.hid hinn
        clear hinn
        by_cases hlt2 : k < i
        · obtain ⟨ad', e', hc2⟩ := HC.out.at_ (show k < N by omega)
          injection e' with e'
          subst e'
          simp only [i64s] at hc2
          obtain ⟨y, hy⟩ : ∃ y, l k = y := ⟨_, rfl⟩
          rw [hy] at hc2
          have HY := Lib.hid hy
          clear hy
          have f1 : (w2.drewN q2).cell? (ad.add i) = some (.int .i64 x) := hc1
          have f2 : (w2.drewN q2).cell? (ad.add k) = some (.int .i64 y) := hc2
          have hi63 : (i : Int) < (N : Int) := by omega
          have hk63 : (k : Int) < (N : Int) := by omega
          by_cases hxy : x = y
          · have HE := Lib.hid (fun r => ROfAny.no (b := b) (w := w) (w' := w2.drewN r) (fun h => (HQ.out h i hlt).2 k hlt2 (by rw [HX.out, HY.out]; exact hxy)) (below_tr HB2.out (below_drewN' w2 r)))
            subst hxy
            go_wp2_with fail
            go_quiet (fail)
            rw [World.drewN_drewN]
            go_wp2_with fail
            go_ret2
            exact HE.out _
          · have HNX := Lib.hid (show ∀ j, j < k + 1 → l i ≠ l j from fun j hj => (Nat.lt_succ_iff_lt_or_eq.1 hj).elim (fun h => HINN.out j h) (fun h => by rw [h, HX.out, HY.out]; exact hxy))
            have hbe : (x == y) = false := by simpa using hxy
            clear hxy
            go_wp2_with fail
            go_quiet (fail)
            rw [World.drewN_drewN]
            go_wp2_with fail
            exact ⟨⟨k + 1, hlt2, by go_num, HNX.out, _, rfl⟩, by simp [intOf]; omega⟩
        · obtain rfl : k = i := by omega
          have HNX := Lib.hid (show apartP (M.ord q.p) l (k + 1) from fun j hj => (Nat.lt_succ_iff_lt_or_eq.1 hj).elim (fun h => HALL.out j h) (fun h => by rw [h]; exact ⟨by rw [HX.out]; exact HIN.out, HINN.out⟩))
          go_wp2_with fail
          exact ⟨⟨k + 1, hlt, by go_num, HNX.out, _, rfl⟩, by simp [intOf]; omega⟩
    · obtain rfl : i = N := by omega
      have hP := HP.out HALL.out
      have HPP := Lib.hid hP
      have HNE := Lib.hid (show ∀ i, i < n → ∀ j, j < m → toEl q (lx i) ≠ toEl q (ly j) from fun i hi j hj e => hP.xy i j hi hj (toEl_inj (hP.x hi) (hP.y hj) e))
      have HB3 := Lib.hid (below_tr HB2.out (below_drewN' w2 q1))
      have HX3 := Lib.hid (show Rd b (w2.drewN q1) (i64s (fun i => ((toEl q (lx i)).val : Int))) (some adA) n from (HA.out.below HB3.out).congr (fun i hi => by simp only [i64s]; rw [toEl_val (hP.x hi)]))
      have HY3 := Lib.hid (show Rd b (w2.drewN q1) (i64s (fun i => ((toEl q (ly i)).val : Int))) (some adB) m from (HB.out.below HB3.out).congr (fun i hi => by simp only [i64s]; rw [toEl_val (hP.y hi)]))
      obtain ⟨w3, hw3⟩ : ∃ w3, w2.drewN q1 = w3 := ⟨_, rfl⟩
      rw [hw3] at HB3 HX3 HY3 ⊢
      have hbw3 : b < w3.heap.size := Nat.lt_of_lt_of_le hbw HB3.out.size
      clear hP hw3 HALL HC HA HB HB2 HQ HP
      go_wp2_with fail
      go_loopw [13, 14] (fun s13 s14 wr => ∃ i : Nat, i ≤ n ∧ s14 = .int .i64 i ∧ MApp b w3 (ivs (ofE q lx ly)) (fun _ => m) i s13 wr) (fun _ s14 _ => n - (intOf s14).toNat)
      case atStart => exact ⟨0, Nat.zero_le _, rfl, MApp.start _ _ _ _⟩
      case round =>
        obtain ⟨i, hin, rfl, happ⟩ := hrel
        obtain ⟨wi, hwi⟩ : ∃ wi, wi = wr := ⟨_, rfl⟩
        subst hwi
        have HAPP := Lib.hid happ
        have hsz := happ.1.size
        have HBI := Lib.hid happ.1
        clear happ
        by_cases hlt : i < n
        · obtain ⟨adx, ex, cx⟩ := (HX3.out.below HBI.out).at_ hlt
          injection ex with ex
          subst ex
          simp only [i64s] at cx
          go_wp2_with fail
          go_loopw [15, 16] (fun s15 s16 wr => RowIn m (ivs (ofE q lx ly) i) wi s15 s16 wr) (fun _ s16 _ => m - (intOf s16).toNat)
          case atStart => exact ⟨0, Nat.zero_le _, rfl, App.start _ _ _⟩
          case round =>
            obtain ⟨j, hjn, rfl, ha⟩ := hrel
            have HA := Lib.hid ha
            have hsz2 := ha.2.size
            clear ha
            by_cases hlt2 : j < m
            · obtain ⟨ady, ey, cy⟩ := (HY3.out.below (below_tr HBI.out HA.out.2)).at_ hlt2
              injection ey with ey
              subst ey
              simp only [i64s] at cy
              have cx' := (HA.out.2.cell (lt_of_cell cx)).trans cx
              obtain ⟨X, hX⟩ : ∃ X, toEl q (lx i) = X := ⟨_, rfl⟩
              obtain ⟨Y, hY⟩ : ∃ Y, toEl q (ly j) = Y := ⟨_, rfl⟩
              have hne : X ≠ Y := by rw [← hX, ← hY]; exact HNE.out i hlt j hlt2
              have HV := Lib.hid (show i64s (ivs (ofE q lx ly) i) j = .int .i64 (((X + Y).inv).val : Nat) from by simp only [i64s, ivs, ofE, cauE]; rw [hX, hY])
              rw [hX] at cx'
              rw [hY] at cy
              have hzl := (X + Y).le
              have hz1 : (X + Y).val ≠ 0 := fun h0 => hne (El.add_eq_zero.1 (El.eq_zero.2 h0))
              have HXO := Lib.hid (i64_xor_el HGD.out X Y)
              have hxo := HXO.out
              have HRI := Lib.hid (show ∀ w, Calls Tryz.prog 114 #[.int .i64 wd, .int .u32 q.p, .int .i64 (((X + Y).val : Nat) : Int)] w fun e w' => e = .returned (.tuple #[.int .i64 (((X + Y).inv).val : Nat), .bool true]) ∧ w = w' from fun w => (rinv19 q.p wd HGD.out _ w).mono (fun e w' ⟨he, hw⟩ => ⟨by rw [he, finv_yes (by omega) (by omega), Int.toNat_natCast]; rfl, hw⟩))
              obtain ⟨xv, hxv⟩ : ∃ xv, X.val = xv := ⟨_, rfl⟩
              obtain ⟨yv, hyv⟩ : ∃ yv, Y.val = yv := ⟨_, rfl⟩
              obtain ⟨sv, hsv⟩ : ∃ sv, (X + Y).val = sv := ⟨_, rfl⟩
              obtain ⟨iv, hiv⟩ : ∃ iv, ((X + Y).inv).val = iv := ⟨_, rfl⟩
              rw [hxv] at cx' hxo
              rw [hyv] at cy hxo
              rw [hsv] at hxo HRI
              rw [hiv] at HRI HV
              have hi63 : (i : Int) < (n : Int) := by omega
              have hj63 : (j : Int) < (m : Int) := by omega
              have hst : wr.drew.cell? (adA.add i) = some (.int .i64 (xv : Nat)) ∧ wr.drew.cell? (adB.add j) = some (.int .i64 (yv : Nat)) := ⟨cx', cy⟩
              clear hX hY hne hzl hz1 HXO hxv hyv hsv hiv
              go_wp2_with fail
              go_region_held3 (fun w' => w'.cell? (adA.add i) = some (.int .i64 (xv : Nat)) ∧ w'.cell? (adB.add j) = some (.int .i64 (yv : Nat)))
                (first | exact hst | assumption)
                (first | (go_at_call 114; refine (HRI.out _).mono ?_; rintro e w' ⟨rfl, rfl⟩))
              have hsz3 : w3.heap.size ≤ wr.drew.heap.size := by have := hsz2; show w3.heap.size ≤ wr.heap.size; omega
              go_wp2_with (at_builtin; refine wpList_append_own _ rfl _ _ TIs rfl wi.heap.size TI j0 (.int .i64 0) 1 8 underI hj hy0 hy1 hy2 rfl (by decide) _ _ _ rfl (HA.out.drew.1.alloc _) ⟨wr.heap.size, 0, none⟩ 1 1 [i64s (ivs (ofE q lx ly) i) j] rfl rfl (news_one HV.out.symm) (one_i64 _) (by unfold maxLen; omega) (by omega) (by simp; omega) ?_)
              intro v' w4 hown' hgrow _
              have HS := Lib.hid (HA.out.drew.step hown' hgrow)
              clear hown' hgrow
              go_wp2_with fail
              exact ⟨⟨j + 1, hlt2, by go_num, HS.out⟩, by simp [intOf]; omega⟩
            · obtain rfl : j = m := by omega
              obtain ⟨hb0, As0, Cs0, hown0, hrow0⟩ := HAPP.out.below HA.out.2
              have hlo := HAPP.out.2
              obtain ⟨A', c', e', _, _⟩ := HA.out.rd (show b < wi.heap.size by omega)
              subst e'
              have HRY := Lib.hid (show ∀ g, (g = b ∨ u13.ownBlock = some g) → Rd g wr (i64s (ivs (ofE q lx ly) i)) A' j from fun g hg => by
                have hgl : g < wi.heap.size := by
                  rcases hg with rfl | hg
                  · omega
                  · obtain ⟨_, _, ho, _⟩ := hlo
                    exact (ho.lt g hg).2
                obtain ⟨A2, c2, e2, _, h2⟩ := HA.out.rd hgl
                injection e2 with e2
                subst e2
                exact h2)
              have HB0 := Lib.hid hb0
              have HOWN := Lib.hid hown0
              have HROW := Lib.hid hrow0
              have hsz3 := hb0.size
              clear hb0 hown0 hrow0 hlo
              go_wp2_with (at_builtin; refine wpList_append_lies _ rfl _ _ TRI rfl w3.heap.size TIs i0 nilS 1 24 underRI hi0 hz0 hz1 hz2 rfl (by decide) _ i _ rfl (HOWN.out.alloc _) ⟨wr.heap.size, 0, none⟩ 1 1 [.slice A' j c'] rfl rfl (news_one rfl) (one_slice _ _ _) (by omega) (by unfold maxLen; omega) (by omega) (by simp; omega) _ rfl ?_)
              intro g' cap' w5 hown5 hgr5 hg5 _
              have HS := Lib.hid (MApp.step (F := ivs (ofE q lx ly)) (Ls := fun _ => j) HB0.out HOWN.out HROW.out rfl HRY.out hown5 hgr5 hg5)
              clear hown5 hgr5 hg5
              go_wp2_with fail
              exact ⟨⟨i + 1, hlt, by go_num, HS.out⟩, by simp [intOf]; omega⟩
        · obtain rfl : i = n := by omega
          obtain ⟨A6, c6, rfl, _, hx6, hb6⟩ := HAPP.out.told hbw3
          have HE := Lib.hid (show ROfAny q b i m lx ly w (.returned (.tuple #[.slice A6 i c6, .bool true])) wi from ⟨true, A6, c6, rfl, by simp [HPP.out], hx6, below_tr HB3.out hb6⟩)
          clear hx6 hb6 HAPP
          go_wp2_with fail
          go_ret2
          exact HE.out
end Go.Proofs.YtgdgimknnjbieaaGreatDoor

namespace Go.Proofs.YtgdgimknnjbieaaGreatDoor
open Go.RowKit

/-- what Orig and Isal of the document tell, whatever they are asked -/
def RCAny (q : FP) (b : Nat) (u : Bool) (n m : Nat) (E : Nat → Nat → El q) (w : World) (e : Ending) (w' : World) : Prop :=
  ∃ A c, e = .returned (.tuple #[.slice A (cond u n 0) c, .bool u]) ∧ Mx b w' (ivs E) (fun _ => m) A (cond u n 0) ∧ Below w.heap.size w w'

set_option maxRecDepth 100000 in
set_option maxHeartbeats 2000000 in
theorem rorig_yes (q : FP) (b wd k m : Nat) (hg : Good q.p wd) (hk : 1 ≤ k) (hm : 1 ≤ m) (hkm : k + m ≤ 20) (w : World) (hbw : b < w.heap.size) :
    Calls Tryz.prog 67 #[.int .i64 wd, .int .u32 q.p, .int .i64 k, .int .i64 m] w (RCAny q b true m k (ofE q (frm 0) (frm m)) w) := by
  have HFT := Lib.hid (show fitsI (k : Int) (m : Int) from ⟨⟨by omega, by omega⟩, ⟨by omega, by omega⟩, by omega⟩)
  have HP := Lib.hid (show ofP (M.ord q.p) m k (frm 0) (frm m) from ⟨⟨by omega, by omega⟩, ⟨by omega, by omega⟩, frm_apart (by have := hg.kind.bounds; omega)⟩)
  have H0 := Lib.hid (rfrom31 0 m (by omega) (by omega))
  have H1 := Lib.hid (rfrom31 m k (by omega) (by omega))
  have HG := Lib.hid hg
  have hk20 : k ≤ 20 := by omega
  have hm20 : m ≤ 20 := by omega
  clear hg hkm
  go_enter Tryz.func67, Tryz.ntmps67
  go_wp2_with fail
  refine (rfits24 k m _).mono ?_
  rintro e w' ⟨t, rfl, ht, rfl⟩
  obtain rfl : t = true := ht.2 HFT.out
  clear ht
  go_wp2_with fail
  refine (H0.out _).mono ?_
  rintro e w1 ⟨v1, rfl, ha1⟩
  obtain ⟨A1, c1, rfl, _, hr1⟩ := ha1.rd hbw
  have R1 := Lib.hid hr1
  have B1 := Lib.hid ha1.2
  clear hr1 ha1
  go_wp2_with fail
  refine (H1.out _).mono ?_
  rintro e w2 ⟨v2, rfl, ha2⟩
  have hs1 := B1.out.size
  obtain ⟨A2, c2, rfl, _, hr2⟩ := ha2.rd (show b < w1.heap.size by omega)
  have R2 := Lib.hid hr2
  have R1' := Lib.hid (R1.out.below ha2.2)
  have B2 := Lib.hid (below_tr B1.out ha2.2)
  clear hr2 ha2 R1 B1
  have hs2 := B2.out.size
  go_wp2_with fail
  refine (rof10 q b wd m k HG.out (frm 0) (frm m) A1 A2 c1 c2 _ (by omega) R1'.out R2.out).mono ?_
  rintro e w3 ⟨t, A, c, rfl, ht, hx, hb3⟩
  obtain rfl : t = true := ht.2 HP.out
  have HE := Lib.hid (show RCAny q b true m k (ofE q (frm 0) (frm m)) w (.returned (.tuple #[.slice A m c, .bool true])) w3 from ⟨A, c, rfl, hx, below_tr B2.out hb3⟩)
  clear ht hx hb3
  go_wp2_with fail
  go_ret2
  exact HE.out

set_option maxRecDepth 100000 in
set_option maxHeartbeats 2000000 in
theorem rcisal_yes (q : FP) (b wd k m : Nat) (hg : Good q.p wd) (hk : 1 ≤ k) (hm : 1 ≤ m) (hkm : k + m ≤ 20) (w : World) (hbw : b < w.heap.size) :
    Calls Tryz.prog 69 #[.int .i64 wd, .int .u32 q.p, .int .i64 k, .int .i64 m] w (RCAny q b true m k (ofE q (frm k) (frm 0)) w) := by
  have HFT := Lib.hid (show fitsI (k : Int) (m : Int) from ⟨⟨by omega, by omega⟩, ⟨by omega, by omega⟩, by omega⟩)
  have HP := Lib.hid (show ofP (M.ord q.p) m k (frm k) (frm 0) from ⟨⟨by omega, by omega⟩, ⟨by omega, by omega⟩, frm_apart' (by have := hg.kind.bounds; omega)⟩)
  have H0 := Lib.hid (rfrom31 k m (by omega) (by omega))
  have H1 := Lib.hid (rfrom31 0 k (by omega) (by omega))
  have HG := Lib.hid hg
  have hk20 : k ≤ 20 := by omega
  have hm20 : m ≤ 20 := by omega
  clear hg hkm
  go_enter Tryz.func69, Tryz.ntmps69
  go_wp2_with fail
  refine (rfits24 k m _).mono ?_
  rintro e w' ⟨t, rfl, ht, rfl⟩
  obtain rfl : t = true := ht.2 HFT.out
  clear ht
  go_wp2_with fail
  refine (H0.out _).mono ?_
  rintro e w1 ⟨v1, rfl, ha1⟩
  obtain ⟨A1, c1, rfl, _, hr1⟩ := ha1.rd hbw
  have R1 := Lib.hid hr1
  have B1 := Lib.hid ha1.2
  clear hr1 ha1
  go_wp2_with fail
  refine (H1.out _).mono ?_
  rintro e w2 ⟨v2, rfl, ha2⟩
  have hs1 := B1.out.size
  obtain ⟨A2, c2, rfl, _, hr2⟩ := ha2.rd (show b < w1.heap.size by omega)
  have R2 := Lib.hid hr2
  have R1' := Lib.hid (R1.out.below ha2.2)
  have B2 := Lib.hid (below_tr B1.out ha2.2)
  clear hr2 ha2 R1 B1
  have hs2 := B2.out.size
  go_wp2_with fail
  refine (rof10 q b wd m k HG.out (frm k) (frm 0) A1 A2 c1 c2 _ (by omega) R1'.out R2.out).mono ?_
  rintro e w3 ⟨t, A, c, rfl, ht, hx, hb3⟩
  obtain rfl : t = true := ht.2 HP.out
  have HE := Lib.hid (show RCAny q b true m k (ofE q (frm k) (frm 0)) w (.returned (.tuple #[.slice A m c, .bool true])) w3 from ⟨A, c, rfl, hx, below_tr B2.out hb3⟩)
  clear ht hx hb3
  go_wp2_with fail
  go_ret2
  exact HE.out

end Go.Proofs.YtgdgimknnjbieaaGreatDoor

namespace Go.Proofs.YtgdgimknnjbieaaGreatDoor
open Go.RowKit

/-- what Safe of the document tells -/
def RSafeSaid (q : FP) (m : Nat) (Ls : Nat → Nat) (F : Nat → Nat → Int) (w : World) (e : Ending) (w' : World) : Prop :=
  ∃ s t, e = .returned (.tuple #[.bool t, .int .i64 (errOf s)]) ∧ (s = true ↔ safeP (M.ord q.p) m Ls F) ∧ (t = true ↔ s = true ∧ SafeP q (Ls 0) m (elM q F)) ∧ Below w.heap.size w w'
theorem RSafeSaid.no {q : FP} {m : Nat} {Ls : Nat → Nat} {F : Nat → Nat → Int} {w w' : World} (h : ¬ safeP (M.ord q.p) m Ls F) (hb : Below w.heap.size w w') : RSafeSaid q m Ls F w (.returned (.tuple #[.bool false, .int .i64 1])) w' :=
  ⟨false, false, rfl, by simp [h], by simp, hb⟩
end Go.Proofs.YtgdgimknnjbieaaGreatDoor
