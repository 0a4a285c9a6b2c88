/- Contracts of gambrelref08: next, Safe. -/
import Derived.Test.YtgcochamjicjiaaGreatCyi
import Derived.Test.YtgcochamjicjiaaGreatCyg
namespace Go.Proofs.YtgcochamjicjiaaGreat
open Go.RowKit

/-- what next of the document tells -/
def RNextSaid (k n : Nat) (l : Nat → Nat) (w : World) (e : Ending) (w' : World) : Prop :=
  (∃ i v, MovesAt k n l i ∧ e = .returned (.tuple #[v, .bool true]) ∧ App w TI (chs (nxt l i)) k v w') ∨ ((∀ r, r < k → n + r ≤ l r + k) ∧ e = .returned (.tuple #[nilS, .bool false]) ∧ w = w')
theorem one_chs (l : Nat → Nat) (j : Nat) : (chs l j).oneCell' = true := rfl
/-- in the loop that fills the next choice -/
def NxIn (k i : Nat) (l : Nat → Nat) (w : World) (s8 s9 : Value) (wr : World) : Prop := ∃ j : Nat, i ≤ j ∧ j ≤ k ∧ s9 = .int .i64 j ∧ App w TI (chs (nxt l i)) j s8 wr

set_option maxRecDepth 100000 in
set_option maxHeartbeats 4000000 in
theorem rnext28 (b k n : Nat) (l : Nat → Nat) (ad : Addr) (c : Nat) (hk : 1 ≤ k) (hkn : k ≤ n) (hn : n ≤ 40) (hc : k ≤ c) (hR : Rise k n l) (w : World) (hr : Rd b w (chs l) (some ad) k) :
    Calls Tryz.prog 28 #[.slice (some ad) k c, .int .i64 n] w (RNextSaid k n l w) := by
  obtain ⟨j0, hj, hy0, hy1, hy2⟩ := info_parts infoI
  have HR := Lib.hid hr
  have HRI := Lib.hid hR
  clear hr hR
  go_enter Tryz.func28, Tryz.ntmps28
  go_wp2_with fail
  go_loop [7] (fun s7 => MvAt k n l s7) (fun s7 => (intOf s7 + 1).toNat)
  case atStart => exact ⟨k, Nat.le_refl _, rfl, fun r h1 h2 => absurd h1 (by omega)⟩
  case round =>
    obtain ⟨i, hi, rfl, hlast⟩ := hrel
    have HL := Lib.hid hlast
    clear hlast
    by_cases hz : i = 0
    · subst hz
      have HE := Lib.hid (show RNextSaid k n l w (.returned (.tuple #[nilS, .bool false])) w from Or.inr ⟨fun r hr => HL.out r (Nat.zero_le _) hr, rfl, rfl⟩)
      go_wp2_with fail
      go_ret2
      exact HE.out
    · obtain ⟨i, rfl⟩ : ∃ i', i = i' + 1 := ⟨i - 1, by omega⟩
      have hlt : i < k := by omega
      have e1 : (((i + 1 : Nat) : Int) - 1) = (i : Int) := by omega
      rw [e1]
      obtain ⟨ad', e', hcell⟩ := HR.out.at_ hlt
      injection e' with e'
      subst e'
      simp only [chs] at hcell
      have hln := HRI.out.1 i hlt
      obtain ⟨x, hx⟩ : ∃ x, l i = x := ⟨_, rfl⟩
      have HX := Lib.hid hx
      rw [hx] at hcell hln
      by_cases hmv : x + k < n + i
      · have HM := Lib.hid (show MovesAt k n l i from ⟨hlt, by rw [hx]; exact hmv, fun r h1 h2 => HL.out r (by omega) h2⟩)
        have d1 : decide ((x : Int) < (n : Int) - (k : Int) + (i : Int)) = true := by simp; omega
        have HS1 := Lib.hid ((HR.out.below (below_alloc w (.cells #[] TI))).take (show i ≤ k by omega))
        have HO1 := Lib.hid (own_fresh0 w w.heap.size TI w.heap.size rfl (Nat.le_refl _))
        have hic : (i : Int) ≤ (c : Int) := by omega
        have hic' : i ≤ c := by omega
        clear hx e1
        go_wp2_with (at_builtin; refine append_rd _ rfl _ _ TIs rfl w.heap.size TI j0 (.int .i64 0) 8 underI hj hy0 hy1 hy2 rfl _ 0 _ rfl HO1.out b (chs l) (some ad) i c rfl (fun h => by cases h) HS1.out (one_chs l) (by unfold maxLen; omega) (by omega) (by simp) ?_)
        intro v1 w1 hown1 hgr1
        have hb1 := below_grown (below_alloc w (.cells #[] TI)) HO1.out hgr1
        have HA0 := Lib.hid (show App w TI (chs (nxt l i)) i v1 w1 from ⟨by
          rw [← range_congr (k := chs l) (fun j hj => by unfold chs nxt; rw [if_pos hj])]
          simpa using hown1, hb1⟩)
        clear hown1 hgr1 hb1 HS1 HO1
        go_wp2_with fail
        go_loopw [8, 9] (fun s8 s9 wr => NxIn k i l w s8 s9 wr) (fun _ s9 _ => k - (intOf s9).toNat)
        case atStart => exact ⟨i, Nat.le_refl _, by omega, rfl, HA0.out⟩
        case round =>
          clear HA0
          obtain ⟨j, hij, hjk, rfl, ha⟩ := hrel
          have HA := Lib.hid ha
          have hsz := ha.2.size
          have hcw := (ha.2.cell (lt_of_cell hcell)).trans hcell
          clear ha
          by_cases hlt2 : j < k
          · have HV := Lib.hid (show chs (nxt l i) j = .int .i64 ((x : Int) + 1 + (j : Int) - (i : Int)) from by
              unfold chs nxt
              rw [if_neg (by omega), HX.out]
              congr 1
              omega)
            go_wp2_with (at_builtin; refine wpList_append_own _ rfl _ _ TIs rfl w.heap.size TI j0 (.int .i64 0) 1 8 underI hj hy0 hy1 hy2 rfl (by decide) _ _ _ rfl (HA.out.1.alloc _) ⟨wr.heap.size, 0, none⟩ 1 1 [chs (nxt l i) j] rfl rfl (news_one HV.out.symm) (one_i64 _) (by unfold maxLen; omega) (by omega) (by simp; omega) ?_)
            intro v' w3 hown' hgrow _
            have HS := Lib.hid (HA.out.step hown' hgrow)
            clear hown' hgrow hcw
            go_wp2_with fail
            exact ⟨⟨j + 1, by omega, hlt2, by go_num, HS.out⟩, by simp [intOf]; omega⟩
          · obtain rfl : j = k := by omega
            have HE := Lib.hid (show RNextSaid j n l w (.returned (.tuple #[u8, .bool true])) wr from Or.inl ⟨i, u8, HM.out, rfl, HA.out⟩)
            clear hcw
            go_wp2_with fail
            go_ret2
            exact HE.out
      · have d1 : decide ((x : Int) < (n : Int) - (k : Int) + (i : Int)) = false := by simp; omega
        have HS := Lib.hid (show MvAt k n l (.int .i64 ((i : Int) - 1)) from ⟨i, by omega, rfl, fun r h1 h2 => by
          by_cases e : r = i
          · subst e; rw [HX.out]; omega
          · exact HL.out r (by omega) h2⟩)
        clear hx e1
        go_wp2_with fail
        exact ⟨HS.out, by simp [intOf] <;> omega⟩

/-- what Safe of the document tells -/
def RSafeSaid (q : FP) (m : Nat) (Ls : Nat → Nat) (F : Nat → Nat → Int) (w : World) (e : Ending) (w' : World) : Prop :=
  ∃ s t, e = .returned (.tuple #[.bool t, .int .i64 (errOf s)]) ∧ (s = true ↔ safeP (M.ord q.p) m Ls F) ∧ (t = true ↔ s = true ∧ SafeP q (Ls 0) m (elM q F)) ∧ Below w.heap.size w w'
theorem RSafeSaid.no {q : FP} {m : Nat} {Ls : Nat → Nat} {F : Nat → Nat → Int} {w w' : World} (h : ¬ safeP (M.ord q.p) m Ls F) (hb : Below w.heap.size w w') : RSafeSaid q m Ls F w (.returned (.tuple #[.bool false, .int .i64 1])) w' :=
  ⟨false, false, rfl, by simp [h], by simp, hb⟩
/-- the choice that a slice holds -/
def chSl (v : Value) (W : World) (j : Nat) : Nat := match v with
  | .slice (some ad) _ _ => match W.cell? (ad.add j) with
    | some u => (intOf u).toNat
    | none => 0
  | _ => 0
theorem chSl_rd {b : Nat} {W : World} {ad : Addr} {k c : Nat} {l : Nat → Nat} (h : Rd b W (chs l) (some ad) k) {j : Nat} (hj : j < k) : chSl (.slice (some ad) k c) W j = l j := by
  obtain ⟨ad', e, hc⟩ := h.at_ hj
  injection e with e
  subst e
  unfold chSl
  dsimp only
  rw [hc]
  simp [chs, intOf]
def rsMs (k N : Nat) (s11 s12 : Value) (W : World) : Nat := match s12 with
  | .bool true => N ^ k - chV N (chSl s11 W) k
  | _ => 0
/-- in the loop of Safe -/
def RsAt (q : FP) (b k m : Nat) (E : Nat → Nat → El q) (w3 : World) (s11 s12 : Value) (wr : World) : Prop :=
  Below w3.heap.size w3 wr ∧ ((s12 = .bool true ∧ ∃ l ad c, Rise k (k + m) l ∧ s11 = .slice (some ad) k c ∧ k ≤ c ∧ Rd b wr (chs l) (some ad) k ∧ SafeTo q k m E l) ∨ (s12 = .bool false ∧ SafeP q k m E))

set_option maxRecDepth 100000 in
set_option maxHeartbeats 8000000 in
theorem rsafe9 (q : FP) (b wd m : Nat) (hg : Good q.p wd) (Ls : Nat → Nat) (F : Nat → Nat → Int) (A : Option Addr) (cap : Nat) (w : World) (hbw : b < w.heap.size) (hm : Mx b w F Ls A m) :
    Calls Tryz.prog 9 #[.int .i64 wd, .int .u32 q.p, .slice A m cap] w (RSafeSaid q m Ls F w) := by
  have hkd := hg.kind
  have hcb := hkd.bounds
  have HG := Lib.hid hg
  have HM := Lib.hid hm
  clear hm hg
  go_enter Tryz.func9, Tryz.ntmps9
  go_wp2_with fail
  refine (rmay17 b wd (M.ord q.p) hkd F Ls A m cap _ HM.out).mono ?_
  rintro e w1 ⟨t, rfl, ht, q1, rfl⟩
  have HB1 := Lib.hid (below_drewN' w q1)
  generalize w.drewN q1 = w1 at *
  cases t
  · have HE := Lib.hid (RSafeSaid.no (q := q) (m := m) (Ls := Ls) (F := F) (w := w) (w' := w1) (fun h => by have := ht.2 h.1; cases this) HB1.out)
    clear ht
    go_wp2_with fail
    go_ret2
    exact HE.out
  have hmay := ht.1 rfl
  have hm1 := hmay.1.1
  have hm20 := hmay.1.2
  have hk1 := hmay.2.1.1
  have hk20 := hmay.2.1.2
  have HMAY := Lib.hid hmay
  have HX1 := Lib.hid (HM.out.below HB1.out)
  obtain ⟨As, Cs, ra, _⟩ := HM.out.below HB1.out
  obtain ⟨ad, rfl, hc0⟩ := ra.at_ (show 0 < m by omega)
  rw [show ad.add 0 = ad by simp [Addr.add]] at hc0
  simp only [slis] at hc0
  have hm0 : (0 : Int) < (m : Int) := by omega
  have HLS := Lib.hid (show ∀ r, r < m → Ls r = Ls 0 from fun r hr => (hmay.2.2 r hr).1)
  have hbw1 : b < w1.heap.size := Nat.lt_of_lt_of_le hbw HB1.out.size
  clear ht hmay ra
  by_cases h5 : m ≤ 5
  case neg =>
    have e1 : decide ((5 : Int) < (m : Int)) = true := by simp; omega
    have HE := Lib.hid (RSafeSaid.no (q := q) (m := m) (Ls := Ls) (F := F) (w := w) (w' := w1) (fun h => h5 h.2.1) HB1.out)
    go_wp2_with fail
    go_ret2
    exact HE.out
  have e1 : decide ((5 : Int) < (m : Int)) = false := by simp; omega
  by_cases h8 : Ls 0 ≤ 8
  case neg =>
    have e2 : decide ((8 : Int) < ((Ls 0 : Nat) : Int)) = true := by simp; omega
    have HE := Lib.hid (RSafeSaid.no (q := q) (m := m) (Ls := Ls) (F := F) (w := w) (w' := w1) (fun h => h8 h.2.2) HB1.out)
    go_wp2_with fail
    go_ret2
    exact HE.out
  have e2 : decide ((8 : Int) < ((Ls 0 : Nat) : Int)) = false := by simp; omega
  have HYS := Lib.hid (show safeP (M.ord q.p) m Ls F from ⟨HMAY.out, h5, h8⟩)
  obtain ⟨k, hk⟩ : ∃ k, Ls 0 = k := ⟨_, rfl⟩
  have HK := Lib.hid hk
  rw [hk] at hc0 e2 h8 hk1 hk20
  have HMJ := Lib.hid (show mayP (M.ord q.p) k (fun _ => k) idF from ⟨⟨hk1, hk20⟩, ⟨hk1, hk20⟩, fun r _ => ⟨rfl, fun j _ => by unfold idF; split <;> omega⟩⟩)
  have HMW := Lib.hid (show mayP (M.ord q.p) (k + m) (fun _ => k) (joinF k idF F) from ⟨⟨by omega, by omega⟩, ⟨hk1, hk20⟩, fun r hr => ⟨rfl, fun j hj => by
      unfold joinF
      split
      · exact (HMJ.out.2.2 r (by omega)).2 j hj
      · exact (HMAY.out.2.2 (r - k) (by omega)).2 j (by rw [HLS.out _ (by omega), HK.out]; exact hj)⟩⟩)
  have HJP := Lib.hid (show joinP (M.ord q.p) k (fun _ => k) idF m Ls F from ⟨HMJ.out, HMAY.out, HK.out.symm, by omega⟩)
  clear hk
  go_wp2_with fail
  refine (ridentity26 b k hk20 _ hbw1).mono ?_
  rintro e w2 ⟨v, rfl, AI, cI, rfl, _, hxI, hb2⟩
  have HXI := Lib.hid hxI
  have HX2 := Lib.hid (HX1.out.below hb2)
  have HB2 := Lib.hid (below_tr HB1.out hb2)
  have hbw2 : b < w2.heap.size := Nat.lt_of_lt_of_le hbw1 hb2.size
  clear hxI hb2 HX1
  go_wp2_with fail
  refine (rjoin15 b wd (M.ord q.p) hkd idF F (fun _ => k) Ls AI (some ad) k m cI cap _ hbw2 HXI.out HX2.out).mono ?_
  rintro e w3 ⟨t, v, rfl, ht, hv⟩
  obtain rfl : t = true := ht.2 HJP.out
  obtain ⟨A3, c3, rfl, _, hx3, hb3⟩ := hv
  have HX3 := Lib.hid (show Mx b w3 (joinF k idF F) (fun _ => k) A3 (k + m) from hx3.congr (fun r hr => by
    unfold joinL
    simp only [cond] at hr
    split
    · rfl
    · rw [HLS.out (r - k) (by omega), HK.out]) (fun _ _ _ _ => rfl))
  have HB3 := Lib.hid (below_tr HB2.out hb3)
  have hbw3 : b < w3.heap.size := Nat.lt_of_lt_of_le hbw2 hb3.size
  simp only [cond]
  clear ht hx3 hb3 HX2 HXI HB2 HB1
  go_wp2_with fail
  refine (rfrom31 0 k (by omega) (by omega) _).mono ?_
  rintro e w4 ⟨v, rfl, ha⟩
  obtain ⟨A4, c4, rfl, hc4, hr4⟩ := ha.rd hbw3
  obtain ⟨ad4, rfl, _⟩ := hr4.at_ (show 0 < k by omega)
  have HS := Lib.hid (show RsAt q b k m (elM q F) w3 (.slice (some ad4) k c4) (.bool true) w4 from ⟨ha.2, Or.inl ⟨rfl, fun i => i, ad4, c4, first_rise (by omega), rfl, hc4, hr4.congr (fun j _ => by simp only [i64s, frm, chs, Nat.zero_add]), safeTo_first _ _ _⟩⟩)
  clear ha hr4
  go_wp2_with fail
  go_loopw [11, 12] (fun s11 s12 wr => RsAt q b k m (elM q F) w3 s11 s12 wr) (fun s11 s12 wr => rsMs k (k + m) s11 s12 wr)
  case atStart => exact HS.out
  case round =>
    clear HS
    obtain ⟨hb5, hcase⟩ := hrel
    have HB5 := Lib.hid (below_tr HB3.out hb5)
    have HX5 := Lib.hid (HX3.out.below hb5)
    have HB35 := Lib.hid hb5
    have hbw5 : b < wr.heap.size := Nat.lt_of_lt_of_le hbw3 hb5.size
    rcases hcase with ⟨rfl, l, ad5, c5, hR, rfl, hc5, hr5, hTo⟩ | ⟨rfl, hSf⟩
    · have HRI := Lib.hid hR
      have HR5 := Lib.hid hr5
      have HTO := Lib.hid hTo
      obtain ⟨w5, hw5⟩ : ∃ w5, w5 = wr := ⟨_, rfl⟩
      subst hw5
      have HPP := Lib.hid (show pickP (M.ord q.p) (k + m) (fun _ => k) (joinF k idF F) k (fun j => ((l j : Nat) : Int)) from ⟨HMW.out, HMW.out.2.1, fun r hr => by have := hR.1 r hr; dsimp only; omega⟩)
      have HSQ := Lib.hid (show sqP (M.ord q.p) k (fun _ => k) (fun r => joinF k idF F (l r)) from ⟨⟨HMW.out.2.1, HMW.out.2.1, fun r hr => ⟨rfl, (HMW.out.2.2 (l r) (hR.1 r hr)).2⟩⟩, rfl⟩)
      clear hR hr5 hTo hb5
      go_wp2_with fail
      refine (rpick13 b wd (M.ord q.p) hkd (joinF k idF F) (fun _ => k) A3 (some ad5) (k + m) k c3 c5 (fun j => ((l j : Nat) : Int)) w5 hbw5 HX5.out HR5.out).mono ?_
      rintro e w6 ⟨t, v, rfl, ht, hv⟩
      obtain rfl : t = true := ht.2 HPP.out
      obtain ⟨A6, c6, rfl, _, hx6, hb6⟩ := hv
      have HX6 := Lib.hid (show Mx b w6 (fun r => joinF k idF F (l r)) (fun _ => k) A6 k from hx6)
      have HB6 := Lib.hid (below_tr HB35.out hb6)
      have HR6 := Lib.hid (HR5.out.below hb6)
      have hbw6 : b < w6.heap.size := Nat.lt_of_lt_of_le hbw5 hb6.size
      simp only [cond]
      clear ht hx6 hb6
      go_wp2_with fail
      refine (rinverse13 q b wd k HG.out (fun _ => k) (fun r => joinF k idF F (l r)) A6 c6 _ hbw6 HX6.out).mono ?_
      rintro e w7 ⟨s, t, v, rfl, hs, ht, _, _, _, _, _, hb7⟩
      obtain rfl : s = true := hs.2 HSQ.out
      have hgt := ht rfl
      rw [good_join F l] at hgt
      have HB7 := Lib.hid (below_tr HB6.out hb7)
      have HR7 := Lib.hid (HR6.out.below hb7)
      clear hs ht hb7 HSQ HPP
      cases t
      · have HE := Lib.hid (show RSafeSaid q m Ls F w (.returned (.tuple #[.bool false, .int .i64 0])) w7 from ⟨true, false, rfl, by simp [HYS.out], ⟨fun h => (by cases h), fun h => by
          have h2 := h.2
          rw [HK.out] at h2
          have := hgt.2 (h2 l HRI.out)
          cases this⟩, below_tr HB3.out HB7.out⟩)
        simp only [err2, cond]
        clear hgt
        go_wp2_with fail
        go_ret2
        exact HE.out
      · have HGC := Lib.hid (hgt.1 rfl)
        simp only [err2, cond]
        clear hgt
        go_wp2_with fail
        refine (rnext28 b k (k + m) l ad5 c5 hk1 (by omega) (by omega) hc5 HRI.out _ HR7.out).mono ?_
        rintro e w8 (⟨i, v8, hmv, rfl, ha8⟩ | ⟨hlast, rfl, rfl⟩)
        · have hbw7 : b < w7.heap.size := Nat.lt_of_lt_of_le hbw3 HB7.out.size
          obtain ⟨A8, c8, rfl, hc8, hr8⟩ := ha8.rd hbw7
          obtain ⟨ad8, rfl, _⟩ := hr8.at_ (show 0 < k by omega)
          have HS := Lib.hid (show RsAt q b k m (elM q F) w3 (.slice (some ad8) k c8) (.bool true) w8 from ⟨below_tr HB7.out ha8.2, Or.inl ⟨rfl, nxt l i, ad8, c8, nxt_rise HRI.out hmv, rfl, hc8, hr8, safeTo_next HTO.out HGC.out hmv⟩⟩)
          have HME := Lib.hid (show rsMs k (k + m) (.slice (some ad8) k c8) (.bool true) w8 < rsMs k (k + m) (.slice (some ad5) k c5) (.bool true) w5 from by
            show (k + m) ^ k - chV (k + m) (chSl (.slice (some ad8) k c8) w8) k < (k + m) ^ k - chV (k + m) (chSl (.slice (some ad5) k c5) w5) k
            rw [chV_same (l' := nxt l i) k (fun j hj => chSl_rd hr8 hj), chV_same (l' := l) k (fun j hj => chSl_rd HR5.out hj)]
            have h1 := chV_step HRI.out hmv
            have h2 := chV_lt k (nxt_rise HRI.out hmv).1
            omega)
          clear hmv ha8 hr8 HR7 HGC HTO
          go_wp2_with fail
          exact ⟨HS.out, HME.out⟩
        · have HS := Lib.hid (show RsAt q b k m (elM q F) w3 nilS (.bool false) w7 from ⟨HB7.out, Or.inr ⟨rfl, safeTo_last HTO.out HGC.out hlast⟩⟩)
          have HME := Lib.hid (show rsMs k (k + m) nilS (.bool false) w7 < rsMs k (k + m) (.slice (some ad5) k c5) (.bool true) w5 from by
            show 0 < (k + m) ^ k - chV (k + m) (chSl (.slice (some ad5) k c5) w5) k
            rw [chV_same (l' := l) k (fun j hj => chSl_rd HR5.out hj)]
            have h2 := chV_lt k HRI.out.1
            omega)
          clear hlast HR7 HGC HTO
          go_wp2_with fail
          exact ⟨HS.out, HME.out⟩
    · have HE := Lib.hid (show RSafeSaid q m Ls F w (.returned (.tuple #[.bool true, .int .i64 0])) wr from ⟨true, true, rfl, by simp [HYS.out], ⟨fun _ => ⟨rfl, by rw [HK.out]; exact hSf⟩, fun _ => rfl⟩, HB5.out⟩)
      clear hSf hb5
      go_wp2_with fail
      go_ret2
      exact HE.out
end Go.Proofs.YtgcochamjicjiaaGreat
