/- Layer 10: the contract of the document's Join. -/
import Derived.Test.YtalallkpejlclaaDoorLyg
import Derived.Test.YtalallkpejlclaaDoorLyh
import Derived.Deep.RegionHeld3
namespace Go.Proofs.YtalallkpejlclaaDoor
open Go.RowKit

theorem same_join2 {p l n : Int} {N S S2 M a : Nat} {F : Nat → Nat → Nat} {Ls : Nat → Nat} (hl : layI p = l) (ha : aheadL l = a) (hn : numJ l n (catF S F) = (M : Int)) (hM : M ≤ 4096) (hS : S2 = szU (unitL (layI p)) N (aheadL (layI p) + M)) (haM : a + M ≤ N * S) (hL : ∀ r, r < N → Ls r = S) (h1 : 1 ≤ N) :
    sameP N N (fun _ => S2) Ls (splF p S2 M (fun i => catF S F (a + i))) F ↔ joinP l N S n F := by
  by_cases e : S2 = S
  · subst e
    exact same_join hl ha hn hM hS haM hL
  · refine ⟨fun h => absurd ?_ e, fun h => absurd ?_ e⟩
    · have := (h.2 0 (by omega)).1
      rw [hL 0 (by omega)] at this
      exact this
    · have := h.2.2.2.1
      rw [hn, Int.toNat_natCast, ← hl, ← hS] at this
      exact this

theorem own_nil {w : World} {base e n c : Nat} {A : Option Addr} {xs : List Value} (h : w.ownsRow base e 1 (.slice A n c) n xs) (hA : A = none) : c = 0 := by
  rcases h.2 with ⟨h1, _⟩ | ⟨g, cap, cur, h1, _⟩
  · injection h1
  · injection h1 with h1
    rw [hA] at h1
    cases h1
/-- in the loop that joins all shards -/
def RJoinAt (F : Nat → Nat → Nat) (Ls : Nat → Nat) (S N : Nat) (w1 : World) (s8 s9 : Value) (wr : World) : Prop :=
  ∃ i : Nat, i ≤ N ∧ s9 = .int .i64 i ∧ (∀ r, r < i → Ls r = S) ∧ App w1 TB (u8s (catF S F)) (i * S) s8 wr

/-- the number that the first i bytes say -/
def partF (c : Nat → Nat) : Nat → Nat
  | 0 => 0
  | i + 1 => 256 * partF c i + c i
theorem partF_lt {c : Nat → Nat} (h : ∀ j, c j < 256) : ∀ i, partF c i < 256 ^ i
  | 0 => by simp [partF]
  | i + 1 => by
    have h1 := partF_lt h i
    have h2 := h i
    rw [partF, Nat.pow_succ]
    omega
theorem partF_four (c : Nat → Nat) : partF c 4 = saysF c := by
  simp only [partF, saysF]
  omega

set_option maxRecDepth 100000 in
set_option maxHeartbeats 4000000 in
theorem rjoin_arg (b : Nat) (p k m : Int) (F : Nat → Nat → Nat) (Ls : Nat → Nat) (As : Nat → Option Addr) (Cs : Nat → Nat) (A : Option Addr) (N ca : Nat) (hN : N ≤ 100) (hL : ∀ r, r < N → Ls r ≤ 1000) (n : Int) (w : World) (hr1 : Rd b w (slis As Ls Cs) A N) (hr2 : ∀ r, r < N → Rd b w (u8s (F r)) (As r) (Ls r)) (hnil : ∀ r, r < N → As r = none → Cs r = 0) (hno : ¬ okJ p k m N Ls) :
    Calls Tryd.prog 17 #[.agg (parA p k m), .slice A N ca, .int .i64 n] w (JoinSaid p k m N Ls F n w) := by
  obtain ⟨i0, hi, hz0, hz1, hz2⟩ := info_parts infoB
  obtain ⟨v, hv⟩ : ∃ v, w.alloc (.cells #[.int .i64 p, .int .i64 k, .int .i64 m] TPa) = v := ⟨_, rfl⟩
  obtain ⟨_, e0, hbv⟩ := one_box hv
  have E0 := Lib.hid e0
  have HV := Lib.hid hbv
  have HM := Lib.hid (rmay16 p k m v)
  have HE := Lib.hid (fun w' (h : Below w.heap.size w w') => JoinSaid.arg (F := F) (n := n) hno h)
  have HNO := Lib.hid hno
  have HR := Lib.hid hr1
  have HR2 := Lib.hid hr2
  have HNIL := Lib.hid hnil
  have HLL := Lib.hid hL
  clear e0 hbv hno hr1 hr2 hnil hL
  obtain ⟨d0, d1, d2⟩ := box_three E0.out
  go_enter Tryd.func17, Tryd.ntmps17
  go_wp2_with fail
  refine HM.out.mono ?_
  rintro e w1 ⟨t, rfl, ht, hb1⟩
  have H1 := Lib.hid (below_tr HV.out hb1)
  have E1 := Lib.hid (kept_box E0.out hb1)
  have HT := Lib.hid ht
  clear ht hb1 d0 d1 d2 HM
  cases t
  · go_wp2_with fail
    go_ret2
    exact HE.out _ H1.out
  obtain ⟨d0, d1, d2⟩ := box_three E1.out
  have HMY := Lib.hid (HT.out.1 rfl)
  clear HT
  by_cases hk : (N : Int) = k
  · have hne : ((N : Int) != k) = false := by simp [hk]
    have HK := Lib.hid hk
    clear hk
    obtain ⟨S, hS⟩ : ∃ S, Ls 0 = S := ⟨_, rfl⟩
    have HS := Lib.hid hS
    clear hS
    go_wp2_with fail
    go_loopw [8, 9] (fun s8 s9 wr => RJoinAt F Ls S N w1 s8 s9 wr) (fun _ s9 _ => N - (intOf s9).toNat)
    case atStart => exact ⟨0, Nat.zero_le _, rfl, fun r hr => absurd hr (by omega), by rw [Nat.zero_mul]; exact App.start _ _ _⟩
    case round =>
      obtain ⟨i, hiN, rfl, hall, happ⟩ := hrel
      have HALL := Lib.hid hall
      have HAPP := Lib.hid happ
      have hbw := below_tr H1.out happ.2
      have hsz := happ.2.size
      clear hall happ
      by_cases hlt : i < N
      · obtain ⟨ad, rfl, c1⟩ := (HR.out.below hbw.drew).at_ hlt
        obtain ⟨ad', e', c0⟩ := (HR.out.below hbw.drew).at_ (show 0 < N by omega)
        injection e' with e'
        subst e'
        rw [show ad.add 0 = ad by simp [Addr.add]] at c0
        simp only [slis] at c1 c0
        rw [HS.out] at c0
        have hli := HLL.out i hlt
        have hl0 := HLL.out 0 (by omega)
        rw [HS.out] at hl0
        have HNI := Lib.hid (HNIL.out i hlt)
        have HRI := Lib.hid (HR2.out i hlt)
        obtain ⟨x, hx⟩ : ∃ x, Ls i = x := ⟨_, rfl⟩
        rw [hx] at c1 hli HRI
        have HX := Lib.hid hx
        have HBW := Lib.hid hbw
        have hn0 : (0 : Int) < (N : Int) := by omega
        have hn0' : 0 < N := by omega
        clear hx hbw
        by_cases he : x = S
        · have hne2 : ((x : Int) != (S : Int)) = false := by simp [he]
          have hiS : i * S ≤ 100000 := Nat.le_trans (Nat.mul_le_mul (show i ≤ 100 by omega) hl0) (by omega)
          have HCS := Lib.hid (cat_step F i S)
          have HSUM := Lib.hid (show (i + 1) * S = i * S + S by rw [Nat.add_mul, Nat.one_mul])
          have HEX := Lib.hid he
          clear he
          go_wp2_with fail
          go_region
          all_goals
            go_wp2_with (at_builtin; refine append_rd _ rfl (.tmp 41) (.tmp 45) TBs rfl w1.heap.size TB i0 (.int .u8 0) 1 underB hi hz0 hz1 hz2 rfl _ _ _ rfl HAPP.out.drew.1 b _ _ _ _ rfl HNI.out (HRI.out.below HBW.out.drew) (one_u8s _) (by unfold maxLen; omega) (by omega) hsz ?_)
            intro v' w3 hown hgr
            rw [HEX.out] at hown
            have HQ := Lib.hid (show RJoinAt F Ls S N w1 v' (.int .i64 ((i : Int) + 1)) w3 from ⟨i + 1, hlt, rfl, fun r hr => (Nat.lt_succ_iff_lt_or_eq.1 hr).elim (fun h => HALL.out r h) (fun h => by rw [h, HX.out, HEX.out]), by rw [HSUM.out, HCS.out]; exact hown, HAPP.out.2.drew.grown hgr hsz (fun q hq => (HAPP.out.1.lt q hq).1)⟩)
            clear hown hgr
            go_wp2_with fail
            exact ⟨HQ.out, by simp [intOf]; omega⟩
        · have hne2 : ((x : Int) != (S : Int)) = true := by simp; omega
          have HQ := Lib.hid (HE.out wr.drew HBW.out.drew)
          clear he
          go_wp2_with fail
          go_region
          all_goals
            go_wp2_with fail
            go_ret2
            exact HQ.out
      · obtain rfl : N = i := by omega
        exact absurd (show okJ p k m N Ls from ⟨HMY.out, HK.out, fun r hr => (HALL.out r hr).trans HS.out.symm⟩) HNO.out
  · have hne : ((N : Int) != k) = true := by simp [hk]
    clear hk
    go_wp2_with fail
    go_ret2
    exact HE.out _ H1.out

set_option maxRecDepth 100000 in
set_option maxHeartbeats 8000000 in
theorem rjoin_go (b : Nat) (p m : Int) (F : Nat → Nat → Nat) (hF : ∀ r j, F r j < 256) (Ls : Nat → Nat) (As : Nat → Option Addr) (Cs : Nat → Nat) (A : Option Addr) (N ca S : Nat) (hS : Ls 0 = S) (hS2 : S ≤ 1000) (n : Int) (w : World) (h0 : 0 < w.heap.size) (hr1 : Rd b w (slis As Ls Cs) A N) (hr2 : ∀ r, r < N → Rd b w (u8s (F r)) (As r) (Ls r)) (hnil : ∀ r, r < N → As r = none → Cs r = 0) (hok : okJ p N m N Ls) :
    Calls Tryd.prog 17 #[.agg (parA p N m), .slice A N ca, .int .i64 n] w (JoinSaid p N m N Ls F n w) := by
  obtain ⟨i0, hi, hz0, hz1, hz2⟩ := info_parts infoB
  obtain ⟨v, hv⟩ : ∃ v, w.alloc (.cells #[.int .i64 p, .int .i64 (N : Int), .int .i64 m] TPa) = v := ⟨_, rfl⟩
  obtain ⟨_, e0, hbv⟩ := one_box hv
  have E0 := Lib.hid e0
  have HV := Lib.hid hbv
  have HM := Lib.hid (rmay16 p N m v)
  have HOK := Lib.hid hok
  have n1 : 1 ≤ N := by have := hok.1.2.1; omega
  have n8 : N ≤ 8 := by have := hok.1.2.1; omega
  have HL := Lib.hid (show ∀ r, r < N → Ls r = S from fun r hr => by rw [hok.2.2 r hr, hS])
  obtain ⟨ad, rfl, c0⟩ := hr1.at_ (show 0 < N by omega)
  rw [show ad.add 0 = ad by simp [Addr.add]] at c0
  simp only [slis, hS] at c0
  have HC0 := Lib.hid c0
  have hlc := lt_of_cell c0
  have HBX := Lib.hid (show Bx b w F Ls (some ad) N from ⟨As, Cs, hr1, hr2⟩)
  have HR := Lib.hid hr1
  have HR2 := Lib.hid hr2
  have HNIL := Lib.hid hnil
  have HEF := Lib.hid (fun w' (h1 : ¬ joinP (layI p) N S n F) (h : Below w.heap.size w w') => JoinSaid.form (w' := w') hok (by rw [hS]; exact h1) h)
  have HEO := Lib.hid (fun v w' (h1 : joinP (layI p) N S n F) (h : BytesOut (numJ (layI p) n (catF S F)).toNat (fun i => catF S F (aheadL (layI p) + i)) w v w') => JoinSaid.ok (w' := w') (v := v) hok (by rw [hS]; exact h1) (by rw [hS]; exact h))
  obtain ⟨l, hl⟩ : ∃ l, layI p = l := ⟨_, rfl⟩
  have HLY := Lib.hid hl
  rw [hl] at HEF HEO
  clear e0 hbv hok hr1 hr2 hnil hS c0 hl
  obtain ⟨d0, d1, d2⟩ := box_three E0.out
  go_enter Tryd.func17, Tryd.ntmps17
  go_wp2_with fail
  refine HM.out.mono ?_
  rintro e w1 ⟨t, rfl, ht, hb1⟩
  obtain rfl : t = true := ht.2 HOK.out.1
  have H1 := Lib.hid (below_tr HV.out hb1)
  have E1 := Lib.hid (kept_box E0.out hb1)
  clear ht hb1 d0 d1 d2 HM
  obtain ⟨d0, d1, d2⟩ := box_three E1.out
  have hn0 : (0 : Int) < (N : Int) := by omega
  have hn0' : 0 < N := by omega
  go_wp2_with fail
  go_loopw [8, 9] (fun s8 s9 wr => RJoinAt F Ls S N w1 s8 s9 wr) (fun _ s9 _ => N - (intOf s9).toNat)
  case atStart => exact ⟨0, Nat.zero_le _, rfl, fun r hr => absurd hr (by omega), by rw [Nat.zero_mul]; exact App.start _ _ _⟩
  case round =>
    obtain ⟨i, hiN, rfl, hall, happ⟩ := hrel
    have HAPP := Lib.hid happ
    have hbw := below_tr H1.out happ.2
    have hsz := happ.2.size
    have HALL := Lib.hid hall
    clear hall happ
    by_cases hlt : i < N
    · obtain ⟨ad', e', c1⟩ := (HR.out.below hbw.drew).at_ hlt
      injection e' with e'
      subst e'
      have c0 := (hbw.drew.cell hlc).trans HC0.out
      simp only [slis] at c1
      have HNI := Lib.hid (HNIL.out i hlt)
      have hri := HR2.out i hlt
      rw [HL.out i hlt] at c1 hri
      have HRI := Lib.hid hri
      have HBW := Lib.hid hbw
      have hiS : i * S ≤ 100000 := Nat.le_trans (Nat.mul_le_mul (show i ≤ 100 by omega) hS2) (by omega)
      have HCS := Lib.hid (cat_step F i S)
      have HSUM := Lib.hid (show (i + 1) * S = i * S + S by rw [Nat.add_mul, Nat.one_mul])
      clear hri hbw
      go_wp2_with fail
      go_region
      all_goals
        go_wp2_with (at_builtin; refine append_rd _ rfl (.tmp 41) (.tmp 45) TBs rfl w1.heap.size TB i0 (.int .u8 0) 1 underB hi hz0 hz1 hz2 rfl _ _ _ rfl HAPP.out.drew.1 b _ _ _ _ rfl HNI.out (HRI.out.below HBW.out.drew) (one_u8s _) (by unfold maxLen; omega) (by omega) hsz ?_)
        intro v' w3 hown hgr
        have HQ := Lib.hid (show RJoinAt F Ls S N w1 v' (.int .i64 ((i : Int) + 1)) w3 from ⟨i + 1, hlt, rfl, fun r hr => HL.out r (by omega), by rw [HSUM.out, HCS.out]; exact hown, HAPP.out.2.drew.grown hgr hsz (fun q hq => (HAPP.out.1.lt q hq).1)⟩)
        clear hown hgr
        go_wp2_with fail
        exact ⟨HQ.out, by simp [intOf]; omega⟩
    · obtain rfl : N = i := by omega
      obtain ⟨w2, hw2⟩ : ∃ w2, w2 = wr := ⟨_, rfl⟩
      subst hw2
      have H2 := Lib.hid hbw
      have E2 := Lib.hid (kept_box E1.out HAPP.out.2)
      have hq8 : N * S ≤ 8000 := Nat.le_trans (Nat.mul_le_mul n8 hS2) (by omega)
      obtain ⟨q, hq⟩ : ∃ q, N * S = q := ⟨_, rfl⟩
      have HQ := Lib.hid hq
      rw [hq] at hq8 HAPP
      have hw1 : 0 < w1.heap.size := Nat.lt_of_lt_of_le h0 H1.out.size
      have c0 := (hbw.drew.cell hlc).trans HC0.out
      obtain ⟨A8, c8, hu8, hc8, _⟩ := HAPP.out.rd hw1
      subst hu8
      clear hbw hq d0 d1 d2
      obtain ⟨d0, d1, d2⟩ := box_three E2.out
      by_cases hS0 : S = 0
      · have hz : ((S : Int) == 0) = true := by simp [hS0]
        have HR3 := Lib.hid (HEF.out w2.drew (fun h => by
          have h4 := h.2.2.2.1
          have h5 := (szU_ge (u := unitL l) (K := N) (m := aheadL l + (numJ l n (catF S F)).toNat) (unitL_pos l).1 n1).2.1
          have h6 := unitL_pos l
          omega) H2.out.drew)
        clear hS0
        go_wp2_with fail
        go_region
        all_goals
          go_wp2_with fail
          go_ret2
          exact HR3.out
      · have hz : ((S : Int) == 0) = false := by simp [hS0]
        have KS := Lib.hid (show ∀ w', Below w2.heap.size w2 w' → w'.cell? ⟨w.heap.size, 0, none⟩ = some (.int .i64 p) ∧ w'.cell? ⟨w.heap.size, 1, none⟩ = some (.int .i64 (N : Int)) ∧ w'.cell? ⟨w.heap.size, 2, none⟩ = some (.int .i64 m) ∧ w'.cell? ad = some (.slice (As 0) S (Cs 0)) ∧ Below w2.heap.size w2 w' from
          fun w' h => ⟨(h.cell (lt_of_cell d0)).trans d0, (h.cell (lt_of_cell d1)).trans d1, (h.cell (lt_of_cell d2)).trans d2, (h.cell (lt_of_cell (show w2.cell? ad = _ from c0))).trans c0, h⟩)
        obtain ⟨u, hu⟩ : ∃ u, unitL l = u := ⟨_, rfl⟩
        have HU := Lib.hid hu
        have hu1 := unitL_pos l
        rw [hu] at hu1
        have hu0 : ¬ (u : Int) = 0 := by omega
        have hu0' : ¬ u = 0 := by omega
        obtain ⟨r, hr⟩ : ∃ r, S % u = r := ⟨_, rfl⟩
        have HRM := Lib.hid hr
        have hmod1 : (S : Int).tmod (u : Int) = (r : Int) := by rw [← Int.ofNat_tmod, hr]
        have hmod2 : (S : Int) % (u : Int) = (r : Int) := by rw [← Int.natCast_emod, hr]
        have hst : Below w2.heap.size w2 w2.drew := (Below.refl _ w2).drew
        clear c0 d0 d1 d2 hu hS0 hr
        go_wp2_with fail
        go_region_held3 (fun w' => w'.cell? ⟨w.heap.size, 0, none⟩ = some (.int .i64 p) ∧ w'.cell? ⟨w.heap.size, 1, none⟩ = some (.int .i64 (N : Int)) ∧ w'.cell? ⟨w.heap.size, 2, none⟩ = some (.int .i64 m) ∧ w'.cell? ad = some (.slice (As 0) S (Cs 0)) ∧ Below w2.heap.size w2 w')
          (first | exact KS.out _ hst | exact KS.out _ (below_tr hst hb3) | assumption)
          (first | (go_at_call 25; refine (rlayout25 p N m _).mono ?_; rintro e w3 ⟨rfl, hb3⟩; rw [HLY.out]) | (go_at_call 26; refine (runit26 l _).mono ?_; rintro e w' ⟨rfl, rfl⟩; rw [HU.out]))
        all_goals
          have hb23 := below_tr hst hb3
          have H3 := Lib.hid (below_tr H2.out hb23)
          have E3 := Lib.hid (kept_box E2.out hb23)
          have HAP3 := Lib.hid (show App w1 TB (u8s (catF S F)) q (.slice A8 q c8) w3 from ⟨own_below' HAPP.out.1 hb23, below_tr HAPP.out.2 hb23⟩)
          clear hst hb3 hb23 KS H2 E2 HAPP hmod1 hmod2
          obtain ⟨d0, d1, d2⟩ := box_three E3.out
          by_cases hr0 : r = 0
          · have hne : ((r : Int) != 0) = false := by simp [hr0]
            have hS1 : 0 < S := by
              rcases Nat.eq_zero_or_pos S with h | h
              · rw [h] at hz; simp at hz
              · exact h
            clear hr0 hz
            go_wp2_with fail
            refine (rlayout25 p N m _).mono ?_
            rintro e w4 ⟨rfl, hb4⟩
            have H4 := Lib.hid (below_tr H3.out hb4)
            have E4 := Lib.hid (kept_box E3.out hb4)
            have HAP4 := Lib.hid (show App w1 TB (u8s (catF S F)) q (.slice A8 q c8) w4 from ⟨own_below' HAP3.out.1 hb4, below_tr HAP3.out.2 hb4⟩)
            rw [HLY.out]
            clear hb4 d0 d1 d2 H3 E3 HAP3
            obtain ⟨d0, d1, d2⟩ := box_three E4.out
            by_cases h98 : l = 98
            · have h98' : (l == 98) = true := by simp [h98]
              have HA := Lib.hid (show aheadL l = 4 by unfold aheadL; rw [if_pos h98])
              obtain ⟨nn, hnn⟩ : ∃ nn, numJ l n (catF S F) = nn := ⟨_, rfl⟩
              have hn4 : ((partF (catF S F) 4 : Nat) : Int) = nn := by
                rw [← hnn, partF_four]
                unfold numJ
                rw [if_pos h98]
              have HNN := Lib.hid hnn
              have HN4 := Lib.hid hn4
              clear h98 hnn hn4
              by_cases hq4 : q < 4
              · have HR3 := Lib.hid (HEF.out w4 (fun h => by have := h.1; rw [HA.out, HQ.out] at this; omega) H4.out)
                go_wp2_with fail
                go_ret2
                exact HR3.out
              go_wp2_with fail
              go_loop [2, 11] (fun s2 s11 => ∃ i : Nat, i ≤ 4 ∧ s11 = .int .i64 i ∧ s2 = .int .i64 (partF (catF S F) i : Nat)) (fun _ s11 => 4 - (intOf s11).toNat)
              case atStart => exact ⟨0, Nat.zero_le _, rfl, rfl⟩
              case round =>
                obtain ⟨i, hi4, rfl, rfl⟩ := hrel
                by_cases hlt4 : i < 4
                · obtain ⟨A9, c9, e9, _, h9⟩ := HAP4.out.rd hw1
                  injection e9 with e9 _ e10
                  subst e9 e10
                  obtain ⟨a8, ha8, c1⟩ := h9.at_ (show i < q by omega)
                  simp only [u8s] at c1
                  have hcl : catF S F i < 256 := hF _ _
                  have hpl : partF (catF S F) i ≤ 16777216 := Nat.le_of_lt (Nat.lt_of_lt_of_le (partF_lt (fun j => hF _ _) i) (Nat.le_trans (Nat.pow_le_pow_right (by omega) (show i ≤ 3 by omega)) (by decide)))
                  have HP := Lib.hid (show partF (catF S F) (i + 1) = 256 * partF (catF S F) i + catF S F i from rfl)
                  obtain ⟨x, hx⟩ : ∃ x, catF S F i = x := ⟨_, rfl⟩
                  obtain ⟨y, hy⟩ : ∃ y, partF (catF S F) i = y := ⟨_, rfl⟩
                  rw [hx] at c1 hcl HP
                  rw [hy] at hpl HP
                  rw [hy, ha8]
                  clear hx hy h9
                  go_wp2_with fail
                  exact ⟨⟨i + 1, by omega, by go_num, by rw [HP.out]; go_num⟩, by simp [intOf]; omega⟩
                · obtain rfl : i = 4 := by omega
                  rw [HN4.out]
                  by_cases hx1 : nn < 0
                  · have HR3 := Lib.hid (HEF.out w4 (fun h => by have := h.2.1; rw [HNN.out] at this; omega) H4.out)
                    go_wp2_with fail
                    go_ret2
                    exact HR3.out
                  by_cases hx2 : 4096 < nn
                  · have HR3 := Lib.hid (HEF.out w4 (fun h => by have := h.2.2.1; rw [HNN.out] at this; omega) H4.out)
                    go_wp2_with fail
                    go_ret2
                    exact HR3.out
                  obtain ⟨M, hM⟩ : ∃ M : Nat, nn = (M : Int) := ⟨nn.toNat, by omega⟩
                  subst hM
                  have hM2 : M ≤ 4096 := by omega
                  by_cases hx3 : q < 4 + M
                  · have HR3 := Lib.hid (HEF.out w4 (fun h => by
                      have h4 := h.2.2.2.1
                      have h5 := (szU_ge (u := unitL l) (K := N) (m := aheadL l + (numJ l n (catF S F)).toNat) (unitL_pos l).1 n1).1
                      rw [h4, HNN.out, HA.out, Int.toNat_natCast, HQ.out] at h5
                      omega) H4.out)
                    go_wp2_with fail
                    go_ret2
                    exact HR3.out
                  have haM : 4 + M ≤ q := by omega
                  have hq1 : 0 < q := by rw [← HQ.out]; exact Nat.mul_pos hn0' (by omega)
                  have HC7 := Lib.hid (show cutA 4 A8 c8 = none → c8 - 4 = 0 from fun h => by
                    obtain ⟨Ax, cx, ex, _, hx⟩ := HAP4.out.rd hw1
                    injection ex with ex
                    subst ex
                    obtain ⟨ax, hax, _⟩ := hx hq1
                    rw [hax] at h
                    unfold cutA at h
                    split at h
                    · cases h
                    · cases h)
                  have hrd7 : ∀ g, g < w1.heap.size → Rd g w4 (u8s fun i => catF S F (4 + i)) (cutA 4 A8 c8) M := fun g hg => by
                    obtain ⟨A9, c9, e9, _, h9⟩ := HAP4.out.rd hg
                    injection e9 with e9
                    subst e9
                    exact rd_cutB h9 hc8 haM
                  have hcut : ∀ w, (Instr.slice TBs (.slice A8 q c8) (some (.int .i64 4)) (some (.int .i64 (4 + (M : Int)))) none).run Tryd.prog w = .ok (.slice (cutA 4 A8 c8) M (c8 - 4)) w := run_cutB A8 q c8 4 M (by omega)
                  have hcut2 : ∀ w, (Instr.sliceAt TBs (.slice A8 q c8) (some (.int .i64 4)) (some (.int .i64 (4 + (M : Int)))) none).run Tryd.prog w = .ok (.slice (cutA 4 A8 c8) M (c8 - 4)) w := run_cutAtB A8 q c8 4 M (by omega)
                  obtain ⟨A7, hA7⟩ : ∃ A7, cutA 4 A8 c8 = A7 := ⟨_, rfl⟩
                  obtain ⟨c7, hc7⟩ : ∃ c7, c8 - 4 = c7 := ⟨_, rfl⟩
                  rw [hA7] at hrd7 hcut hcut2 HC7
                  rw [hc7] at hcut hcut2 HC7
                  have HR7 := Lib.hid hrd7
                  have hlow := H4.out.size
                  clear hrd7 hA7 hc7 hx1 hx2 hx3 d0 d1 d2
                  go_wp2_with (at_builtin; refine append_rd _ rfl (.tmp 95) (.tmp 101) TBs rfl w4.heap.size TB i0 (.int .u8 0) 1 underB hi hz0 hz1 hz2 rfl _ 0 [] rfl (own_fresh0 w4 _ _ _ rfl (Nat.le_refl _)) 0 _ _ _ _ rfl HC7.out ((HR7.out 0 hw1).below (below_alloc _ _)) (one_u8s _) (by unfold maxLen; omega) (by omega) (by simp) ?_)
                  intro v12 w12 hown hgr
                  have hb12 : Below w4.heap.size w4 w12 := (below_alloc w4 _).grown hgr (by simp) (fun g hg => by simp [Value.ownBlock] at hg; omega)
                  have H12 := Lib.hid (below_tr H4.out hb12)
                  have E12 := Lib.hid (kept_box E4.out hb12)
                  have hown2 : w12.ownsRow w4.heap.size TB 1 v12 M ((List.range M).map (u8s fun i => catF S F (4 + i))) := by simpa using hown
                  obtain ⟨A12, c12, rfl, hc12, _⟩ := Rd.of_own hown2 (show 0 < w4.heap.size by omega)
                  have HB12 := Lib.hid (show ∀ g, g < w.heap.size → Rd g w12 (u8s fun i => catF S F (4 + i)) A12 M from fun g hg => by
                    obtain ⟨A9, c9, e9, _, h9⟩ := Rd.of_own hown2 (show g < w4.heap.size by omega)
                    injection e9 with e9
                    subst e9
                    exact h9)
                  have HN12 := Lib.hid (own_nil hown2)
                  have hlow12 := H12.out.size
                  have hE0 : szE p N m M = 0 := (if_pos ⟨HOK.out.1, by omega⟩).trans (if_pos (by omega))
                  have HSPN := Lib.hid (show splN p N m M = N from (if_pos hE0).trans (Int.toNat_natCast N))
                  have hSZ := (szE_ok HOK.out.1 hM2).1
                  clear hown hown2 hgr hb12 hcut hcut2 HR7 HC7 H4 E4 HAP4 hE0
                  obtain ⟨d0, d1, d2⟩ := box_three E12.out
                  go_wp2_with fail
                  refine (rsplit13 0 p N m (fun i => catF S F (4 + i)) (fun i => hF _ _) A12 M c12 HN12.out w12 (by omega) (HB12.out 0 h0)).mono ?_
                  rintro e w13 ⟨v13, rfl, hv13⟩
                  obtain ⟨A13, c13, rfl, _, hx13, hb13⟩ := hv13
                  have H13 := Lib.hid (below_tr H12.out hb13)
                  have HR13 := Lib.hid (fun g (hg : g < w.heap.size) => (HB12.out g hg).below hb13)
                  obtain ⟨S2, hS2'⟩ : ∃ S2, szN p N m M = S2 := ⟨_, rfl⟩
                  have hx13' := hx13 0 (by omega)
                  rw [HSPN.out, hS2'] at hx13'
                  rw [hS2'] at hSZ
                  rw [HSPN.out]
                  have HSJ := Lib.hid (same_join2 (S := S) HLY.out HA.out HNN.out hM2 hSZ (by rw [HQ.out]; exact haM) HL.out n1)
                  have HEQ := Lib.hid (rsame14 0 b _ F (fun r j => laidB_lt (fun i => hF _ _) _) hF (fun _ => S2) Ls A13 (some ad) N N c13 ca (by omega) w13 hx13' (HBX.out.below H13.out))
                  clear hx13 hx13' hb13 d0 d1 d2 H12 E12 HB12 HN12 hS2' hSZ
                  go_wp2_with fail
                  refine HEQ.out.mono ?_
                  rintro e w14 ⟨t, rfl, ht, hb14⟩
                  have ht' := ht.trans HSJ.out
                  have H14 := Lib.hid (below_tr H13.out hb14)
                  have HR14 := Lib.hid (fun g (hg : g < w.heap.size) => (HR13.out g hg).below hb14)
                  have hNN := HNN.out
                  have hAA := HA.out
                  clear ht hb14 HEQ H13 HR13
                  cases t
                  · have HR3 := Lib.hid (HEF.out w14 (fun h => by have := ht'.2 h; cases this) H14.out)
                    clear ht'
                    go_wp2_with fail
                    go_ret2
                    exact HR3.out
                  · have HR3 := Lib.hid (HEO.out (.slice A12 M c12) w14 (ht'.1 rfl) (by
                      rw [hNN, hAA, Int.toNat_natCast]
                      exact ⟨A12, c12, rfl, hc12, HR14.out, H14.out⟩))
                    clear ht'
                    go_wp2_with fail
                    go_ret2
                    exact HR3.out
            · have h98' : (l == 98) = false := by simp [h98]
              have HA := Lib.hid (show aheadL l = 0 by unfold aheadL; rw [if_neg h98])
              have HNN := Lib.hid (show numJ l n (catF S F) = n by unfold numJ; rw [if_neg h98])
              clear h98
              obtain ⟨nn, hnn⟩ : ∃ nn, nn = n := ⟨_, rfl⟩
              subst hnn
              by_cases hx1 : nn < 0
              · have HR3 := Lib.hid (HEF.out w4 (fun h => by have := h.2.1; rw [HNN.out] at this; omega) H4.out)
                go_wp2_with fail
                go_ret2
                exact HR3.out
              by_cases hx2 : 4096 < nn
              · have HR3 := Lib.hid (HEF.out w4 (fun h => by have := h.2.2.1; rw [HNN.out] at this; omega) H4.out)
                go_wp2_with fail
                go_ret2
                exact HR3.out
              obtain ⟨M, hM⟩ : ∃ M : Nat, nn = (M : Int) := ⟨nn.toNat, by omega⟩
              subst hM
              have hM2 : M ≤ 4096 := by omega
              by_cases hx3 : q < 0 + M
              · have HR3 := Lib.hid (HEF.out w4 (fun h => by
                  have h4 := h.2.2.2.1
                  have h5 := (szU_ge (u := unitL l) (K := N) (m := aheadL l + (numJ l (M : Int) (catF S F)).toNat) (unitL_pos l).1 n1).1
                  rw [h4, HNN.out, HA.out, Int.toNat_natCast, HQ.out] at h5
                  omega) H4.out)
                go_wp2_with fail
                go_ret2
                exact HR3.out
              have haM : 0 + M ≤ q := by omega
              have hq1 : 0 < q := by rw [← HQ.out]; exact Nat.mul_pos hn0' (by omega)
              have HC7 := Lib.hid (show cutA 0 A8 c8 = none → c8 - 0 = 0 from fun h => by
                obtain ⟨Ax, cx, ex, _, hx⟩ := HAP4.out.rd hw1
                injection ex with ex
                subst ex
                obtain ⟨ax, hax, _⟩ := hx hq1
                rw [hax] at h
                unfold cutA at h
                split at h
                · cases h
                · cases h)
              have hrd7 : ∀ g, g < w1.heap.size → Rd g w4 (u8s fun i => catF S F (0 + i)) (cutA 0 A8 c8) M := fun g hg => by
                obtain ⟨A9, c9, e9, _, h9⟩ := HAP4.out.rd hg
                injection e9 with e9
                subst e9
                exact rd_cutB h9 hc8 haM
              have hcut : ∀ w, (Instr.slice TBs (.slice A8 q c8) (some (.int .i64 0)) (some (.int .i64 (M : Int))) none).run Tryd.prog w = .ok (.slice (cutA 0 A8 c8) M (c8 - 0)) w := by have := run_cutB A8 q c8 0 M (by omega); rwa [show (((0 : Nat) : Int) + (M : Int)) = (M : Int) by omega] at this
              have hcut2 : ∀ w, (Instr.sliceAt TBs (.slice A8 q c8) (some (.int .i64 0)) (some (.int .i64 (M : Int))) none).run Tryd.prog w = .ok (.slice (cutA 0 A8 c8) M (c8 - 0)) w := by have := run_cutAtB A8 q c8 0 M (by omega); rwa [show (((0 : Nat) : Int) + (M : Int)) = (M : Int) by omega] at this
              obtain ⟨A7, hA7⟩ : ∃ A7, cutA 0 A8 c8 = A7 := ⟨_, rfl⟩
              obtain ⟨c7, hc7⟩ : ∃ c7, c8 - 0 = c7 := ⟨_, rfl⟩
              rw [hA7] at hrd7 hcut hcut2 HC7
              rw [hc7] at hcut hcut2 HC7
              have HR7 := Lib.hid hrd7
              have hlow := H4.out.size
              clear hrd7 hA7 hc7 hx1 hx2 hx3 d0 d1 d2
              go_wp2_with (at_builtin; refine append_rd _ rfl (.tmp 95) (.tmp 101) TBs rfl w4.heap.size TB i0 (.int .u8 0) 1 underB hi hz0 hz1 hz2 rfl _ 0 [] rfl (own_fresh0 w4 _ _ _ rfl (Nat.le_refl _)) 0 _ _ _ _ rfl HC7.out ((HR7.out 0 hw1).below (below_alloc _ _)) (one_u8s _) (by unfold maxLen; omega) (by omega) (by simp) ?_)
              intro v12 w12 hown hgr
              have hb12 : Below w4.heap.size w4 w12 := (below_alloc w4 _).grown hgr (by simp) (fun g hg => by simp [Value.ownBlock] at hg; omega)
              have H12 := Lib.hid (below_tr H4.out hb12)
              have E12 := Lib.hid (kept_box E4.out hb12)
              have hown2 : w12.ownsRow w4.heap.size TB 1 v12 M ((List.range M).map (u8s fun i => catF S F (0 + i))) := by simpa using hown
              obtain ⟨A12, c12, rfl, hc12, _⟩ := Rd.of_own hown2 (show 0 < w4.heap.size by omega)
              have HB12 := Lib.hid (show ∀ g, g < w.heap.size → Rd g w12 (u8s fun i => catF S F (0 + i)) A12 M from fun g hg => by
                obtain ⟨A9, c9, e9, _, h9⟩ := Rd.of_own hown2 (show g < w4.heap.size by omega)
                injection e9 with e9
                subst e9
                exact h9)
              have HN12 := Lib.hid (own_nil hown2)
              have hlow12 := H12.out.size
              have hE0 : szE p N m M = 0 := (if_pos ⟨HOK.out.1, by omega⟩).trans (if_pos (by omega))
              have HSPN := Lib.hid (show splN p N m M = N from (if_pos hE0).trans (Int.toNat_natCast N))
              have hSZ := (szE_ok HOK.out.1 hM2).1
              clear hown hown2 hgr hb12 hcut hcut2 HR7 HC7 H4 E4 HAP4 hE0
              obtain ⟨d0, d1, d2⟩ := box_three E12.out
              go_wp2_with fail
              refine (rsplit13 0 p N m (fun i => catF S F (0 + i)) (fun i => hF _ _) A12 M c12 HN12.out w12 (by omega) (HB12.out 0 h0)).mono ?_
              rintro e w13 ⟨v13, rfl, hv13⟩
              obtain ⟨A13, c13, rfl, _, hx13, hb13⟩ := hv13
              have H13 := Lib.hid (below_tr H12.out hb13)
              have HR13 := Lib.hid (fun g (hg : g < w.heap.size) => (HB12.out g hg).below hb13)
              obtain ⟨S2, hS2'⟩ : ∃ S2, szN p N m M = S2 := ⟨_, rfl⟩
              have hx13' := hx13 0 (by omega)
              rw [HSPN.out, hS2'] at hx13'
              rw [hS2'] at hSZ
              rw [HSPN.out]
              have HSJ := Lib.hid (same_join2 (S := S) HLY.out HA.out HNN.out hM2 hSZ (by rw [HQ.out]; exact haM) HL.out n1)
              have HEQ := Lib.hid (rsame14 0 b _ F (fun r j => laidB_lt (fun i => hF _ _) _) hF (fun _ => S2) Ls A13 (some ad) N N c13 ca (by omega) w13 hx13' (HBX.out.below H13.out))
              clear hx13 hx13' hb13 d0 d1 d2 H12 E12 HB12 HN12 hS2' hSZ
              go_wp2_with fail
              refine HEQ.out.mono ?_
              rintro e w14 ⟨t, rfl, ht, hb14⟩
              have ht' := ht.trans HSJ.out
              have H14 := Lib.hid (below_tr H13.out hb14)
              have HR14 := Lib.hid (fun g (hg : g < w.heap.size) => (HR13.out g hg).below hb14)
              have hNN := HNN.out
              have hAA := HA.out
              clear ht hb14 HEQ H13 HR13
              cases t
              · have HR3 := Lib.hid (HEF.out w14 (fun h => by have := ht'.2 h; cases this) H14.out)
                clear ht'
                go_wp2_with fail
                go_ret2
                exact HR3.out
              · have HR3 := Lib.hid (HEO.out (.slice A12 M c12) w14 (ht'.1 rfl) (by
                  rw [hNN, hAA, Int.toNat_natCast]
                  exact ⟨A12, c12, rfl, hc12, HR14.out, H14.out⟩))
                clear ht'
                go_wp2_with fail
                go_ret2
                exact HR3.out
          · have hne : ((r : Int) != 0) = true := by simp; omega
            have HR3 := Lib.hid (HEF.out w3 (fun h => by
              have h4 := h.2.2.2.1
              have h5 := (szU_ge (u := unitL l) (K := N) (m := aheadL l + (numJ l n (catF S F)).toNat) (unitL_pos l).1 n1).2.2.1
              rw [h4, HU.out, HRM.out] at h5
              exact hr0 h5) H3.out)
            clear hr0
            go_wp2_with fail
            go_ret2
            exact HR3.out

theorem rjoin17 (b : Nat) (p k m : Int) (F : Nat → Nat → Nat) (hF : ∀ r j, F r j < 256) (Ls : Nat → Nat) (As : Nat → Option Addr) (Cs : Nat → Nat) (A : Option Addr) (N ca : Nat) (hN : N ≤ 100) (hL : ∀ r, r < N → Ls r ≤ 1000) (n : Int) (w : World) (h0 : 0 < w.heap.size) (hr1 : Rd b w (slis As Ls Cs) A N) (hr2 : ∀ r, r < N → Rd b w (u8s (F r)) (As r) (Ls r)) (hnil : ∀ r, r < N → As r = none → Cs r = 0) :
    Calls Tryd.prog 17 #[.agg (parA p k m), .slice A N ca, .int .i64 n] w (JoinSaid p k m N Ls F n w) := by
  by_cases hok : okJ p k m N Ls
  · have hk := hok.2.1
    subst hk
    exact rjoin_go b p m F hF Ls As Cs A N ca (Ls 0) rfl (hL 0 (by have := hok.1.2.1; omega)) n w h0 hr1 hr2 hnil hok
  · exact rjoin_arg b p k m F Ls As Cs A N ca hN hL n w hr1 hr2 hnil hok
end Go.Proofs.YtalallkpejlclaaDoor
