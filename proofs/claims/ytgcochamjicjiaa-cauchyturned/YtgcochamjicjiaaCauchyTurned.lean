/- CauchyTurned: whatever numbers of 16 bits come in: rows and columns changed for each other are rows of inverses of the lists changed for each other, and each number times the sum is 1; for every field choice, no condition. -/
import Derived.Test.YtgcochamjicjiaaRows
import Derived.Test.YtgcochamjicjiaaCyh
import Derived.Test.YtgcochamjicjiaaCyj
import Derived.Test.YtgcochamjicjiaaCyk
import Derived.Test.YtgcochamjicjiaaArr
import Derived.Deep.RegionHeld3
import Derived.WalkKit
import Derived.ProofKit
import Derived.OpenShut
import Derived.ShutString
import Derived.ChangeOld
import Derived.Below
namespace Go.Proofs.Ytgcochamjicjiaa.cauchyTurned
open Go.ChangeShapes Go.WideShapes Go.ChangeAt Go.RowKit
set_option linter.unusedVariables false

theorem own : ownKnob Try.prog.godebug = none := by kernel_rfl
theorem laidOut : laidOutB Try.prog = true := by kernel_rfl

/-- words, one by one, as numbers -/
theorem conv_u16 {f : Nat → Nat} (hf : ∀ j, f j < 65536) (j : Nat) : IntKind.i64.wrap ((f j : Nat) : Int) = ((f j : Nat) : Int) := by
  have := hf j
  rw [IntKind.wrap_i64]
  omega
/-- it does not hang on which list is first -/
theorem of_turn {c n m : Nat} {lx ly : Nat → Int} (h : ofP c n m lx ly) : ofP c m n ly lx := by
  refine ⟨h.2.1, h.1, fun i hi => ?_⟩
  unfold catL
  by_cases e : i < m
  · rw [if_pos e]
    refine ⟨h.y e, fun k hk he => ?_⟩
    rw [if_pos (by omega)] at he
    have := h.yy i k e (by omega) he
    omega
  · rw [if_neg e]
    refine ⟨h.x (by omega), fun k hk he => ?_⟩
    by_cases e2 : k < m
    · rw [if_pos e2] at he
      exact h.xy (i - m) k (by omega) e2 he
    · rw [if_neg e2] at he
      have := h.xx (i - m) (k - m) (by omega) (by omega) he
      omega
/-- a list that the call owns, beside whatever is made later -/
theorem own_rd {w : World} {base e n : Nat} {v : Value} {K : Nat → Value} (h : w.ownsRow base e 1 v n ((List.range n).map K)) : ∃ A c, v = .slice A n c ∧ n ≤ c ∧ ∀ g, w.heap.size ≤ g → Rd g w K A n := by
  rcases h.2 with ⟨rfl, rfl⟩ | ⟨g, cap, cur, rfl, hg, hh, hc, _, hs, ht⟩
  · exact ⟨none, 0, rfl, Nat.le_refl _, fun _ _ => Rd.zero⟩
  · have hl : g < w.heap.size := (Array.getElem?_eq_some_iff.1 hh).1
    refine ⟨_, cap, rfl, hc, fun g' hg' hn => ⟨_, rfl, by simp; omega, hl, fun j hj => ?_⟩⟩
    exact h.cells (g := g) rfl j (K j) (by rw [List.getElem?_map, List.getElem?_range (by omega)]; rfl)
/-- in both loops behind: the field may have turned -/
def TuAt (q : FP) (b wd n : Nat) (w6 : World) (s : Value) (wr : World) : Prop := ∃ i : Nat, i ≤ n ∧ s = .int .i64 i ∧ Fld q.p b wd wr ∧ Turned b w6 wr

set_option maxRecDepth 100000 in
set_option maxHeartbeats 16000000 in
theorem walk (a0 : Bool) (a1 : Option Addr) (len1 cap1 : Nat) (a2 : Option Addr) (len2 cap2 : Nat) (w : World) (w1 : IsWords w a1 len1 cap1) (w2 : IsWords w a2 len2 cap2) :
    Calls Try.prog 6 #[.bool a0, .slice a1 len1 cap1, .slice a2 len2 cap2] w fun e w' => e = .returned (.bool true) ∧ Below w.heap.size w w' := by
  obtain ⟨j0, hj, hy0, hy1, hy2⟩ := info_parts infoI
  obtain ⟨fx, hfx, _, hmx⟩ := w1
  obtain ⟨fy, hfy, _, hmy⟩ := w2
  have HFX := Lib.hid hfx
  have HFY := Lib.hid hfy
  have HMX := Lib.hid hmx
  have HMY := Lib.hid hmy
  clear hfx hfy hmx hmy
  go_enter Try.func6, Try.ntmps6
  go_wp2_with fail
  refine (awakeC _).mono ?_
  rintro e w2 ⟨rfl, hb1⟩
  have H1 := Lib.hid hb1
  have hsz1 := hb1.size
  clear hb1
  by_cases hl1 : len1 ≤ 20
  case neg =>
    have e1 : decide ((20 : Int) < (len1 : Int)) = true := by simp; omega
    go_wp2_with fail
    go_ret
    exact ⟨rfl, H1.out⟩
  have e1 : decide ((20 : Int) < (len1 : Int)) = false := by simp; omega
  by_cases hl2 : len2 ≤ 20
  case neg =>
    have e2 : decide ((20 : Int) < (len2 : Int)) = true := by simp; omega
    go_wp2_with fail
    go_ret
    exact ⟨rfl, H1.out⟩
  have e2 : decide ((20 : Int) < (len2 : Int)) = false := by simp; omega
  have RX := Lib.hid ((HMX.out w.heap.size (Nat.le_refl _)).below H1.out)
  have RY := Lib.hid ((HMY.out w.heap.size (Nat.le_refl _)).below H1.out)
  clear HMX HMY
  go_wp2_with fail
  go_loopw [8, 10] (fun s8 s10 wr => RowIn len1 (fun j => ((fx j : Nat) : Int)) w2 s8 s10 wr) (fun _ s10 _ => len1 - (intOf s10).toNat)
  case atStart => exact ⟨0, Nat.zero_le _, rfl, App.start _ _ _⟩
  case round =>
    obtain ⟨i, hin, rfl, ha⟩ := hrel
    have HA := Lib.hid ha
    have hsz := ha.2.size
    clear ha
    by_cases hlt : i < len1
    · obtain ⟨ad, rfl, hc⟩ := (RX.out.below HA.out.2).at_ hlt
      simp only [u16s] at hc
      have hcv := conv_u16 HFX.out i
      have hxl := HFX.out i
      go_wp2_with (at_builtin; refine wpList_append_own _ rfl _ _ TIs rfl w2.heap.size TI j0 (.int .i64 0) 1 8 underI hj hy0 hy1 hy2 rfl (by decide) _ _ _ rfl (HA.out.1.alloc _) ⟨wr.heap.size, 0, none⟩ 1 1 [i64s (fun j => ((fx j : Nat) : Int)) i] rfl rfl (news_one rfl) (one_i64 _) (by unfold maxLen; omega) (by omega) (by simp; omega) ?_)
      intro v' w3 hown' hgrow _
      have HS := Lib.hid (HA.out.step hown' hgrow)
      clear hown' hgrow hcv
      go_wp2_with fail
      exact ⟨⟨i + 1, hlt, by go_num, HS.out⟩, by simp [intOf]; omega⟩
    · obtain rfl : i = len1 := by omega
      obtain ⟨wa, hwa⟩ : ∃ wa, wa = wr := ⟨_, rfl⟩
      subst hwa
      have HAA := Lib.hid HA.out
      have H1a := Lib.hid (below_tr H1.out HA.out.2)
      have RYa := Lib.hid (RY.out.below HA.out.2)
      clear HA RX RY
      go_wp2_with fail
      go_loopw [9, 11] (fun s9 s11 wr => RowIn len2 (fun j => ((fy j : Nat) : Int)) wa s9 s11 wr) (fun _ s11 _ => len2 - (intOf s11).toNat)
      case atStart => exact ⟨0, Nat.zero_le _, rfl, App.start _ _ _⟩
      case round =>
        obtain ⟨k, hkn, rfl, ha⟩ := hrel
        have HA := Lib.hid ha
        have hsz := ha.2.size
        clear ha
        by_cases hlt2 : k < len2
        · obtain ⟨ad, rfl, hc⟩ := (RYa.out.below HA.out.2).at_ hlt2
          simp only [u16s] at hc
          have hcv := conv_u16 HFY.out k
          have hxl := HFY.out k
          go_wp2_with (at_builtin; refine wpList_append_own _ rfl _ _ TIs rfl wa.heap.size TI j0 (.int .i64 0) 1 8 underI hj hy0 hy1 hy2 rfl (by decide) _ _ _ rfl (HA.out.1.alloc _) ⟨wr.heap.size, 0, none⟩ 1 1 [i64s (fun j => ((fy j : Nat) : Int)) k] rfl rfl (news_one rfl) (one_i64 _) (by unfold maxLen; omega) (by omega) (by simp; omega) ?_)
          intro v' w3 hown' hgrow _
          have HS := Lib.hid (HA.out.step hown' hgrow)
          clear hown' hgrow hcv
          go_wp2_with fail
          exact ⟨⟨k + 1, hlt2, by go_num, HS.out⟩, by simp [intOf]; omega⟩
        · obtain rfl : k = len2 := by omega
          obtain ⟨wb, hwb⟩ : ∃ wb, wb = wr := ⟨_, rfl⟩
          subst hwb
          have HAB := Lib.hid HA.out
          have H1b := Lib.hid (below_tr H1a.out HA.out.2)
          clear HA H1a RYa
          go_wp2_with fail
          refine (cfield9 a0 _).mono ?_
          rintro e w3 ⟨q, wd, b, rfl, hFl, hnb, hb2⟩
          have hL := Live.start H1b.out hFl hnb hb2
          have HL := Lib.hid hL
          have HGD := Lib.hid hFl.1
          obtain ⟨A1, c1, rfl, _, hr1⟩ := own_rd HAA.out.1
          obtain ⟨A2, c2, rfl, _, hr2⟩ := own_rd HAB.out.1
          have hsb := HAB.out.2.size
          have hlowb : wb.heap.size ≤ b := hnb
          have R1 := Lib.hid (((hr1 b (by omega)).below HAB.out.2).below hb2)
          have R2 := Lib.hid ((hr2 b hlowb).below hb2)
          have BX := Lib.hid (show ∀ j, -9223372036854775808 ≤ ((fx j : Nat) : Int) ∧ ((fx j : Nat) : Int) ≤ 9223372036854775807 from fun j => by have := HFX.out j; omega)
          have BY := Lib.hid (show ∀ j, -9223372036854775808 ≤ ((fy j : Nat) : Int) ∧ ((fy j : Nat) : Int) ≤ 9223372036854775807 from fun j => by have := HFY.out j; omega)
          obtain ⟨t, ht⟩ : ∃ t : Bool, t = true ↔ ofP (M.ord q.p) i k (fun j => ((fx j : Nat) : Int)) (fun j => ((fy j : Nat) : Int)) := by
            by_cases h : ofP (M.ord q.p) i k (fun j => ((fx j : Nat) : Int)) (fun j => ((fy j : Nat) : Int))
            · exact ⟨true, by simp [h]⟩
            · exact ⟨false, by simp [h]⟩
          have HT := Lib.hid ht
          clear hFl hnb hb2 hL H1b hr1 hr2 HAA HAB ht
          go_wp2_with fail
          refine (of_any q b wd i k (fun j => ((fx j : Nat) : Int)) (fun j => ((fy j : Nat) : Int)) A1 A2 c1 c2 (fun i _ => BX.out i) (fun i _ => BY.out i) _ HL.out.1 R1.out R2.out).mono ?_
          rintro e w5 ⟨t', A5, c5, rfl, ht', _, hx5, hf5, ht5⟩
          obtain rfl : t = t' := Bool.eq_iff_iff.2 (HT.out.trans ht'.symm)
          have HL5 := Lib.hid (HL.out.next hf5 ht5)
          have X5 := Lib.hid hx5
          have R15 := Lib.hid (R1.out.turned ht5)
          have R25 := Lib.hid (R2.out.turned ht5)
          clear ht' hx5 hf5 ht5 HL R1 R2
          go_wp2_with fail
          refine (of_any q b wd k i (fun j => ((fy j : Nat) : Int)) (fun j => ((fx j : Nat) : Int)) A2 A1 c2 c1 (fun i _ => BY.out i) (fun i _ => BX.out i) _ HL5.out.1 R25.out R15.out).mono ?_
          rintro e w6 ⟨t', A6, c6, rfl, ht', _, hx6, hf6, ht6⟩
          obtain rfl : t = t' := Bool.eq_iff_iff.2 ((HT.out.trans ⟨of_turn, of_turn⟩).trans ht'.symm)
          have HF6 := Lib.hid hf6
          have HL6 := Lib.hid (HL5.out.next hf6 ht6)
          have X6 := Lib.hid (X5.out.turned ht6)
          have Y6 := Lib.hid hx6
          have R16 := Lib.hid (R15.out.turned ht6)
          have R26 := Lib.hid (R25.out.turned ht6)
          clear ht' hx6 hf6 ht6 HL5 X5 R15 R25
          cases t
          · simp only [cond, errOf, if_neg (show ¬ (false = true) by decide)]
            go_wp2_with fail
            go_ret
            exact ⟨rfl, HL6.out.2.1⟩
          have hP := HT.out.1 rfl
          have HP := Lib.hid hP
          simp only [cond, errOf, if_true]
          clear hP HT
          go_wp2_with fail
          go_loopw [19] (fun s19 wr => TuAt q b wd i w6 s19 wr) (fun s19 _ => i - (intOf s19).toNat)
          case atStart => exact ⟨0, Nat.zero_le _, rfl, HF6.out, Turned.refl _ _⟩
          case round =>
            obtain ⟨r, hr, rfl, hfr, htr⟩ := hrel
            have HFR := Lib.hid hfr
            have HTR := Lib.hid htr
            clear hfr htr
            by_cases hltr : r < i
            · go_wp2_with fail
              go_loopw [20] (fun s20 wr => TuAt q b wd k w6 s20 wr) (fun s20 _ => k - (intOf s20).toNat)
              case atStart => exact ⟨0, Nat.zero_le _, rfl, HFR.out, HTR.out⟩
              case round =>
                obtain ⟨c, hcn, rfl, hfc, htc⟩ := hrel
                have HFC := Lib.hid hfc
                have HTC := Lib.hid htc
                clear hfc htc
                by_cases hltc : c < k
                · obtain ⟨Bp, Bq, p1, p2⟩ := X6.out
                  obtain ⟨Bs, Bt, s1, s2⟩ := Y6.out
                  obtain ⟨adP, rfl, _⟩ := p1.at_ hltr
                  obtain ⟨adS, rfl, _⟩ := s1.at_ hltc
                  obtain ⟨adPi, ePi, _⟩ := (p2 r hltr).at_ hltc
                  obtain ⟨adSi, eSi, _⟩ := (s2 c hltc).at_ hltr
                  obtain ⟨adA, rfl, _⟩ := R16.out.at_ hltr
                  obtain ⟨adB, rfl, _⟩ := R26.out.at_ hltc
                  have CELL : ∀ {A : Option Addr} {n : Nat} {K : Nat → Value} {wx : World} {ad : Addr} {x : Nat}, Rd b wx K A n → A = some ad → x < n → wx.cell? (ad.add x) = some (K x) := fun h e hx => by
                    obtain ⟨ad2, e2, h2⟩ := h.at_ hx
                    rw [e] at e2
                    injection e2 with e2
                    subst e2
                    exact h2
                  obtain ⟨X, hX⟩ : ∃ X, toEl q ((fx r : Nat) : Int) = X := ⟨_, rfl⟩
                  obtain ⟨Y, hY⟩ : ∃ Y, toEl q ((fy c : Nat) : Int) = Y := ⟨_, rfl⟩
                  have vx : X.val = fx r := by have := toEl_val (q := q) (HP.out.x hltr); rw [hX] at this; omega
                  have vy : Y.val = fy c := by have := toEl_val (q := q) (HP.out.y hltc); rw [hY] at this; omega
                  have hne : X + Y ≠ 0 := fun h0 => HP.out.xy r c hltr hltc (toEl_inj (HP.out.x hltr) (HP.out.y hltc) (by rw [hX, hY]; exact El.add_eq_zero.1 h0))
                  have v1 : ivs (ofE q (fun j => ((fx j : Nat) : Int)) (fun j => ((fy j : Nat) : Int))) r c = ((((X + Y).inv).val : Nat) : Int) := by simp only [ivs, ofE, cauE]; rw [hX, hY]
                  have v2 : ivs (ofE q (fun j => ((fy j : Nat) : Int)) (fun j => ((fx j : Nat) : Int))) c r = ((((X + Y).inv).val : Nat) : Int) := by simp only [ivs, ofE, cauE]; rw [hX, hY, El.add_comm]
                  have HXO := Lib.hid (i64_xor_el HGD.out X Y)
                  have hxo := HXO.out
                  rw [vx, vy] at hxo
                  have HMU := Lib.hid (show ∀ w', Fld q.p b wd w' → Calls Try.prog 20 #[.pointer (some ⟨b, 0, none⟩), .int .i64 ((((X + Y).inv).val : Nat) : Int), .int .i64 (((X + Y).val : Nat) : Int)] w' (Ans q.p b wd w' (.int .i64 1)) from fun w' hf => by
                    have h1 := fmul12 q.p b wd ((((X + Y).inv).val : Nat) : Int) (((X + Y).val : Nat) : Int) w' hf
                    rw [fmul_el, El.inv_mul hne] at h1
                    exact h1)
                  obtain ⟨iv, hiv⟩ : ∃ iv, ((X + Y).inv).val = iv := ⟨_, rfl⟩
                  obtain ⟨sv, hsv⟩ : ∃ sv, (X + Y).val = sv := ⟨_, rfl⟩
                  obtain ⟨nx, hnx⟩ : ∃ nx, fx r = nx := ⟨_, rfl⟩
                  obtain ⟨ny, hny⟩ : ∃ ny, fy c = ny := ⟨_, rfl⟩
                  rw [hiv] at v1 v2 HMU
                  rw [hsv] at hxo HMU
                  rw [hnx, hny] at hxo
                  have KEEP := Lib.hid (show ∀ w', Fld q.p b wd w' → Turned b w6 w' → w'.cell? (adP.add r) = some (.slice (some adPi) k (Bq r)) ∧ w'.cell? (adPi.add c) = some (.int .i64 (iv : Nat)) ∧ w'.cell? (adS.add c) = some (.slice (some adSi) i (Bt c)) ∧ w'.cell? (adSi.add r) = some (.int .i64 (iv : Nat)) ∧ w'.cell? (adA.add r) = some (.int .i64 (nx : Nat)) ∧ w'.cell? (adB.add c) = some (.int .i64 (ny : Nat)) ∧ Fld q.p b wd w' ∧ Turned b w6 w' from fun w' hf ht => by
                    have h1 := CELL (p1.turned ht) rfl hltr
                    have h2 := CELL (s1.turned ht) rfl hltc
                    simp only [slis] at h1 h2
                    rw [ePi] at h1
                    rw [eSi] at h2
                    have h3 := CELL ((p2 r hltr).turned ht) ePi hltc
                    have h4 := CELL ((s2 c hltc).turned ht) eSi hltr
                    have h5 := CELL (R16.out.turned ht) rfl hltr
                    have h6 := CELL (R26.out.turned ht) rfl hltc
                    simp only [i64s] at h3 h4 h5 h6
                    rw [v1] at h3
                    rw [v2] at h4
                    rw [hnx] at h5
                    rw [hny] at h6
                    exact ⟨h1, h3, h2, h4, h5, h6, hf, ht⟩)
                  have KS := Lib.hid (show ∀ w1 w', Fld q.p b wd w' → Turned b w1 w' → (w1.cell? (adP.add r) = some (.slice (some adPi) k (Bq r)) ∧ w1.cell? (adPi.add c) = some (.int .i64 (iv : Nat)) ∧ w1.cell? (adS.add c) = some (.slice (some adSi) i (Bt c)) ∧ w1.cell? (adSi.add r) = some (.int .i64 (iv : Nat)) ∧ w1.cell? (adA.add r) = some (.int .i64 (nx : Nat)) ∧ w1.cell? (adB.add c) = some (.int .i64 (ny : Nat)) ∧ Fld q.p b wd w1 ∧ Turned b w6 w1) → _ from fun w1 w' hf ht h => KEEP.out w' hf (h.2.2.2.2.2.2.2.trans ht))
                  have KF := Lib.hid (show ∀ w1, (w1.cell? (adP.add r) = some (.slice (some adPi) k (Bq r)) ∧ w1.cell? (adPi.add c) = some (.int .i64 (iv : Nat)) ∧ w1.cell? (adS.add c) = some (.slice (some adSi) i (Bt c)) ∧ w1.cell? (adSi.add r) = some (.int .i64 (iv : Nat)) ∧ w1.cell? (adA.add r) = some (.int .i64 (nx : Nat)) ∧ w1.cell? (adB.add c) = some (.int .i64 (ny : Nat)) ∧ Fld q.p b wd w1 ∧ Turned b w6 w1) → Fld q.p b wd w1 from fun w1 h => h.2.2.2.2.2.2.1)
                  have hst := KEEP.out wr.drew (HFC.out.of_below (Below.refl wr.heap.size wr).drew) HTC.out.drew
                  have z1 : (r : Int) < (i : Int) := by omega
                  have z2 : (c : Int) < (k : Int) := by omega
                  have t1 : ((k : Int) != (k : Int)) = false := by simp
                  have t2 : ((i : Int) != (i : Int)) = false := by simp
                  have t3 : ((iv : Int) != (iv : Int)) = false := by simp
                  clear hX hY vx vy hne v1 v2 HXO hiv hsv hnx hny p1 p2 s1 s2 ePi eSi CELL
                  go_wp2_with fail
                  go_region_held3 (fun w' => w'.cell? (adP.add r) = some (.slice (some adPi) k (Bq r)) ∧ w'.cell? (adPi.add c) = some (.int .i64 (iv : Nat)) ∧ w'.cell? (adS.add c) = some (.slice (some adSi) i (Bt c)) ∧ w'.cell? (adSi.add r) = some (.int .i64 (iv : Nat)) ∧ w'.cell? (adA.add r) = some (.int .i64 (nx : Nat)) ∧ w'.cell? (adB.add c) = some (.int .i64 (ny : Nat)) ∧ Fld q.p b wd w' ∧ Turned b w6 w')
                    (first | exact hst | assumption | (refine KS.out _ _ ‹_› ‹_› ?_; assumption))
                    ((go_at_call 20; refine (HMU.out _ ?_).mono ?_; (refine KF.out _ ?_; assumption); rintro e w' ⟨rfl, hf, ht⟩))
                  all_goals
                    rename_i hh
                    have HE := Lib.hid (And.intro hh.2.2.2.2.2.2.1 hh.2.2.2.2.2.2.2)
                    clear hh hst KEEP KS KF HMU
                    go_wp2_with fail
                    exact ⟨⟨c + 1, hltc, by go_num, HE.out.1, HE.out.2⟩, by simp [intOf]; omega⟩
                · obtain rfl : c = k := by omega
                  go_wp2_with fail
                  exact ⟨⟨r + 1, hltr, by go_num, HFC.out, HTC.out⟩, by simp [intOf]; omega⟩
            · obtain rfl : r = i := by omega
              have HE := Lib.hid (HL6.out.next HFR.out HTR.out).2.1
              go_wp2_with fail
              go_ret
              exact ⟨rfl, HE.out⟩

set_option maxRecDepth 100000 in
theorem lifted (os : Os) (started : os.Started) (H : Type) (enc : TypeId × Value → H) :
    ReturnsInHanded {} Try.checked os 6 .any (Rows.cauchyTurnedSpec.pre6 enc Try.prog Try.f6 Rows.cauchyTurnedRow.domain false) (Rows.cauchyTurnedSpec.post enc Try.prog Try.f6 false true false false) := by
  refine returnsInHanded_of_change (C := Try.checked) own started (by kernel_rfl) Try.func6
    (ChangeSpec.witness6 (enc := enc) (C := Try.checked) false ⟨#[], #[.bool false, .slice none 0 0, .slice none 0 0], []⟩ 8 (by kernel_rfl) (by kernel_rfl) (by kernel_rfl) (by kernel_rfl)) ?_
  intro W base args ds gs before hval0 hW hcnd _
  have hval : ∀ (j : Nat) t v, Try.f6.params[j]? = some t → args[j]? = some v → Value.okWide Try.prog W .any base t v := hval0
  have hW' := hW
  obtain ⟨p, q, hA0, hV, rfl, hfz, hnd⟩ := hW
  have hA : DataW.TrodAll enc Try.prog W 0 (fun _ => true) true Try.f6.params.toList args.toList ds p := hA0
  rw [Try.params6] at hA hval
  obtain ⟨v0, vs0, d0, ds0, p0, q0, hargs, rfl, rfl, h0, r0⟩ := trodAll_cons hA
  obtain ⟨v1, vs1, d1, ds1, p1, q1, rfl, rfl, rfl, h1, r1⟩ := trodAll_cons r0
  obtain ⟨v2, vs2, d2, ds2, p2, q2, rfl, rfl, rfl, h2, r2⟩ := trodAll_cons r1
  obtain ⟨rfl, rfl, rfl⟩ := trodAll_nil r2
  obtain rfl : args = #[v0, v1, v2] := by cases args; simp_all
  obtain ⟨rfl, rfl⟩ := trodVars_none hV
  obtain ⟨a0, rfl, rfl, rfl⟩ := open_bool Try.underlying4 (hval 0 4 v0 rfl rfl) h0
  obtain ⟨a1, len1, cap1, rfl⟩ := okWide_slice Try.underlying49 (hval 1 49 v1 rfl rfl)
  have k1 := h1
  have lt1 : ∀ x ∈ p1, x.block < W.heap.size := by obtain ⟨m, hm⟩ := k1; exact DataW.trod_lt m _ _ _ hm
  have w1 : IsWords W a1 len1 cap1 := by
    obtain ⟨fuel, hf⟩ := h1
    exact words_in hf
  obtain ⟨a2, len2, cap2, rfl⟩ := okWide_slice Try.underlying49 (hval 2 49 v2 rfl rfl)
  have k2 := h2
  have lt2 : ∀ x ∈ p2, x.block < W.heap.size := by obtain ⟨m, hm⟩ := k2; exact DataW.trod_lt m _ _ _ hm
  have w2 : IsWords W a2 len2 cap2 := by
    obtain ⟨fuel, hf⟩ := h2
    exact words_in hf
  clear hA0 hval0
  refine (walk a0 a1 len1 cap1 a2 len2 cap2 W w1 w2).mono fun e W' ⟨he, bel⟩ => ?_
  subst he
  exact ⟨_, rfl, _, _, _, [], _, [], hW', trodAll_mk1 (shut_bool Try.underlying4 _), (trodAll_cons_mk (shut_bool Try.underlying4 _) (trodAll_cons_mk (Below.trod laidOut (by kernel_rfl) (of_decide_eq_true (by kernel_rfl)) k1 bel lt1) (trodAll_cons_mk (Below.trod laidOut (by kernel_rfl) (of_decide_eq_true (by kernel_rfl)) k2 bel lt2) trodAll_mk0))), rfl, bel.frame _, fun h => by cases h⟩

theorem over : Rows.cauchyTurnedRow.holds Try.pinned (OpenSpec.ofChange Rows.cauchyTurnedSpec) :=
  OpenClaim.holds_of_wide 6 Try.f6 rfl rfl rfl rfl rfl rfl rfl ⟨rfl, rfl, rfl, rfl, rfl⟩ rfl rfl rfl rfl rfl (by kernel_rfl) Try.func6 (by kernel_rfl)
    (of_decide_eq_true (by kernel_rfl)) (by unfold Func.isWrapper; first | (rw [if_pos (by decide +kernel)]; kernel_rfl) | (rw [if_neg (by decide +kernel)]; exact ⟨rfl, rfl⟩))
    (fun os started H enc _ => lifted os started H enc)

theorem proved : Rows.CauchyTurnedSaid := over
end Go.Proofs.Ytgcochamjicjiaa.cauchyTurned
