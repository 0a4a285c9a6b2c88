/- Layer 9: ProfileTells, where there is such a profile. -/
import Derived.Test.YtdidlfeolbcblaaGreatDoorPrh
import Derived.Test.YtdidlfeolbcblaaGreatDoorPre
import Derived.Test.YtdidlfeolbcblaaGreatDoorPrc
import Derived.Test.YtdidlfeolbcblaaGreatDoorPrg
import Derived.Test.YtdidlfeolbcblaaGreatDoorGxv
import Derived.Test.YtdidlfeolbcblaaGreatDoorGxv
import Derived.Deep.RegionHeld3
import Derived.WalkKit
namespace Go.Proofs.YtdidlfeolbcblaaGreatDoor
open Go.RowKit
set_option linter.unusedVariables false

set_option maxRecDepth 100000 in
set_option maxHeartbeats 16000000 in
theorem tells_yes (a0 : Int) (hp : 1 ≤ a0 ∧ a0 ≤ 6) (a1 : ByteArray) (a2 b2 c2 : Int) (w : World) (hT : Tab w) :
    Calls Tryz.prog 3 #[.int .i64 a0, .string a1, .agg (parA a2 b2 c2)] w fun e w' => e = .returned (.bool true) ∧ Below w.heap.size w w' := by
  obtain ⟨u, hu⟩ : ∃ u, w.alloc (.cells #[.int .i64 a2, .int .i64 b2, .int .i64 c2] TPa) = u := ⟨_, rfl⟩
  obtain ⟨s0, e0, hbu⟩ := one_box hu
  have HTU := Lib.hid (hT.below hbu)
  have KEEP := Lib.hid (show ∀ w', Below u.heap.size u w' → (w'.cell? ⟨w.heap.size, 0, none⟩ = some (.int .i64 a2) ∧ w'.cell? ⟨w.heap.size, 1, none⟩ = some (.int .i64 b2) ∧ w'.cell? ⟨w.heap.size, 2, none⟩ = some (.int .i64 c2)) ∧ Tab w' ∧ Below w.heap.size w w' from
    fun w' h => ⟨box_three (kept_box e0 h), (hT.below hbu).below h, below_tr hbu h⟩)
  obtain ⟨gx, hgx⟩ : ∃ gx, w.heap.size = gx := ⟨_, rfl⟩
  clear s0 e0 hbu hT
  have HPP := Lib.hid hp
  clear hp
  go_enter Tryz.func3, Tryz.ntmps3
  go_wp2_with fail
  refine (awakeP _ HTU.out).mono ?_
  rintro e w1 ⟨rfl, hb1⟩
  have H1 := Lib.hid hb1
  have HT1 := Lib.hid (HTU.out.below hb1)
  clear hb1 HTU hu
  go_wp2_with fail
  refine (of8 a0 _ HT1.out).mono ?_
  rintro e w2 ⟨rfl, hb2⟩
  obtain ⟨s, hs⟩ : ∃ s, tagI a0 = s := ⟨_, rfl⟩
  obtain ⟨bi, hbi⟩ : ∃ x, bitsI a0 = x := ⟨_, rfl⟩
  obtain ⟨po, hpo⟩ : ∃ x, polyI a0 = x := ⟨_, rfl⟩
  obtain ⟨la, hla⟩ : ∃ x, layI a0 = x := ⟨_, rfl⟩
  obtain ⟨mx, hmx⟩ : ∃ x, maxI a0 = x := ⟨_, rfl⟩
  obtain ⟨is, his⟩ : ∃ x, isI a0 = x := ⟨_, rfl⟩
  have HBI := Lib.hid hbi
  have HIS := Lib.hid his
  have HROW := Lib.hid (show rowA a0 = #[.string s, .int .i64 bi, .int .u32 po, .int .u8 la, .int .i64 mx] by rw [← hs, ← hbi, ← hpo, ← hla, ← hmx])
  rw [HROW.out, his]
  clear hs hbi hpo hla hmx his
  obtain ⟨v2, hv2⟩ : ∃ v2, w2.alloc (.cells #[.string s, .int .i64 bi, .int .u32 po, .int .u8 la, .int .i64 mx] TPr) = v2 := ⟨_, rfl⟩
  obtain ⟨s2, e2, hbv2⟩ := one_box hv2
  have H2 := Lib.hid (below_tr H1.out (below_tr hb2 hbv2))
  have E2 := Lib.hid e2
  clear hb2 s2 e2 hbv2 H1 HT1
  go_wp2_with fail
  refine (rof9 a0 _).mono ?_
  rintro e w3 ⟨rfl, hb3⟩
  rw [HROW.out, HIS.out]
  obtain ⟨v3, hv3⟩ : ∃ v3, w3.alloc (.cells #[.string s, .int .i64 bi, .int .u32 po, .int .u8 la, .int .i64 mx] TRw) = v3 := ⟨_, rfl⟩
  obtain ⟨s3, e3, hbv3⟩ := one_box hv3
  have H3 := Lib.hid (below_tr H2.out (below_tr hb3 hbv3))
  have E2 := Lib.hid (kept_box E2.out (below_tr hb3 hbv3))
  have E3 := Lib.hid e3
  clear hb3 s3 e3 hbv3 H2 hv2
  go_wp2_with fail
  refine (tagged10 a1 _ (KEEP.out _ H3.out).2.1).mono ?_
  rintro e w4 ⟨rfl, hb4⟩
  obtain ⟨tn, htn⟩ : ∃ x, tagN a1 = x := ⟨_, rfl⟩
  obtain ⟨tb, htb⟩ : ∃ x, decide (tn ≠ 0) = x := ⟨_, rfl⟩
  have HTN := Lib.hid htn
  have HTB := Lib.hid htb
  rw [htn, htb]
  have H4 := Lib.hid hb4
  clear hb4 htn htb hv3
  go_wp2_with fail
  refine (rtagged11 a1 _).mono ?_
  rintro e w5 ⟨rfl, hb5⟩
  rw [HTN.out, HTB.out]
  have H5 := Lib.hid (below_tr H4.out hb5)
  obtain ⟨c0, c1, c2'⟩ := (KEEP.out _ (below_tr H3.out H5.out)).1
  clear hb5 H4 HTN HTB
  rw [hgx] at c0 c1 c2'
  go_wp2_with fail
  refine (par12 a2 b2 c2 _ (KEEP.out _ (below_tr H3.out H5.out)).2.1).mono ?_
  rintro e w6 ⟨t, A6, k6, g6, rfl, ht, _, hx6, hg6, hb6⟩
  have HX := Lib.hid ht
  have X6 := Lib.hid hx6
  have G6 := Lib.hid hg6
  have H6 := Lib.hid (below_tr H5.out hb6)
  obtain ⟨d0, d1, d2⟩ := (KEEP.out _ (below_tr H3.out H6.out)).1
  rw [hgx] at d0 d1 d2
  clear ht hx6 hg6 hb6 H5 c0 c1 c2'
  go_wp2_with fail
  refine (rpar13 a2 b2 c2 g6 _ G6.out).mono ?_
  rintro e w7 ⟨t', A7, k7, rfl, ht', hx7, hb7⟩
  obtain rfl : t = t' := Bool.eq_iff_iff.2 (HX.out.trans ht'.symm)
  have X7 := Lib.hid (X6.out.below hb7)
  have Y7 := Lib.hid hx7
  have H7 := Lib.hid (below_tr H6.out hb7)
  obtain ⟨n, hn⟩ : ∃ n, cond t c2.toNat 0 = n := ⟨_, rfl⟩
  have HN := Lib.hid (show n ≤ 4 ∧ (n = 0 ∨ b2.toNat ≤ 8) by
    rw [← hn]
    cases t
    · exact ⟨Nat.zero_le _, .inl rfl⟩
    · obtain ⟨_, ⟨_, q1⟩, q2, q3⟩ := HX.out.1 rfl
      have := (show maxI a2 ≤ 4 by unfold maxI; split <;> (try split) <;> omega)
      exact ⟨by show c2.toNat ≤ 4; omega, .inr (by omega)⟩)
  rw [hn] at X7 Y7 ⊢
  clear ht' hx7 hb7 H6 X6 G6 d0 d1 d2 hn
  have hp := HPP.out
  obtain rfl : is = true := by rw [← HIS.out]; simp [isI]; omega
  have hbi := Lib.hid (show bi = (wdP a0 : Int) by rw [← HBI.out, bitsP hp])
  go_wp2_with fail
  refine (field_yes a0 hp _ (KEEP.out _ (below_tr H3.out H7.out)).2.1).mono ?_
  rintro e w8 ⟨b8, rfl, hf8, hn8, hb8⟩
  have hfc := hf8.c0
  rw [← hbi.out] at hfc
  have HFC := Lib.hid hfc
  have H8 := Lib.hid (below_tr H3.out (below_tr H7.out hb8))
  have XY := Lib.hid (show ∀ w', Below w8.heap.size w8 w' → Mx g6 w' (ivs (rowsE a2 b2.toNat c2.toNat)) (fun _ => b2.toNat) A6 n ∧ Mx g6 w' (ivs (rowsE a2 b2.toNat c2.toNat)) (fun _ => b2.toNat) A7 n from fun w' h => ⟨X7.out.below (below_tr hb8 h), Y7.out.below (below_tr hb8 h)⟩)
  have E8 := Lib.hid (And.intro (kept_box E2.out (below_tr H7.out hb8)) (kept_box E3.out (below_tr H7.out hb8)))
  have p0 := box_at (i := 0) (x := .string s) E8.out.1 rfl
  have p1 := box_at (i := 1) (x := .int .i64 bi) E8.out.1 rfl
  have p2 := box_at (i := 2) (x := .int .u32 po) E8.out.1 rfl
  have p3 := box_at (i := 3) (x := .int .u8 la) E8.out.1 rfl
  have p4 := box_at (i := 4) (x := .int .i64 mx) E8.out.1 rfl
  have q0 := box_at (i := 0) (x := .string s) E8.out.2 rfl
  have q1 := box_at (i := 1) (x := .int .i64 bi) E8.out.2 rfl
  have q2 := box_at (i := 2) (x := .int .u32 po) E8.out.2 rfl
  have q3 := box_at (i := 3) (x := .int .u8 la) E8.out.2 rfl
  have q4 := box_at (i := 4) (x := .int .i64 mx) E8.out.2 rfl
  obtain ⟨gb, hgb⟩ : ∃ gb, w3.heap.size = gb := ⟨_, rfl⟩
  simp only [hgb] at E8 q0 q1 q2 q3 q4 ⊢
  have HGX := Lib.hid hgx
  clear hf8 hn8 hfc hb8 X7 Y7 H3 H7 E2 E3 HIS HBI HROW hbi hgb hgx hp
  go_wp2_with fail
  have ST := Lib.hid (show ∀ w', Below w8.heap.size w8 w' → w'.cell? ⟨gx, 0, none⟩ = some (.int .i64 a2) ∧ w'.cell? ⟨gx, 1, none⟩ = some (.int .i64 b2) ∧ w'.cell? ⟨gx, 2, none⟩ = some (.int .i64 c2) ∧ w'.cell? ⟨gb, 1, none⟩ = some (.int .i64 bi) ∧ Below w8.heap.size w8 w' from fun w' h => by
    obtain ⟨⟨h0, h1, h2⟩, _⟩ := KEEP.out _ (below_tr H8.out h)
    rw [HGX.out] at h0 h1 h2
    exact ⟨h0, h1, h2, box_at (i := 1) (x := .int .i64 bi) (kept_box E8.out.2 h) rfl, h⟩)
  have KS := Lib.hid (show ∀ w1 w', Below w1.heap.size w1 w' → (w1.cell? ⟨gx, 0, none⟩ = some (.int .i64 a2) ∧ w1.cell? ⟨gx, 1, none⟩ = some (.int .i64 b2) ∧ w1.cell? ⟨gx, 2, none⟩ = some (.int .i64 c2) ∧ w1.cell? ⟨gb, 1, none⟩ = some (.int .i64 bi) ∧ Below w8.heap.size w8 w1) → _ from fun w1 w' hb h => ST.out w' (below_tr h.2.2.2.2 hb))
  have CM := Lib.hid (show ∀ w1, (w1.cell? ⟨gx, 0, none⟩ = some (.int .i64 a2) ∧ w1.cell? ⟨gx, 1, none⟩ = some (.int .i64 b2) ∧ w1.cell? ⟨gx, 2, none⟩ = some (.int .i64 c2) ∧ w1.cell? ⟨gb, 1, none⟩ = some (.int .i64 bi) ∧ Below w8.heap.size w8 w1) → Calls Tryz.prog 15 #[.agg (parA a2 b2 c2)] w1 fun e w' => e = .returned (.bool t) ∧ Below w1.heap.size w1 w' from fun w1 h => (may15 a2 b2 c2 w1 (KEEP.out _ (below_tr H8.out h.2.2.2.2)).2.1).mono fun e w' ⟨t1, he, ht, hb⟩ => ⟨by rw [he, Bool.eq_iff_iff.2 (ht.trans HX.out.symm)], hb⟩)
  have CR := Lib.hid (show ∀ w1, (w1.cell? ⟨gx, 0, none⟩ = some (.int .i64 a2) ∧ w1.cell? ⟨gx, 1, none⟩ = some (.int .i64 b2) ∧ w1.cell? ⟨gx, 2, none⟩ = some (.int .i64 c2) ∧ w1.cell? ⟨gb, 1, none⟩ = some (.int .i64 bi) ∧ Below w8.heap.size w8 w1) → Calls Tryz.prog 16 #[.agg (parA a2 b2 c2)] w1 fun e w' => e = .returned (.bool t) ∧ Below w1.heap.size w1 w' from fun w1 h => (rmay16 a2 b2 c2 w1).mono fun e w' ⟨t1, he, ht, hb⟩ => ⟨by rw [he, Bool.eq_iff_iff.2 (ht.trans HX.out.symm)], hb⟩)
  have CS := Lib.hid (show ∀ w1, (w1.cell? ⟨gx, 0, none⟩ = some (.int .i64 a2) ∧ w1.cell? ⟨gx, 1, none⟩ = some (.int .i64 b2) ∧ w1.cell? ⟨gx, 2, none⟩ = some (.int .i64 c2) ∧ w1.cell? ⟨gb, 1, none⟩ = some (.int .i64 bi) ∧ Below w8.heap.size w8 w1) → Calls Tryz.prog 17 #[.slice A6 n k6, .slice A7 n k7] w1 fun e w' => e = .returned (.bool true) ∧ Below w1.heap.size w1 w' from fun w1 h => (same19 g6 g6 _ _ _ _ A6 A7 n k6 k7 (by have := HN.out; omega) (fun r hr => by have := HN.out; omega) w1 (XY.out _ h.2.2.2.2).1 (XY.out _ h.2.2.2.2).2 (fun _ _ => rfl) (fun _ _ _ _ => rfl)).mono fun e w' ⟨he, q, hq⟩ => ⟨he, by rw [hq]; exact below_drewN' w1 q⟩)
  have CB := Lib.hid (show ∀ w1, (w1.cell? ⟨gx, 0, none⟩ = some (.int .i64 a2) ∧ w1.cell? ⟨gx, 1, none⟩ = some (.int .i64 b2) ∧ w1.cell? ⟨gx, 2, none⟩ = some (.int .i64 c2) ∧ w1.cell? ⟨gb, 1, none⟩ = some (.int .i64 bi) ∧ Below w8.heap.size w8 w1) → Calls Tryz.prog 18 #[.pointer (some ⟨b8, 0, none⟩)] w1 fun e w' => e = .returned (.int .i64 bi) ∧ Below w1.heap.size w1 w' from fun w1 h => ((bits14 b8 bi w1 ((h.2.2.2.2.cell (p := ⟨b8, 0, none⟩) (World.block_lt_of_cell? _ _ HFC.out)).trans HFC.out)).mono fun e w' ⟨he, hw⟩ => ⟨he, by rw [← hw]; exact Below.refl _ _⟩))
  have hst := ST.out w8.drew (Below.refl w8.heap.size w8).drew
  have HEND := Lib.hid (show ∀ w', (w'.cell? ⟨gx, 0, none⟩ = some (.int .i64 a2) ∧ w'.cell? ⟨gx, 1, none⟩ = some (.int .i64 b2) ∧ w'.cell? ⟨gx, 2, none⟩ = some (.int .i64 c2) ∧ w'.cell? ⟨gb, 1, none⟩ = some (.int .i64 bi) ∧ Below w8.heap.size w8 w') → Below w.heap.size w w' from fun w' h => (KEEP.out _ (below_tr H8.out h.2.2.2.2)).2.2)
  clear p0 p1 p2 p3 p4 q0 q1 q2 q3 q4 ST KEEP HX XY E8 H8 HGX HN HFC
  cases t
  · simp only [errOf, if_neg (show ¬ (false = true) by decide)] at CM CR ⊢
    first
      | (go_region_held3 (fun w' => w'.cell? ⟨gx, 0, none⟩ = some (.int .i64 a2) ∧ w'.cell? ⟨gx, 1, none⟩ = some (.int .i64 b2) ∧ w'.cell? ⟨gx, 2, none⟩ = some (.int .i64 c2) ∧ w'.cell? ⟨gb, 1, none⟩ = some (.int .i64 bi) ∧ Below w8.heap.size w8 w')
          (first | exact hst | assumption | (refine KS.out _ _ ‹_› ?_; assumption))
          (first | (go_at_call 15; refine (CM.out _ ?_).mono ?_; assumption; rintro e w' ⟨rfl, hb⟩) | (go_at_call 16; refine (CR.out _ ?_).mono ?_; assumption; rintro e w' ⟨rfl, hb⟩) | (go_at_call 17; refine (CS.out _ ?_).mono ?_; assumption; rintro e w' ⟨rfl, hb⟩) | (go_at_call 18; refine (CB.out _ ?_).mono ?_; assumption; rintro e w' ⟨rfl, hb⟩)))
      | fail
    all_goals
      rename_i hh
      have HE := Lib.hid (HEND.out _ hh)
      clear hh hst KS CM CR CS CB HEND
      go_wp2_with fail
      go_ret
      exact ⟨rfl, HE.out⟩
  · simp only [errOf, if_true] at CM CR ⊢
    first
      | (go_region_held (fun w' => w'.cell? ⟨gx, 0, none⟩ = some (.int .i64 a2) ∧ w'.cell? ⟨gx, 1, none⟩ = some (.int .i64 b2) ∧ w'.cell? ⟨gx, 2, none⟩ = some (.int .i64 c2) ∧ w'.cell? ⟨gb, 1, none⟩ = some (.int .i64 bi) ∧ Below w8.heap.size w8 w')
          (first | exact hst | assumption | (refine KS.out _ _ ‹_› ?_; assumption))
          (first | (go_at_call 15; refine (CM.out _ ?_).mono ?_; assumption; rintro e w' ⟨rfl, hb⟩) | (go_at_call 16; refine (CR.out _ ?_).mono ?_; assumption; rintro e w' ⟨rfl, hb⟩) | (go_at_call 17; refine (CS.out _ ?_).mono ?_; assumption; rintro e w' ⟨rfl, hb⟩) | (go_at_call 18; refine (CB.out _ ?_).mono ?_; assumption; rintro e w' ⟨rfl, hb⟩)))
      | fail
    all_goals
      rename_i hh
      have HE := Lib.hid (HEND.out _ hh)
      clear hh hst KS CM CR CS CB HEND
      go_wp2_with fail
      go_ret
      exact ⟨rfl, HE.out⟩
end Go.Proofs.YtdidlfeolbcblaaGreatDoor
