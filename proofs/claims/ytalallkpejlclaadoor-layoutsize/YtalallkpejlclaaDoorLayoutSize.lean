/- LayoutSize: for all three bytes, and any number of 16 bits, of more bytes a shard has no fewer; in the shards there is room for all, and not with a unit less in each. Condition: the package-level variable gambrel/profile.table holds, when the call begins, what the text of the program lays there; the card ties that to the text, over the pruned copy of the project that the seat holds. -/
import Derived.Test.YtalallkpejlclaaDoorRows
import Derived.Test.YtalallkpejlclaaDoorPrh
import Derived.Test.YtalallkpejlclaaDoorLyj
import Derived.Test.YtalallkpejlclaaDoorLyk
import Derived.Test.YtalallkpejlclaaDoorGxv
import Derived.Test.YtalallkpejlclaaDoorGxv
import Derived.Test.YtalallkpejlclaaDoorArr
import Derived.Test.YtalallkpejlclaaDoorCards
import Derived.Test.YtalallkpejlclaaDoorTie
import Derived.SevenTiedAt
import Derived.ChangeMaps5
import Derived.Deep.RegionHeld3
import Derived.WalkKit
import Derived.ProofKit
import Derived.OpenShut
import Derived.ShutString
import Derived.ChangeOld
import Derived.Below
namespace Go.Proofs.YtalallkpejlclaaDoor.layoutSize
open Go.ChangeShapes Go.WideShapes Go.ChangeAt Go.RowKit
set_option linter.unusedVariables false

theorem own : ownKnob Tryd.prog.godebug = none := by kernel_rfl
theorem laidOut : laidOutB Tryd.prog = true := by kernel_rfl

set_option maxRecDepth 100000 in
set_option maxHeartbeats 8000000 in
theorem walk (a0 b0 c0 : Int) (a1 : Int) (w : World) (w0 : (0 ≤ a0 ∧ a0 ≤ 255) ∧ (0 ≤ b0 ∧ b0 ≤ 255) ∧ 0 ≤ c0 ∧ c0 ≤ 255) (w1 : 0 ≤ a1 ∧ a1 ≤ 65535) (hT : Tab w) :
    Calls Tryd.prog 7 #[.agg (arr3 a0 b0 c0), .int .u16 a1] w fun e w' => e = .returned (.bool true) ∧ Below w.heap.size w w' := by
  have HA := Lib.hid w0
  obtain ⟨n, hn, hn2⟩ : ∃ n : Nat, a1 % 4096 = (n : Int) ∧ n < 4096 := ⟨(a1 % 4096).toNat, by omega, by omega⟩
  obtain ⟨w10, w11⟩ := w1
  obtain ⟨u, hu⟩ : ∃ u, w.alloc (.cells #[.int .u8 a0, .int .u8 b0, .int .u8 c0] T3u) = u := ⟨_, rfl⟩
  obtain ⟨s0, e0, hbu⟩ := one_box hu
  have HTU := Lib.hid (hT.below hbu)
  have HU := Lib.hid hbu
  have E0 := Lib.hid e0
  clear s0 e0 hbu hT w0
  go_enter Tryd.func7, Tryd.ntmps7
  go_wp2_with fail
  refine (awakeL _ HTU.out).mono ?_
  rintro e w1 ⟨rfl, hb1⟩
  have H1 := Lib.hid (below_tr HU.out hb1)
  have HT1 := Lib.hid (HTU.out.below hb1)
  have y1 := kept_box E0.out hb1
  clear hb1 HTU HU E0 hu
  go_wp2_with (refine wpList_load_row rfl T3u _ rfl w.heap.size rfl T3u _ (0, 0) _ y1 Tryd.underlying44 rfl size3u ?_)
  refine (some20 a0 b0 c0 HA.out.1 HA.out.2.1 HA.out.2.2 _).mono ?_
  rintro e w2 ⟨p, k, m, rfl, hX, hb2⟩
  obtain ⟨K, rfl⟩ : ∃ K : Nat, k = (K : Int) := ⟨k.toNat, by have := hX.2.1; omega⟩
  have k1 : 1 ≤ K := by have := hX.2.1; omega
  have k8 : K ≤ 8 := by have := hX.2.1; omega
  have HX := Lib.hid hX
  obtain ⟨v, hv⟩ : ∃ v, w2.alloc (.cells #[.int .i64 p, .int .i64 K, .int .i64 m] TPa) = v := ⟨_, rfl⟩
  obtain ⟨s2, e2, hbv⟩ := one_box hv
  have H2 := Lib.hid (below_tr H1.out (below_tr hb2 hbv))
  have HT2 := Lib.hid (HT1.out.below (below_tr hb2 hbv))
  have E2 := Lib.hid e2
  obtain ⟨d0, d1, d2⟩ := box_three e2
  clear s2 e2 hbv hb2 hX H1 HT1 y1 HA
  go_wp2_with fail
  have hE1 : szE p K m n = 0 := (if_pos ⟨HX.out, by omega⟩).trans (if_pos (by omega))
  have hE2 : szE p K m ((n : Int) + 1) = 0 := (if_pos ⟨HX.out, by omega⟩).trans (if_pos (by omega))
  have hS1 := (szE_ok HX.out (show n ≤ 4096 by omega)).1
  have hS2 : szN p K m ((n : Int) + 1) = szU (unitL (layI p)) K (aheadL (layI p) + (n + 1)) := (szE_ok HX.out (show n + 1 ≤ 4096 by omega)).1
  have HZ1 := Lib.hid (size10 p K m n v HT2.out)
  have HZ2 := Lib.hid (fun w hT => size10 p K m ((n : Int) + 1) w hT)
  unfold SizeSaid at HZ1 HZ2
  obtain ⟨S, hS⟩ : ∃ S, szN p K m n = S := ⟨_, rfl⟩
  obtain ⟨S', hS'⟩ : ∃ S', szN p K m ((n : Int) + 1) = S' := ⟨_, rfl⟩
  rw [hE1, hS] at HZ1
  rw [hE2, hS'] at HZ2
  have hgg := szU_ge (u := unitL (layI p)) (K := K) (m := aheadL (layI p) + n) (unitL_pos _).1 k1
  have hmm := szU_mono (u := unitL (layI p)) (K := K) (show aheadL (layI p) + n ≤ aheadL (layI p) + (n + 1) by omega)
  have hll := szU_le (u := unitL (layI p)) (K := K) (m := aheadL (layI p) + (n + 1)) (unitL_pos _).1 k1
  rw [← hS1, hS] at hgg
  rw [← hS1, ← hS2, hS, hS'] at hmm
  rw [← hS2, hS'] at hll
  have hul := unitL_pos (layI p)
  have hal := aheadL_le (layI p)
  have hS5 : S ≤ 5000 := by omega
  have hS6 : S' ≤ 5000 := by omega
  obtain ⟨ly, hl⟩ : ∃ x, layI p = x := ⟨_, rfl⟩
  rw [hl] at hgg
  have HS := Lib.hid (show aheadL ly + n ≤ K * S ∧ unitL ly ≤ S ∧ S % unitL ly = 0 ∧ (S = unitL ly ∨ K * (S - unitL ly) < aheadL ly + n) ∧ S ≤ S' from ⟨hgg.1, hgg.2.1, hgg.2.2.1, hgg.2.2.2, hmm⟩)
  have HLY := Lib.hid (show ly = 106 ∨ ly = 105 ∨ ly = 98 ∨ ly = 112 by
    rw [← hl]
    have := HX.out.1
    unfold layI
    split
    · exact Or.inl rfl
    · split
      · exact Or.inr (Or.inl rfl)
      · split
        · exact Or.inr (Or.inr (Or.inl rfl))
        · split
          · exact Or.inr (Or.inr (Or.inr rfl))
          · omega)
  have HLI := Lib.hid hl
  clear hE1 hE2 hS1 hS2 hS hS' hgg hmm hll hul hal hl
  rw [hn]
  clear hn w10 w11
  refine HZ1.out.mono ?_
  rintro e w3 ⟨rfl, hb3⟩
  have H3 := Lib.hid (below_tr H2.out hb3)
  have HT3 := Lib.hid (HT2.out.below hb3)
  have E3 := Lib.hid (kept_box E2.out hb3)
  clear hb3 d0 d1 d2 HZ1
  obtain ⟨d0, d1, d2⟩ := box_three E3.out
  go_wp2_with fail
  refine (HZ2.out _ HT3.out).mono ?_
  rintro e w4 ⟨rfl, hb4⟩
  have H4 := Lib.hid (below_tr H3.out hb4)
  have E4 := Lib.hid (kept_box E3.out hb4)
  clear hb4 d0 d1 d2 HZ2
  obtain ⟨d0, d1, d2⟩ := box_three E4.out
  go_wp2_with fail
  refine (rof9 p w4).mono ?_
  rintro e w5 ⟨rfl, hb5⟩
  obtain ⟨tg, h1⟩ : ∃ x, tagI p = x := ⟨_, rfl⟩
  obtain ⟨bt, h2⟩ : ∃ x, bitsI p = x := ⟨_, rfl⟩
  obtain ⟨pl, h3⟩ : ∃ x, polyI p = x := ⟨_, rfl⟩
  obtain ⟨mx, h5⟩ : ∃ x, maxI p = x := ⟨_, rfl⟩
  simp only [rowA, h1, h2, h3, h5, HLI.out]
  obtain ⟨u5, hu5⟩ : ∃ u5, w5.alloc (.cells #[.string tg, .int .i64 bt, .int .u32 pl, .int .u8 ly, .int .i64 mx] TRw) = u5 := ⟨_, rfl⟩
  obtain ⟨s5, e5, hbu5⟩ := one_box hu5
  have H5 := Lib.hid (below_tr H4.out (below_tr hb5 hbu5))
  have k3 := box_at (i := 3) (x := .int .u8 ly) e5 rfl
  have hbx := kept_box E4.out (below_tr hb5 hbu5)
  clear h1 h2 h3 h5 hb5 s5 e5 hbu5 d0 d1 d2
  obtain ⟨d0, d1, d2⟩ := box_three hbx
  rcases HLY.out with hly | hly | hly | hly
  · subst hly
    have hu : unitL 106 = 8 := by decide
    have ha : aheadL 106 = 0 := by decide
    rw [hu, ha] at HS
    obtain ⟨g1, g2, g3, g4, g5⟩ := HS.out
    obtain ⟨q, hq⟩ : ∃ q, S * K = q := ⟨_, rfl⟩
    have hq8 : q ≤ 40000 := by rw [← hq]; exact Nat.le_trans (Nat.mul_le_mul hS5 k8) (by omega)
    have hwq : Value.int .i64 (wrap64 ((S : Int) * (K : Int))) = .int .i64 (q : Int) := by
      rw [← Int.natCast_mul, hq, wrap64_n _ (by omega)]
    have hg1 : 0 + n ≤ q := by rw [← hq, Nat.mul_comm]; exact g1
    have hmod1 : (S : Int) % 8 = 0 := by omega
    by_cases he : S = 8
    · have hb : ((S : Int) == 8) = true := by simp [he]
      clear g1 g4 hq he
      go_wp2_with fail
      go_ret
      first
        | exact ⟨rfl, H5.out⟩
        | exact ⟨by simp; omega, H5.out⟩
    · have hb : ((S : Int) == 8) = false := by simp; omega
      obtain ⟨z, hz⟩ : ∃ z, (S - 8) * K = z := ⟨_, rfl⟩
      have hz8 : z ≤ 40000 := by rw [← hz]; exact Nat.le_trans (Nat.mul_le_mul (show S - 8 ≤ 5000 by omega) k8) (by omega)
      have hwz : Value.int .i64 (wrap64 (((S : Int) - 8) * (K : Int))) = .int .i64 (z : Int) := by
        rw [show (S : Int) - 8 = ((S - 8 : Nat) : Int) by omega, ← Int.natCast_mul, hz, wrap64_n _ (by omega)]
      have hzl : z < 0 + n := by
        rcases g4 with g4 | g4
        · exact absurd g4 he
        · rw [← hz, Nat.mul_comm]; exact g4
      clear g1 g4 hq hz he
      go_wp2_with fail
      go_ret
      first
        | exact ⟨rfl, H5.out⟩
        | exact ⟨by simp; omega, H5.out⟩
  · subst hly
    have hu : unitL 105 = 16 := by decide
    have ha : aheadL 105 = 0 := by decide
    rw [hu, ha] at HS
    obtain ⟨g1, g2, g3, g4, g5⟩ := HS.out
    obtain ⟨q, hq⟩ : ∃ q, S * K = q := ⟨_, rfl⟩
    have hq8 : q ≤ 40000 := by rw [← hq]; exact Nat.le_trans (Nat.mul_le_mul hS5 k8) (by omega)
    have hwq : Value.int .i64 (wrap64 ((S : Int) * (K : Int))) = .int .i64 (q : Int) := by
      rw [← Int.natCast_mul, hq, wrap64_n _ (by omega)]
    have hg1 : 0 + n ≤ q := by rw [← hq, Nat.mul_comm]; exact g1
    have hmod1 : (S : Int) % 16 = 0 := by omega
    by_cases he : S = 16
    · have hb : ((S : Int) == 16) = true := by simp [he]
      clear g1 g4 hq he
      go_wp2_with fail
      go_ret
      first
        | exact ⟨rfl, H5.out⟩
        | exact ⟨by simp; omega, H5.out⟩
    · have hb : ((S : Int) == 16) = false := by simp; omega
      obtain ⟨z, hz⟩ : ∃ z, (S - 16) * K = z := ⟨_, rfl⟩
      have hz8 : z ≤ 40000 := by rw [← hz]; exact Nat.le_trans (Nat.mul_le_mul (show S - 16 ≤ 5000 by omega) k8) (by omega)
      have hwz : Value.int .i64 (wrap64 (((S : Int) - 16) * (K : Int))) = .int .i64 (z : Int) := by
        rw [show (S : Int) - 16 = ((S - 16 : Nat) : Int) by omega, ← Int.natCast_mul, hz, wrap64_n _ (by omega)]
      have hzl : z < 0 + n := by
        rcases g4 with g4 | g4
        · exact absurd g4 he
        · rw [← hz, Nat.mul_comm]; exact g4
      clear g1 g4 hq hz he
      go_wp2_with fail
      go_ret
      first
        | exact ⟨rfl, H5.out⟩
        | exact ⟨by simp; omega, H5.out⟩
  · subst hly
    have hu : unitL 98 = 1 := by decide
    have ha : aheadL 98 = 4 := by decide
    rw [hu, ha] at HS
    obtain ⟨g1, g2, g3, g4, g5⟩ := HS.out
    obtain ⟨q, hq⟩ : ∃ q, S * K = q := ⟨_, rfl⟩
    have hq8 : q ≤ 40000 := by rw [← hq]; exact Nat.le_trans (Nat.mul_le_mul hS5 k8) (by omega)
    have hwq : Value.int .i64 (wrap64 ((S : Int) * (K : Int))) = .int .i64 (q : Int) := by
      rw [← Int.natCast_mul, hq, wrap64_n _ (by omega)]
    have hg1 : 4 + n ≤ q := by rw [← hq, Nat.mul_comm]; exact g1
    have hmod1 : (S : Int) % 1 = 0 := by omega
    by_cases he : S = 1
    · have hb : ((S : Int) == 1) = true := by simp [he]
      clear g1 g4 hq he
      go_wp2_with fail
      go_ret
      first
        | exact ⟨rfl, H5.out⟩
        | exact ⟨by simp; omega, H5.out⟩
    · have hb : ((S : Int) == 1) = false := by simp; omega
      obtain ⟨z, hz⟩ : ∃ z, (S - 1) * K = z := ⟨_, rfl⟩
      have hz8 : z ≤ 40000 := by rw [← hz]; exact Nat.le_trans (Nat.mul_le_mul (show S - 1 ≤ 5000 by omega) k8) (by omega)
      have hwz : Value.int .i64 (wrap64 (((S : Int) - 1) * (K : Int))) = .int .i64 (z : Int) := by
        rw [show (S : Int) - 1 = ((S - 1 : Nat) : Int) by omega, ← Int.natCast_mul, hz, wrap64_n _ (by omega)]
      have hzl : z < 4 + n := by
        rcases g4 with g4 | g4
        · exact absurd g4 he
        · rw [← hz, Nat.mul_comm]; exact g4
      clear g1 g4 hq hz he
      go_wp2_with fail
      go_ret
      first
        | exact ⟨rfl, H5.out⟩
        | exact ⟨by simp; omega, H5.out⟩
  · subst hly
    have hu : unitL 112 = 1 := by decide
    have ha : aheadL 112 = 0 := by decide
    rw [hu, ha] at HS
    obtain ⟨g1, g2, g3, g4, g5⟩ := HS.out
    obtain ⟨q, hq⟩ : ∃ q, S * K = q := ⟨_, rfl⟩
    have hq8 : q ≤ 40000 := by rw [← hq]; exact Nat.le_trans (Nat.mul_le_mul hS5 k8) (by omega)
    have hwq : Value.int .i64 (wrap64 ((S : Int) * (K : Int))) = .int .i64 (q : Int) := by
      rw [← Int.natCast_mul, hq, wrap64_n _ (by omega)]
    have hg1 : 0 + n ≤ q := by rw [← hq, Nat.mul_comm]; exact g1
    have hmod1 : (S : Int) % 1 = 0 := by omega
    by_cases he : S = 1
    · have hb : ((S : Int) == 1) = true := by simp [he]
      clear g1 g4 hq he
      go_wp2_with fail
      go_ret
      first
        | exact ⟨rfl, H5.out⟩
        | exact ⟨by simp; omega, H5.out⟩
    · have hb : ((S : Int) == 1) = false := by simp; omega
      obtain ⟨z, hz⟩ : ∃ z, (S - 1) * K = z := ⟨_, rfl⟩
      have hz8 : z ≤ 40000 := by rw [← hz]; exact Nat.le_trans (Nat.mul_le_mul (show S - 1 ≤ 5000 by omega) k8) (by omega)
      have hwz : Value.int .i64 (wrap64 (((S : Int) - 1) * (K : Int))) = .int .i64 (z : Int) := by
        rw [show (S : Int) - 1 = ((S - 1 : Nat) : Int) by omega, ← Int.natCast_mul, hz, wrap64_n _ (by omega)]
      have hzl : z < 0 + n := by
        rcases g4 with g4 | g4
        · exact absurd g4 he
        · rw [← hz, Nat.mul_comm]; exact g4
      clear g1 g4 hq hz he
      go_wp2_with fail
      go_ret
      first
        | exact ⟨rfl, H5.out⟩
        | exact ⟨by simp; omega, H5.out⟩

set_option maxRecDepth 100000 in
theorem lifted (os : Os) (started : os.Started) (H : Type) (enc : TypeId × Value → H) :
    ReturnsInHanded {} Tryd.checked os 7 .any (fun w args => (Rows.layoutSizeSpec.pre enc Tryd.prog Tryd.f7 Rows.layoutSizeRow.domain false w args ∧ laidMetH Tryd.prog laidT w) ∧ sizedMet enc Tryd.prog Tryd.f7 (OpenSpec.ofChange Rows.layoutSizeSpec) false w args) (Rows.layoutSizeSpec.post enc Tryd.prog Tryd.f7 false true false false) := by
  refine returnsInHanded_of_change_and (C := Tryd.checked) (X := fun w _ => laidMetH Tryd.prog laidT w) (fun _ _ _ hh h => h.of_heap hh) own started (by kernel_rfl) Tryd.func7
    (ChangeSpec.witness_shaped (enc := enc) (C := Tryd.checked) (os := os) (X := fun w _ => laidMetH Tryd.prog laidT w) false (World.doorLaid Tryd.prog 400 os) #[.agg #[.int .u8 0, .int .u8 0, .int .u8 0], .int .u16 0] 8 rfl (World.shaped_of_RefB (by kernel_rfl) (by kernel_rfl)) (by kernel_rfl) (by kernel_rfl) (by kernel_rfl) (door_met os _)) ?_
  intro W base args ds gs before hval0 hW hcnd _ hL _
  have hval : ∀ (j : Nat) t v, Tryd.f7.params[j]? = some t → args[j]? = some v → Value.okWide Tryd.prog W .any base t v := hval0
  have hW' := hW
  obtain ⟨p, q, hA0, hV, rfl, hfz, hnd⟩ := hW
  have hA : DataW.TrodAll enc Tryd.prog W 0 (fun _ => true) true Tryd.f7.params.toList args.toList ds p := hA0
  rw [Tryd.params7] at hA hval
  obtain ⟨v0, vs0, d0, ds0, p0, q0, hargs, rfl, rfl, h0, r0⟩ := trodAll_cons hA
  obtain ⟨v1, vs1, d1, ds1, p1, q1, rfl, rfl, rfl, h1, r1⟩ := trodAll_cons r0
  obtain ⟨rfl, rfl, rfl⟩ := trodAll_nil r1
  obtain rfl : args = #[v0, v1] := by cases args; simp_all
  obtain ⟨rfl, rfl⟩ := trodVars_none hV
  obtain ⟨cs0, rfl, hsz0, _⟩ : ∃ cs, v0 = .agg cs ∧ cs.size = Tryd.prog.cellsOf 44 ∧ Row.okWide Tryd.prog W .any base 44 cs := by
    have := hval 0 44 v0 rfl rfl
    simpa [Value.okWide, Tryd.underlying44] using this
  rw [show Tryd.prog.cellsOf 44 = 3 by kernel_rfl] at hsz0
  obtain ⟨l0⟩ := cs0
  obtain ⟨e0, f0, g0, rfl⟩ := list3 l0 hsz0
  have k0 := h0
  have lt0 : ∀ x ∈ p0, x.block < W.heap.size := by obtain ⟨m, hm⟩ := k0; exact DataW.trod_lt m _ _ _ hm
  obtain ⟨fuel0, hf0⟩ := h0
  obtain ⟨a0, b0, c0, rfl, rfl, rfl, w0⟩ := three_in hf0
  obtain ⟨a1, rfl, rfl, rfl, w1⟩ := open_int Tryd.underlying53 (hval 1 53 v1 rfl rfl) h1
  clear hA0 hval0
  refine (walk a0 b0 c0 a1 W w0 (bounds_u16 w1) (tab_of_laid hL)).mono fun e W' ⟨he, bel⟩ => ?_
  subst he
  exact ⟨_, rfl, _, _, _, [], _, [], hW', trodAll_mk1 (shut_bool Tryd.underlying4 _), (trodAll_cons_mk (Below.trod laidOut (by kernel_rfl) (of_decide_eq_true (by kernel_rfl)) k0 bel lt0) (trodAll_cons_mk (shut_int Tryd.underlying53 w1) trodAll_mk0)), rfl, bel.frame _, fun h => by cases h⟩

theorem over : Rows.layoutSizeRow.holds Tryd.pinned (OpenSpec.ofChange Rows.layoutSizeSpec) :=
  OpenClaim.holds_of_wide 7 Tryd.f7 rfl rfl rfl rfl rfl rfl rfl ⟨rfl, rfl, rfl, rfl, rfl⟩ rfl rfl rfl rfl rfl (by kernel_rfl) Tryd.func7 (by kernel_rfl)
    (of_decide_eq_true (by kernel_rfl)) (by unfold Func.isWrapper; first | (rw [if_pos (by decide +kernel)]; kernel_rfl) | (rw [if_neg (by decide +kernel)]; exact ⟨rfl, rfl⟩))
    (fun os started H enc _ => lifted os started H enc)

theorem proved : Rows.LayoutSizeCardSaid :=
  Claim7.holds_tied_plain_at .later [] [.data] true Rows.layoutSizeCard.stood.harness false
    over (fun _ h => by cases h) (by kernel_rfl) (fun _ h => by cases h) layoutSize_row_tie rfl ⟨rfl, rfl⟩ (by kernel_rfl) rfl
    (fun f fn hf hfn => by
      obtain rfl : f = 7 := Option.some.inj ((show Tryd.prog.funcNamed "gambrel/gambrellaw10.LayoutSize" = some 7 by kernel_rfl).symm.trans hf) |>.symm
      obtain rfl : fn = Tryd.f7 := (Option.some.inj (Tryd.func7.symm.trans hfn)).symm
      exact ⟨by kernel_rfl, fun j t ht => by
        rw [Tryd.params7] at ht
        have hm : t ∈ [44, 53] := by simpa using Array.mem_of_getElem? ht
        have hall : ([44, 53].all fun u => !Tryd.prog.wantsStandIn u) = true := by kernel_rfl
        exact (show Tryd.prog.wantsStandIn t = false by simpa using List.all_eq_true.1 hall t hm)⟩)
    (by kernel_rfl)
end Go.Proofs.YtalallkpejlclaaDoor.layoutSize
