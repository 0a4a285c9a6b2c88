/- CodecLinear: for all three bytes, and any two rows of bytes, parity of data shards that are added is what their parity is, added (its law takes 300 bytes of each at most). Condition: the package-level variable gambrel/profile.table holds, when the call begins, what the text of the program lays there; the card ties that to the text, over the pruned copy of the project that the seat holds. -/
import Derived.Test.YtgbipbcejjlpiaaGreatDoorRows
import Derived.Test.YtgbipbcejjlpiaaGreatDoorPrh
import Derived.Test.YtgbipbcejjlpiaaGreatDoorGyd
import Derived.Test.YtgbipbcejjlpiaaGreatDoorCdo
import Derived.Test.YtgbipbcejjlpiaaGreatDoorGxx
import Derived.Test.YtgbipbcejjlpiaaGreatDoorGxv
import Derived.Test.YtgbipbcejjlpiaaGreatDoorGxv
import Derived.Test.YtgbipbcejjlpiaaGreatDoorArr
import Derived.Test.YtgbipbcejjlpiaaGreatDoorCards
import Derived.Test.YtgbipbcejjlpiaaGreatDoorTie
import Derived.SevenTiedAt
import Derived.ChangeMaps5
import Derived.Deep.RegionHeld3
import Derived.WalkKit
import Derived.ProofKit
import Derived.OpenShut
import Derived.ShutString
import Derived.ChangeOld
import Derived.Below
namespace Go.Proofs.YtgbipbcejjlpiaaGreatDoor.codecLinear
open Go.ChangeShapes Go.WideShapes Go.ChangeAt Go.RowKit
set_option linter.unusedVariables false

theorem own : ownKnob Tryz.prog.godebug = none := by kernel_rfl
theorem laidOut : laidOutB Tryz.prog = true := by kernel_rfl

/-- in the law's loops -/
def LinIn (x0 S : Nat) (w0 : World) (P Q : Nat → Value) (H : Nat → Nat → Nat) (i : Nat) (vp vq vs s14 s15 : Value) (wr : World) : Prop := ∃ k : Nat, k ≤ S ∧ s15 = .int .i64 k ∧ Lin x0 w0 P Q H S (i + 1) (i + 1) i k vp vq vs s14 wr

def LinOut (n : Nat) (w : World) (s : Value) (wr : World) : Prop := ∃ j : Nat, j ≤ n ∧ s = .int .i64 j ∧ Below w.heap.size w wr
def LinAt (x0 K S : Nat) (w0 : World) (P Q : Nat → Value) (H : Nat → Nat → Nat) (s10 s11 s12 s13 : Value) (wr : World) : Prop := ∃ i : Nat, i ≤ K ∧ s13 = .int .i64 i ∧ Lin x0 w0 P Q H S i i i 0 s10 s11 s12 nilS wr

set_option maxRecDepth 100000 in
set_option maxHeartbeats 8000000 in
theorem walk (a0 b0 c0 : Int) (a1 : Option Addr) (len1 cap1 : Nat) (a2 : Option Addr) (len2 cap2 : Nat) (w : World) (w0 : (0 ≤ a0 ∧ a0 ≤ 255) ∧ (0 ≤ b0 ∧ b0 ≤ 255) ∧ 0 ≤ c0 ∧ c0 ≤ 255) (w1 : IsBytesN w a1 len1 cap1) (w2 : IsBytesN w a2 len2 cap2) (hT : Tab w) :
    Calls Tryz.prog 6 #[.agg (arr3 a0 b0 c0), .slice a1 len1 cap1, .slice a2 len2 cap2] w fun e w' => e = .returned (.bool true) ∧ Below w.heap.size w w' := by
  obtain ⟨i0, hi, hz0, hz1, hz2⟩ := info_parts infoS
  obtain ⟨i1, hi', hz0', hz1', hz2'⟩ := info_parts infoB
  obtain ⟨f, hf, hlc1, _, hr1⟩ := w1
  obtain ⟨g, hg, hlc2, _, hr2⟩ := w2
  have HA := Lib.hid w0
  have h0 := hT.lt
  have HRA := Lib.hid (hr1 w.heap.size (Nat.le_refl _))
  have HRB := Lib.hid (hr2 w.heap.size (Nat.le_refl _))
  have HF := Lib.hid hf
  have HG := Lib.hid hg
  obtain ⟨u, hu⟩ : ∃ u, w.alloc (.cells #[.int .u8 a0, .int .u8 b0, .int .u8 c0] T3u) = u := ⟨_, rfl⟩
  obtain ⟨s0, e0, hbu⟩ := one_box hu
  have HTU := Lib.hid (hT.below hbu)
  have HU := Lib.hid hbu
  have E0 := Lib.hid e0
  clear s0 e0 hbu hT w0 hr1 hr2 hf hg
  go_enter Tryz.func6, Tryz.ntmps6
  go_wp2_with fail
  refine (awakeK _ HTU.out).mono ?_
  rintro e w1 ⟨rfl, hb1⟩
  have H1 := Lib.hid (below_tr HU.out hb1)
  have HT1 := Lib.hid (HTU.out.below hb1)
  have y1 := kept_box E0.out hb1
  clear hb1 HTU HU E0 hu
  go_wp2_with (refine wpList_load_row rfl T3u _ rfl w.heap.size rfl T3u _ (0, 0) _ y1 Tryz.underlying38 rfl size3u ?_)
  refine (some20 a0 b0 c0 HA.out.1 HA.out.2.1 HA.out.2.2 _).mono ?_
  rintro e w2 ⟨p, k, m, rfl, hX, hb2⟩
  obtain ⟨K, rfl⟩ : ∃ K : Nat, k = (K : Int) := ⟨k.toNat, by have := hX.2.1; omega⟩
  obtain ⟨M, rfl⟩ : ∃ M : Nat, m = (M : Int) := ⟨m.toNat, by have := hX.2.2.1; omega⟩
  have hK := hX.2.1
  have hM : 1 ≤ M ∧ M ≤ 4 := by have := hX.2.2; have := (max_pos hX.1).2; omega
  have HX := Lib.hid hX
  have hwl : w.heap.size < w2.heap.size := by
    have h5 := kept_box y1 hb2
    rcases Nat.lt_or_ge w.heap.size w2.heap.size with hl | hl
    · exact hl
    · rw [Array.getElem?_eq_none hl] at h5; cases h5
  obtain ⟨v, hv⟩ : ∃ v, w2.alloc (.cells #[.int .i64 p, .int .i64 K, .int .i64 M] TPa) = v := ⟨_, rfl⟩
  obtain ⟨s2, e2, hbv⟩ := one_box hv
  have H3 := Lib.hid (below_tr H1.out (below_tr hb2 hbv))
  have HT3 := Lib.hid (HT1.out.below (below_tr hb2 hbv))
  have E2 := Lib.hid e2
  obtain ⟨d0, d1, d2⟩ := box_three e2
  have hvs : w2.heap.size < v.heap.size := by omega
  clear s2 e2 hbv hb2 hX H1 HT1 y1 HA
  have hKz : ¬ (K : Int) = 0 := by omega
  have hKz2 : ¬ K = 0 := by omega
  obtain ⟨T, hT1, hT2, hT3, hmin⟩ : ∃ T : Nat, T ≤ len1 ∧ T ≤ len2 ∧ T ≤ 300 ∧ ∀ w : World, (Builtin.min_ #[TI, TI, TI] TI #[.int .i64 (len1 : Int), .int .i64 (len2 : Int), .int .i64 300]).run Tryz.prog w = .ok (.int .i64 (T : Int)) w := by
    refine ⟨min (min len1 len2) 300, by omega, by omega, by omega, fun w => ?_⟩
    rw [run_min_int3]
    congr 2
    split <;> split <;> omega
  obtain ⟨Q, hQ⟩ : ∃ Q : Nat, (T : Int) / (K : Int) = (Q : Int) := ⟨T / K, (Int.natCast_ediv _ _).symm⟩
  have hQK : K * Q ≤ T := by
    have e : T / K = Q := by have := Int.natCast_ediv T K; omega
    rw [← e]
    exact Nat.mul_div_le T K
  have hQt : (T : Int).tdiv (K : Int) = (Q : Int) := by rw [Int.tdiv_eq_ediv_of_nonneg (by omega)]; exact hQ
  have hQ300 : Q ≤ 300 := Nat.le_trans (Nat.le_mul_of_pos_left Q (by omega)) (Nat.le_trans hQK hT3)
  obtain ⟨R, hR⟩ : ∃ R : Nat, (Q : Int) / 2 = (R : Int) := ⟨Q / 2, by omega⟩
  have hRt : (Q : Int).tdiv 2 = (R : Int) := by rw [Int.tdiv_eq_ediv_of_nonneg (by omega)]; exact hR
  obtain ⟨S, hS⟩ : ∃ S : Nat, (R : Int) * 2 = (S : Int) := ⟨R * 2, by omega⟩
  have hSQ : S ≤ Q := by omega
  have HSE := Lib.hid (show S % nP p = 0 by unfold nP; split <;> omega)
  have hKS : K * S ≤ T := Nat.le_trans (Nat.mul_le_mul_left K hSQ) hQK
  have HKS := Lib.hid hKS
  clear hKS hQK
  go_wp2_with fail
  clear hmin hQ hQt hR hRt hS hKz hKz2 d0 d1 d2 hSQ hQ300
  go_loopw [10, 11, 12, 13] (fun s10 s11 s12 s13 wr => LinAt w.heap.size K S v (slis (fun r => cutA (r * S) a1 cap1) (fun _ => S) (fun r => cap1 - r * S)) (slis (fun r => cutA (r * S) a2 cap2) (fun _ => S) (fun r => cap2 - r * S)) (fun r j => f (r * S + j) ^^^ g (r * S + j)) s10 s11 s12 s13 wr) (fun _ _ _ s13 _ => K - (intOf s13).toNat)
  case atStart => exact ⟨0, Nat.zero_le _, rfl, Lin.start _ _ _ _ _ _⟩
  case round =>
    obtain ⟨i, hiK, rfl, hlin⟩ := hrel
    have HLIN := Lib.hid hlin
    have hzr := hlin.below.size
    obtain ⟨d0, d1, d2⟩ := box_three (kept_box E2.out hlin.below)
    clear hlin
    by_cases hlt : i < K
    · obtain ⟨X, hX⟩ : ∃ X, i * S = X := ⟨_, rfl⟩
      have hXS : X + S ≤ T := by
        rw [← hX]
        have h5 : (i + 1) * S ≤ K * S := Nat.mul_le_mul_right S hlt
        have h6 := HKS.out
        rw [Nat.succ_mul] at h5
        omega
      have HXX := Lib.hid hX
      have hv1 : Value.int .i64 (wrap64 ((i : Int) * (S : Int))) = .int .i64 (X : Int) := by
        rw [← Int.natCast_mul, hX, wrap64_n _ (by omega)]
      have hv2 : Value.int .i64 (wrap64 (((i : Int) + 1) * (S : Int))) = .int .i64 ((X : Int) + (S : Int)) := by
        rw [show ((i : Int) + 1) * (S : Int) = ((X + S : Nat) : Int) by rw [Int.add_mul, Int.one_mul, ← Int.natCast_mul, hX]; rfl, wrap64_n _ (by omega)]
        rfl
      have hcut1 := run_cutB a1 len1 cap1 X S (by omega)
      have hcut2 := run_cutB a2 len2 cap2 X S (by omega)
      clear hX
      have HPI := Lib.hid (show (slis (fun r => cutA (r * S) a1 cap1) (fun _ => S) (fun r => cap1 - r * S)) i = .slice (cutA X a1 cap1) S (cap1 - X) by simp only [slis]; rw [HXX.out])
      have HQI := Lib.hid (show (slis (fun r => cutA (r * S) a2 cap2) (fun _ => S) (fun r => cap2 - r * S)) i = .slice (cutA X a2 cap2) S (cap2 - X) by simp only [slis]; rw [HXX.out])
      go_wp2_with (at_builtin; refine wpList_append_lies _ rfl (.tmp 43) (.tmp 53) TRs rfl v.heap.size TBs i0 nilS 1 24 Tryz.underlying24 hi hz0 hz1 hz2 rfl (by decide) _ i _ rfl (HLIN.out.p.alloc _) ⟨wr.heap.size, 0, none⟩ 1 1 [.slice (cutA X a1 cap1) S (cap1 - X)] rfl rfl (news_one rfl) (one_slice' _ _ _) (by omega) (by unfold maxLen; omega) (by omega) (by simp; omega) _ rfl ?_)
      intro g1 p1 w3 hown1 hgr1 hg1 _
      have HL2 := Lib.hid (HLIN.out.addP (by decide) (by rw [HPI.out]; exact hown1) hgr1 hg1)
      have hz3 := HL2.out.below.size
      clear hown1 hgr1 hg1 HLIN HPI d0 d1 d2 hcut1
      go_wp2_with (at_builtin; refine wpList_append_lies _ rfl (.tmp 55) (.tmp 65) TRs rfl v.heap.size TBs i0 nilS 1 24 Tryz.underlying24 hi hz0 hz1 hz2 rfl (by decide) _ i _ rfl (HL2.out.q.alloc _) ⟨w3.heap.size, 0, none⟩ 1 1 [.slice (cutA X a2 cap2) S (cap2 - X)] rfl rfl (news_one rfl) (one_slice' _ _ _) (by omega) (by unfold maxLen; omega) (by omega) (by simp; omega) _ rfl ?_)
      intro g2 p2 w4 hown2 hgr2 hg2 _
      have HL3 := Lib.hid (HL2.out.addQ (by decide) (by rw [HQI.out]; exact hown2) hgr2 hg2)
      have hz4 := HL3.out.below.size
      clear hown2 hgr2 hg2 HL2 HQI hcut2 hv2
      go_wp2_with fail
      go_loopw [14, 15] (fun s14 s15 wr => LinIn w.heap.size S v (slis (fun r => cutA (r * S) a1 cap1) (fun _ => S) (fun r => cap1 - r * S)) (slis (fun r => cutA (r * S) a2 cap2) (fun _ => S) (fun r => cap2 - r * S)) (fun r j => f (r * S + j) ^^^ g (r * S + j)) i (.slice (some ⟨g1, 0, none⟩) (i + 1) p1) (.slice (some ⟨g2, 0, none⟩) (i + 1) p2) u12 s14 s15 wr) (fun _ s15 _ => S - (intOf s15).toNat)
      case atStart => exact ⟨0, Nat.zero_le _, rfl, HL3.out⟩
      case round =>
        clear HL3
        obtain ⟨k, hkS, rfl, hlin⟩ := hrel
        have HL := Lib.hid hlin
        have hb := hlin.below
        have hzr2 := hb.size
        clear hlin
        by_cases hlt2 : k < S
        · obtain ⟨q, hq⟩ : ∃ q, X + k = q := ⟨_, rfl⟩
          have hv3 : Value.int .i64 (wrap64 ((X : Int) + (k : Int))) = .int .i64 (q : Int) := by
            rw [← Int.natCast_add, hq, wrap64_n _ (by omega)]
          have hv4 : Value.int .i64 (IntKind.i64.wrap ((X : Int) + (k : Int))) = .int .i64 (q : Int) := by
            have h5 : IntKind.i64.wrap (q : Int) = (q : Int) := by rw [IntKind.wrap_i64]; omega
            rw [← Int.natCast_add, hq, h5]
          have hv5 : Value.int .i64 (IntKind.i64.wrap ((i : Int) * (S : Int))) = .int .i64 (X : Int) := by
            have h5 : IntKind.i64.wrap (X : Int) = (X : Int) := by rw [IntKind.wrap_i64]; omega
            rw [← Int.natCast_mul, HXX.out, h5]
          have hq1 : q < len1 := by omega
          have hq2 : q < len2 := by omega
          have hq1I : (q : Int) < (len1 : Int) := by omega
          have hq2I : (q : Int) < (len2 : Int) := by omega
          have HHK := Lib.hid (show u8s ((fun r j => f (r * S + j) ^^^ g (r * S + j)) i) k = .int .u8 ((f q ^^^ g q : Nat) : Int) by simp only [u8s]; rw [HXX.out, hq])
          clear hq
          obtain ⟨ad1, rfl, c1⟩ := (HRA.out.below (below_tr H3.out hb)).at_ hq1
          obtain ⟨ad2, rfl, c2⟩ := (HRB.out.below (below_tr H3.out hb)).at_ hq2
          simp only [u8s] at c1 c2
          have HK := Lib.hid (show ∀ w', Below v.heap.size v w' → w'.cell? (ad1.add q) = some (.int .u8 (f q : Nat)) ∧ w'.cell? (ad2.add q) = some (.int .u8 (g q : Nat)) from fun w' hb' => by
            obtain ⟨a3, e3, c3⟩ := (HRA.out.below (below_tr H3.out hb')).at_ hq1
            obtain ⟨a4, e4, c4⟩ := (HRB.out.below (below_tr H3.out hb')).at_ hq2
            injection e3 with e3
            injection e4 with e4
            subst e3 e4
            exact ⟨c3, c4⟩)
          have hfq := HF.out q
          have hgq := HG.out q
          have HXO := Lib.hid (u8_xor_nat (f q) (g q) hfq hgq)
          obtain ⟨x, hx⟩ : ∃ x, f q = x := ⟨_, rfl⟩
          obtain ⟨y, hy⟩ : ∃ y, g q = y := ⟨_, rfl⟩
          rw [hx] at c1 HK hfq HXO HHK
          rw [hy] at c2 HK hgq HXO HHK
          have HN := Lib.hid (show Value.int .u8 (bits .xor .u8 (x : Int) (y : Int)) = u8s ((fun r j => f (r * S + j) ^^^ g (r * S + j)) i) k by rw [HHK.out, HXO.out])
          have HBV := Lib.hid hb
          clear hx hy hb
          go_wp2_with fail
          go_region_held3 (fun w' => w'.cell? (ad1.add q) = some (.int .u8 (x : Nat)) ∧ w'.cell? (ad2.add q) = some (.int .u8 (y : Nat)))
            (first | exact ⟨c1, c2⟩ | exact HK.out _ (HBV.out.drew.alloc hzr2 _) | exact HK.out _ ((HBV.out.drew.alloc hzr2 _).grown hgx (by simp; omega) (fun q hq => (HL.out.t.lt q hq).1)) | assumption)
            (first
              | (refine step_append_lies _ rfl (.tmp 72) (.tmp 90) TBs rfl v.heap.size TB i1 (.int .u8 0) 1 1 Tryz.underlying34 hi' hz0' hz1' hz2' rfl (by decide) _ k _ (by simp [Act.eval]) (HL.out.t.drew.alloc _) ⟨wr.heap.size, 0, none⟩ 1 1 [u8s ((fun r j => f (r * S + j) ^^^ g (r * S + j)) i) k] (by simp [Act.eval]) rfl (news_one HN.out) (one_u8 _) (by omega) (by unfold maxLen; omega) (by omega) (by simp; omega) _ rfl ?_; intro g3 p3 w5 hownx hgx hatx hltx))
          all_goals
            have HL5 := Lib.hid (HL.out.drew.addT (by decide) hownx hgx (hatx.imp id (fun e => e.trans (show _ = wr.drew.heap.size + 1 by simp))))
            clear hownx hgx hatx hltx HL HBV HK HN HXO HHK c1 c2
            go_wp2_with fail
            exact ⟨⟨k + 1, hlt2, by go_num, HL5.out⟩, by simp [intOf]; omega⟩
        · obtain rfl : S = k := by omega
          obtain ⟨At, ct, rfl, _, _⟩ := Rd.of_own HL.out.t (show 0 < v.heap.size by omega)
          obtain ⟨Bs, Ds, s1, s2⟩ := HL.out.s
          have S1 := Lib.hid s1
          have S2 := Lib.hid s2
          clear s1 s2 hb
          go_wp2_with (at_builtin; refine wpList_append_lies _ rfl (.tmp 92) (.tmp 94) TRs rfl v.heap.size TBs i0 nilS 1 24 Tryz.underlying24 hi hz0 hz1 hz2 rfl (by decide) _ i _ rfl (S1.out.alloc _) ⟨wr.heap.size, 0, none⟩ 1 1 [.slice At S ct] rfl rfl (news_one rfl) (one_slice' _ _ _) (by omega) (by unfold maxLen; omega) (by omega) (by simp; omega) _ rfl ?_)
          intro g4 p4 w6 hown4 hgr4 hg4 _
          have HL6 := Lib.hid (HL.out.addS (by omega) (by decide) S1.out S2.out hown4 hgr4 hg4)
          clear hown4 hgr4 hg4 HL S1 S2
          go_wp2_with fail
          exact ⟨⟨i + 1, hlt, by go_num, HL6.out⟩, by simp [intOf]; omega⟩
    · obtain rfl : K = i := by omega
      obtain ⟨AP, cP, rfl, hcP, hrP⟩ := Rd.of_own HLIN.out.p (show w.heap.size < v.heap.size by omega)
      obtain ⟨AQ, cQ, rfl, hcQ, hrQ⟩ := Rd.of_own HLIN.out.q (show w.heap.size < v.heap.size by omega)
      obtain ⟨Bs, Ds, s1, s2⟩ := HLIN.out.s
      obtain ⟨AZ, cZ, rfl, hcZ, hrZ⟩ := Rd.of_own s1 (show w.heap.size < v.heap.size by omega)
      have hbv := HLIN.out.below
      have HRP := Lib.hid hrP
      have HRQ := Lib.hid hrQ
      have HRZ := Lib.hid hrZ
      have HCP := Lib.hid hcP
      have HCQ := Lib.hid hcQ
      have HCZ := Lib.hid hcZ
      have hend : ∀ r, r < K → r * S + S ≤ T := fun r hr => by
        have h5 : (r + 1) * S ≤ K * S := Nat.mul_le_mul_right S hr
        have h6 := HKS.out
        rw [Nat.succ_mul] at h5
        omega
      have HPR := Lib.hid (show ∀ r, r < K → Rd w.heap.size wr (u8s ((fun r j => f (r * S + j)) r)) (cutA (r * S) a1 cap1) S from fun r hr => (rd_cutB (HRA.out.below (below_tr H3.out hbv)) hlc1 (by have := hend r hr; omega)))
      have HQR := Lib.hid (show ∀ r, r < K → Rd w.heap.size wr (u8s ((fun r j => g (r * S + j)) r)) (cutA (r * S) a2 cap2) S from fun r hr => (rd_cutB (HRB.out.below (below_tr H3.out hbv)) hlc2 (by have := hend r hr; omega)))
      have HZR := Lib.hid (show ∀ r, r < K → Rd w.heap.size wr (u8s ((fun r j => f (r * S + j) ^^^ g (r * S + j)) r)) (Bs r) S from fun r hr => s2 r hr _ (Or.inl rfl))
      have HTR := Lib.hid (HT3.out.below hbv)
      have HR0 := Lib.hid (below_tr H3.out hbv)
      have ER := Lib.hid (kept_box E2.out hbv)
      have HPP := Lib.hid (show parP p K M K (fun _ => S) from ⟨HX.out, rfl, fun _ _ => ⟨rfl, HSE.out⟩⟩)
      have hS300 : S ≤ 1000 := by have := hend 0 (by omega); omega
      clear hrP hrQ hrZ hcP hcQ hcZ s1 s2 hbv hend HLIN
      go_wp2_with fail
      refine (par11 w.heap.size p K M _ (fun _ => S) _ (fun r j => f (r * S + j)) (fun r j => HF.out _) AP K cP (by omega) HCP.out (fun _ _ => hS300) _ HTR.out HRP.out HPR.out).mono ?_
      rintro e w5 ⟨t, v5, rfl, ht, A5, c5, rfl, _, hx5, hb5⟩
      obtain rfl : t = true := ht.2 HPP.out
      simp only [cond_true, Int.toNat_natCast] at hx5 ⊢
      rw [show errOf true = 0 from rfl]
      have HB5 := Lib.hid hb5
      have HX5 := Lib.hid (hx5 w.heap.size (by omega))
      have hz5 := hb5.size
      have ER5 := Lib.hid (kept_box ER.out hb5)
      clear hb5 hx5 ht d0 d1 d2
      obtain ⟨d0, d1, d2⟩ := box_three ER5.out
      go_wp2_with fail
      refine (par11 w.heap.size p K M _ (fun _ => S) _ (fun r j => g (r * S + j)) (fun r j => HG.out _) AQ K cQ (by omega) HCQ.out (fun _ _ => hS300) _ (HTR.out.below HB5.out) (HRQ.out.below HB5.out) (fun r hr => (HQR.out r hr).below HB5.out)).mono ?_
      rintro e w6 ⟨t, v6, rfl, ht, A6, c6, rfl, _, hx6, hb6⟩
      obtain rfl : t = true := ht.2 HPP.out
      simp only [cond_true, Int.toNat_natCast] at hx6 ⊢
      rw [show errOf true = 0 from rfl]
      have HB6 := Lib.hid (below_tr HB5.out hb6)
      have HX56 := Lib.hid (HX5.out.below hb6)
      have HX6 := Lib.hid (hx6 w.heap.size (by omega))
      have hz6 := hb6.size
      have ER6 := Lib.hid (kept_box ER5.out hb6)
      clear hb6 hx6 ht d0 d1 d2 HX5
      obtain ⟨d0, d1, d2⟩ := box_three ER6.out
      go_wp2_with fail
      refine (par11 w.heap.size p K M _ (fun _ => S) _ (fun r j => f (r * S + j) ^^^ g (r * S + j)) (fun r j => Nat.xor_lt_two_pow (n := 8) (HF.out _) (HG.out _)) AZ K cZ (by omega) HCZ.out (fun _ _ => hS300) _ (HTR.out.below HB6.out) (HRZ.out.below HB6.out) (fun r hr => (HZR.out r hr).below HB6.out)).mono ?_
      rintro e w7 ⟨t, v7, rfl, ht, A7, c7, rfl, _, hx7, hb7⟩
      obtain rfl : t = true := ht.2 HPP.out
      simp only [cond_true, Int.toNat_natCast] at hx7 ⊢
      rw [show errOf true = 0 from rfl]
      have HB7 := Lib.hid (below_tr HB6.out hb7)
      obtain ⟨U5, C5, u5, r5⟩ := HX56.out.below hb7
      obtain ⟨U6, C6, u6, r6⟩ := HX6.out.below hb7
      obtain ⟨U7, C7, u7, r7⟩ := hx7 w.heap.size (by omega)
      have HU5 := Lib.hid u5
      have HU6 := Lib.hid u6
      have HU7 := Lib.hid u7
      have HV5 := Lib.hid r5
      have HV6 := Lib.hid r6
      have HV7 := Lib.hid r7
      have ER7 := Lib.hid (kept_box ER6.out hb7)
      have HXO := Lib.hid (fun i j => parF_xor (p := p) (k := K) (m := M) (F := fun r j => f (r * S + j)) (G := fun r j => g (r * S + j)) (by omega) (fun _ _ => HF.out _) (fun _ _ => HG.out _) i j)
      have H7 := Lib.hid (below_tr HR0.out HB7.out)
      clear hb7 hx7 ht d0 d1 d2 HX56 HX6 u5 u6 u7 r5 r6 r7 HRP HRQ HRZ HPR HQR HZR HTR HB5 HB6 HB7 ER ER5 ER6 HRA HRB hT1 hT2 hT3 HKS
      obtain ⟨d0, d1, d2⟩ := box_three ER7.out
      go_wp2_with fail
      go_loopw [22] (fun s22 wr => LinOut M w7 s22 wr) (fun s22 _ => M - (intOf s22).toNat)
      case atStart => exact ⟨0, Nat.zero_le _, rfl, Below.refl _ _⟩
      case round =>
        clear d0 d1 d2
        obtain ⟨i, hiM, rfl, hb⟩ := hrel
        have HB := Lib.hid hb
        have d2 := (box_three (kept_box ER7.out hb)).2.2
        by_cases hiM2 : i < M
        · obtain ⟨ad5, rfl, q5⟩ := (HU5.out.below hb).at_ hiM2
          obtain ⟨ad6, rfl, q6⟩ := (HU6.out.below hb).at_ hiM2
          obtain ⟨ad7, rfl, q7⟩ := (HU7.out.below hb).at_ hiM2
          simp only [slis] at q5 q6 q7
          have hneS : ((S : Int) != (S : Int)) = false := by simp
          have hiMI : (i : Int) < (M : Int) := by omega
          clear hb
          go_wp2_with fail
          go_loopw [23] (fun s23 wr => LinOut S w7 s23 wr) (fun s23 _ => S - (intOf s23).toNat)
          case atStart => exact ⟨0, Nat.zero_le _, rfl, HB.out⟩
          case round =>
            clear d2 q5 q6 q7 HB
            obtain ⟨j, hjS, rfl, hb⟩ := hrel
            have HB := Lib.hid hb
            by_cases hjS2 : j < S
            · obtain ⟨a5, ha5, r5⟩ := ((HV5.out i hiM2).below hb).at_ hjS2
              obtain ⟨a6, ha6, r6⟩ := ((HV6.out i hiM2).below hb).at_ hjS2
              obtain ⟨a7, ha7, r7⟩ := ((HV7.out i hiM2).below hb).at_ hjS2
              have q5 : wr.cell? (ad5.add i) = some (.slice (U5 i) S (C5 i)) := by
                obtain ⟨ad', e', h5⟩ := (HU5.out.below hb).at_ hiM2
                injection e' with e'
                subst e'
                exact h5
              have q6 : wr.cell? (ad6.add i) = some (.slice (U6 i) S (C6 i)) := by
                obtain ⟨ad', e', h5⟩ := (HU6.out.below hb).at_ hiM2
                injection e' with e'
                subst e'
                exact h5
              have q7 : wr.cell? (ad7.add i) = some (.slice (U7 i) S (C7 i)) := by
                obtain ⟨ad', e', h5⟩ := (HU7.out.below hb).at_ hiM2
                injection e' with e'
                subst e'
                exact h5
              rw [ha5] at q5
              rw [ha6] at q6
              rw [ha7] at q7
              simp only [u8s] at r5 r6 r7
              have hx := parF_lt (p := p) (k := K) (m := M) (F := fun r j => f (r * S + j)) i j
              have hy := parF_lt (p := p) (k := K) (m := M) (F := fun r j => g (r * S + j)) i j
              rw [HXO.out i j] at r7
              obtain ⟨x, hxx⟩ : ∃ x, parF p K M (fun r j => f (r * S + j)) i j = x := ⟨_, rfl⟩
              obtain ⟨y, hyy⟩ : ∃ y, parF p K M (fun r j => g (r * S + j)) i j = y := ⟨_, rfl⟩
              rw [hxx] at r5 r7 hx
              rw [hyy] at r6 r7 hy
              have hbx := u8_xor_nat x y hx hy
              obtain ⟨z, hz⟩ : ∃ z, x ^^^ y = z := ⟨_, rfl⟩
              rw [hz] at r7 hbx
              have hzz : ((z : Int) != (z : Int)) = false := by simp
              have hjI : (j : Int) < (S : Int) := by omega
              have HNX := Lib.hid (show ∀ q, LinOut S w7 (.int .i64 ((j + 1 : Nat) : Int)) (wr.drewN q) from fun q => ⟨j + 1, hjS2, rfl, HB.out.trans ((below_drewN' _ _).mono HB.out.size)⟩)
              clear hb hxx hyy hz ha5 ha6 ha7 hx hy
              go_wp2_with fail
              go_quiet (fail)
              have HNQ := Lib.hid (HNX.out nq)
              generalize wr.drewN nq = wq at *
              clear q5 q6 q7 r5 r6 r7 HNX
              go_wp2_with fail
              exact ⟨HNQ.out, by simp [intOf]; omega⟩
            · obtain rfl : S = j := by omega
              have HNX := Lib.hid (show LinOut M w7 (.int .i64 ((i + 1 : Nat) : Int)) wr from ⟨i + 1, hiM2, rfl, hb⟩)
              clear hb
              go_wp2_with fail
              exact ⟨HNX.out, by simp [intOf]; omega⟩
        · obtain rfl : M = i := by omega
          have HE := Lib.hid (below_tr H7.out hb)
          clear hb
          go_wp2_with fail
          go_ret
          exact ⟨rfl, HE.out⟩

set_option maxRecDepth 100000 in
theorem lifted (os : Os) (started : os.Started) (H : Type) (enc : TypeId × Value → H) :
    ReturnsInHanded {} Tryz.checked os 6 .any (fun w args => (Rows.codecLinearSpec.pre enc Tryz.prog Tryz.f6 Rows.codecLinearRow.domain false w args ∧ laidMetH Tryz.prog laidT w) ∧ sizedMet enc Tryz.prog Tryz.f6 (OpenSpec.ofChange Rows.codecLinearSpec) false w args) (Rows.codecLinearSpec.post enc Tryz.prog Tryz.f6 false true false false) := by
  refine returnsInHanded_of_change_and (C := Tryz.checked) (X := fun w _ => laidMetH Tryz.prog laidT w) (fun _ _ _ hh h => h.of_heap hh) own started (by kernel_rfl) Tryz.func6
    (ChangeSpec.witness_shaped (enc := enc) (C := Tryz.checked) (os := os) (X := fun w _ => laidMetH Tryz.prog laidT w) false (World.doorLaid Tryz.prog 400 os) #[.agg #[.int .u8 0, .int .u8 0, .int .u8 0], .slice none 0 0, .slice none 0 0] 8 rfl (World.shaped_of_RefB (by kernel_rfl) (by kernel_rfl)) (by kernel_rfl) (by kernel_rfl) (by kernel_rfl) (door_met os _)) ?_
  intro W base args ds gs before hval0 hW hcnd _ hL _
  have hval : ∀ (j : Nat) t v, Tryz.f6.params[j]? = some t → args[j]? = some v → Value.okWide Tryz.prog W .any base t v := hval0
  have hW' := hW
  obtain ⟨p, q, hA0, hV, rfl, hfz, hnd⟩ := hW
  have hA : DataW.TrodAll enc Tryz.prog W 0 (fun _ => true) true Tryz.f6.params.toList args.toList ds p := hA0
  rw [Tryz.params6] at hA hval
  obtain ⟨v0, vs0, d0, ds0, p0, q0, hargs, rfl, rfl, h0, r0⟩ := trodAll_cons hA
  obtain ⟨v1, vs1, d1, ds1, p1, q1, rfl, rfl, rfl, h1, r1⟩ := trodAll_cons r0
  obtain ⟨v2, vs2, d2, ds2, p2, q2, rfl, rfl, rfl, h2, r2⟩ := trodAll_cons r1
  obtain ⟨rfl, rfl, rfl⟩ := trodAll_nil r2
  obtain rfl : args = #[v0, v1, v2] := by cases args; simp_all
  obtain ⟨rfl, rfl⟩ := trodVars_none hV
  obtain ⟨cs0, rfl, hsz0, _⟩ : ∃ cs, v0 = .agg cs ∧ cs.size = Tryz.prog.cellsOf 38 ∧ Row.okWide Tryz.prog W .any base 38 cs := by
    have := hval 0 38 v0 rfl rfl
    simpa [Value.okWide, Tryz.underlying38] using this
  rw [show Tryz.prog.cellsOf 38 = 3 by kernel_rfl] at hsz0
  obtain ⟨l0⟩ := cs0
  obtain ⟨e0, f0, g0, rfl⟩ := list3 l0 hsz0
  have k0 := h0
  have lt0 : ∀ x ∈ p0, x.block < W.heap.size := by obtain ⟨m, hm⟩ := k0; exact DataW.trod_lt m _ _ _ hm
  obtain ⟨fuel0, hf0⟩ := h0
  obtain ⟨a0, b0, c0, rfl, rfl, rfl, w0⟩ := three_in hf0
  obtain ⟨a1, len1, cap1, rfl⟩ := okWide_slice Tryz.underlying34 (hval 1 34 v1 rfl rfl)
  have k1 := h1
  have lt1 : ∀ x ∈ p1, x.block < W.heap.size := by obtain ⟨m, hm⟩ := k1; exact DataW.trod_lt m _ _ _ hm
  have w1 : IsBytesN W a1 len1 cap1 := by
    obtain ⟨fuel, hf⟩ := h1
    exact bytesn_in hf
  obtain ⟨a2, len2, cap2, rfl⟩ := okWide_slice Tryz.underlying34 (hval 2 34 v2 rfl rfl)
  have k2 := h2
  have lt2 : ∀ x ∈ p2, x.block < W.heap.size := by obtain ⟨m, hm⟩ := k2; exact DataW.trod_lt m _ _ _ hm
  have w2 : IsBytesN W a2 len2 cap2 := by
    obtain ⟨fuel, hf⟩ := h2
    exact bytesn_in hf
  clear hA0 hval0
  refine (walk a0 b0 c0 a1 len1 cap1 a2 len2 cap2 W w0 w1 w2 (tab_of_laid hL)).mono fun e W' ⟨he, bel⟩ => ?_
  subst he
  exact ⟨_, rfl, _, _, _, [], _, [], hW', trodAll_mk1 (shut_bool Tryz.underlying4 _), (trodAll_cons_mk (Below.trod laidOut (by kernel_rfl) (of_decide_eq_true (by kernel_rfl)) k0 bel lt0) (trodAll_cons_mk (Below.trod laidOut (by kernel_rfl) (of_decide_eq_true (by kernel_rfl)) k1 bel lt1) (trodAll_cons_mk (Below.trod laidOut (by kernel_rfl) (of_decide_eq_true (by kernel_rfl)) k2 bel lt2) trodAll_mk0))), rfl, bel.frame _, fun h => by cases h⟩

theorem over : Rows.codecLinearRow.holds Tryz.pinned (OpenSpec.ofChange Rows.codecLinearSpec) :=
  OpenClaim.holds_of_wide 6 Tryz.f6 rfl rfl rfl rfl rfl rfl rfl ⟨rfl, rfl, rfl, rfl, rfl⟩ rfl rfl rfl rfl rfl (by kernel_rfl) Tryz.func6 (by kernel_rfl)
    (of_decide_eq_true (by kernel_rfl)) (by unfold Func.isWrapper; first | (rw [if_pos (by decide +kernel)]; kernel_rfl) | (rw [if_neg (by decide +kernel)]; exact ⟨rfl, rfl⟩))
    (fun os started H enc _ => lifted os started H enc)

theorem proved : Rows.CodecLinearCardSaid :=
  Claim7.holds_tied_plain_at .later [] [.data] true Rows.codecLinearCard.stood.harness false
    over (fun _ h => by cases h) (by kernel_rfl) (fun _ h => by cases h) codecLinear_row_tie rfl ⟨rfl, rfl⟩ (by kernel_rfl) rfl
    (fun f fn hf hfn => by
      obtain rfl : f = 6 := Option.some.inj ((show Tryz.prog.funcNamed "gambrel/gambrellaw11.CodecLinear" = some 6 by kernel_rfl).symm.trans hf) |>.symm
      obtain rfl : fn = Tryz.f6 := (Option.some.inj (Tryz.func6.symm.trans hfn)).symm
      exact ⟨by kernel_rfl, fun j t ht => by
        rw [Tryz.params6] at ht
        have hm : t ∈ [38, 34, 34] := by simpa using Array.mem_of_getElem? ht
        have hall : ([38, 34, 34].all fun u => !Tryz.prog.wantsStandIn u) = true := by kernel_rfl
        exact (show Tryz.prog.wantsStandIn t = false by simpa using List.all_eq_true.1 hall t hm)⟩)
    (by kernel_rfl)
end Go.Proofs.YtgbipbcejjlpiaaGreatDoor.codecLinear
