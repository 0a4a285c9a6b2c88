/- Layer 12: the contract of the document's Lost. Layer 12: the contract of the document's Spoilt. -/
import Derived.Test.YtgdgimknnjbieaaGreatDoorGra
import Derived.Test.YtgdgimknnjbieaaGreatDoorGxp

namespace Go.Proofs.YtgdgimknnjbieaaGreatDoor
open Go.RowKit

theorem one_bool (x : Bool) : ∀ u ∈ [Value.bool x], u.oneCell' = true := by intro u hu; simp at hu; subst hu; rfl

/-- s steps on from a, around N -/
def posN (N a s : Nat) : Nat := if a + s < N then a + s else a + s - N
/-- how many steps x lies on from a -/
def stpN (N a x : Nat) : Nat := if a ≤ x then x - a else x + N - a
theorem stp_pos {N a s : Nat} (ha : a < N) (hs : s < N) : stpN N a (posN N a s) = s := by unfold stpN posN; split <;> split <;> omega
theorem pos_lt {N a s : Nat} (ha : a < N) (hs : s < N) : posN N a s < N := by unfold posN; split <;> omega
theorem pos_stp {N a x : Nat} (ha : a < N) (hx : x < N) : posN N a (stpN N a x) = x ∧ stpN N a x < N := by unfold stpN posN; constructor <;> (split <;> (try split) <;> omega)
theorem pos_next {N a s : Nat} (ha : a < N) (hs : s + 1 < N) : (posN N a s + 1) % N = posN N a (s + 1) := by
  unfold posN
  by_cases h : a + s < N
  · rw [if_pos h]
    by_cases h2 : a + (s + 1) < N
    · rw [if_pos h2, Nat.mod_eq_of_lt (by omega)]
      omega
    · rw [if_neg h2, show a + s + 1 = N by omega, Nat.mod_self]
      omega
  · rw [if_neg h, if_neg (by omega), Nat.mod_eq_of_lt (by omega)]
    omega

/-- what Lost tells: N bools, of which so many aren't so -/
def LostSaid (N lost : Nat) (w : World) (e : Ending) (w' : World) : Prop :=
  ∃ (h : Nat → Bool) (A : Option Addr) (c : Nat), e = .returned (.slice A N c) ∧ N ≤ c ∧ cntT h N = N - min lost N ∧ (∀ b, b < w.heap.size → Rd b w' (bls h) A N) ∧ Below w.heap.size w w'
/-- in Lost's second loop -/
def LostAt (N lost g c : Nat) (w : World) (s11 s12 : Value) (wr : World) : Prop :=
  ∃ i a : Nat, i ≤ min lost N ∧ s12 = .int .i64 i ∧ a < N ∧ s11 = .int .i64 a ∧ Below w.heap.size w wr ∧ ∃ (h : Nat → Bool) (K : Nat → Value), cntT h N = N - i ∧ wr.rowIs g TBo c K ∧ ∀ j, j < N → K j = .bool (h j)

set_option maxRecDepth 100000 in
set_option maxHeartbeats 4000000 in
theorem rlost (N lost fr st : Nat) (hN : 1 ≤ N ∧ N ≤ 1000) (hf : fr ≤ 100000) (hs : st ≤ 100000) (hl : lost ≤ 100000) (w : World) :
    Calls Tryz.prog 20 #[.int .i64 N, .int .i64 lost, .int .i64 fr, .int .i64 st] w (LostSaid N lost w) := by
  obtain ⟨j0, hj, hy0, hy1, hy2⟩ := info_parts infoBo
  have hN1 := hN.1
  have hN2 := hN.2
  go_enter Tryz.func20, Tryz.ntmps20
  go_wp2_with fail
  go_loopw [9, 10] (fun s9 s10 wr => ∃ i : Nat, i ≤ N ∧ s10 = .int .i64 i ∧ App w TBo (bls (fun _ => true)) i s9 wr) (fun _ s10 _ => N - (intOf s10).toNat)
  case atStart => exact ⟨0, Nat.zero_le _, rfl, App.start _ _ _⟩
  case round =>
    obtain ⟨i, hiN, rfl, ha⟩ := hrel
    have HA := Lib.hid ha
    have hsz := ha.2.size
    clear ha
    by_cases hlt : i < N
    · go_wp2_with (at_builtin; refine wpList_append_lies _ rfl (.tmp 18) (.tmp 19) TBos rfl w.heap.size TBo j0 (.bool false) 1 1 Tryz.underlying25 hj hy0 hy1 hy2 rfl (by decide) _ i _ rfl (HA.out.1.alloc _) ⟨wr.heap.size, 0, none⟩ 1 1 [bls (fun _ => true) i] rfl rfl (news_one rfl) (one_bool _) (by omega) (by unfold maxLen; omega) (by omega) (by simp; omega) _ rfl ?_)
      intro g' p' w3 hown hgr hg _
      have HS := Lib.hid (HA.out.step hown hgr)
      clear hown hgr hg HA
      go_wp2_with fail
      exact ⟨⟨i + 1, hlt, by go_num, HS.out⟩, by simp [intOf]; omega⟩
    · obtain rfl : N = i := by omega
      obtain ⟨g, c, K0, rfl, hg, hc, hrow, hk⟩ := own_rowK HA.out.1 (by omega)
      obtain ⟨R, hR⟩ : ∃ R : Nat, (fr : Int) % (N : Int) = (R : Int) := ⟨fr % N, (Int.natCast_emod _ _).symm⟩
      have hRN : R < N := by have := Int.emod_lt_of_pos (fr : Int) (show 0 < (N : Int) by omega); omega
      have hRt : (fr : Int).tmod (N : Int) = (R : Int) := by rw [Int.tmod_eq_emod_of_nonneg (by omega)]; exact hR
      have hNz : ¬ N = 0 := by omega
      have HST := Lib.hid (show LostAt N lost g c w (.int .i64 R) (.int .i64 ((0 : Nat) : Int)) wr from ⟨0, R, Nat.zero_le _, rfl, hRN, rfl, HA.out.2, fun _ => true, K0, cntT_all N, hrow, hk⟩)
      have hgw : w.heap.size ≤ g := hg
      obtain ⟨wi, hwi⟩ : ∃ wi, wi = wr := ⟨_, rfl⟩
      subst hwi
      clear hrow hk HA hg
      go_wp2_with fail
      go_loopw [11, 12] (fun s11 s12 wr => LostAt N lost g c w s11 s12 wr) (fun _ s12 _ => N - (intOf s12).toNat)
      case atStart => exact HST.out
      case round =>
        clear HST hR hRt hRN
        obtain ⟨i, a, hi, rfl, haN, rfl, hb, h, K, hcnt, hrow, hk⟩ := hrel
        have HB := Lib.hid hb
        have HROW := Lib.hid hrow
        have HK := Lib.hid hk
        have HC := Lib.hid hcnt
        have hgl := hrow.lt
        clear hb hrow hk
        by_cases h1 : i < lost
        · by_cases h2 : i < N
          · obtain ⟨x, hxN, hhx⟩ := cntT_gap (h := h) N (by omega)
            have HX := Lib.hid hhx
            clear hhx hcnt
            go_wp2_with fail
            go_loop [11] (fun s11 => ∃ s : Nat, s ≤ stpN N a x ∧ s11 = .int .i64 (posN N a s)) (fun s11 => stpN N a x - stpN N a (intOf s11).toNat)
            case atStart => exact ⟨0, Nat.zero_le _, by unfold posN; rw [if_pos (by omega)]; rfl⟩
            case round =>
              obtain ⟨s, hs2, rfl⟩ := hrel
              have hsN : s < N := Nat.lt_of_le_of_lt hs2 (pos_stp haN hxN).2
              have hpN := pos_lt haN hsN
              have hsp := stp_pos haN hsN
              have c1 := HROW.out.cell (show posN N a s < c by omega)
              rw [HK.out _ hpN] at c1
              have HNX := Lib.hid (fun (h' : s + 1 < N) => pos_next haN h')
              have HXP := Lib.hid (pos_stp haN hxN)
              obtain ⟨y, hy⟩ : ∃ y, posN N a s = y := ⟨_, rfl⟩
              rw [hy] at c1 hpN HNX hsp
              have HY := Lib.hid hy
              rw [hy]
              obtain ⟨t, ht⟩ : ∃ t, h y = t := ⟨_, rfl⟩
              rw [ht] at c1
              have HTT := Lib.hid ht
              have hyI : (y : Int) < (N : Int) := by omega
              clear hy ht
              cases t
              · have hlt3 : s < stpN N a x := by
                  rcases Nat.lt_or_ge s (stpN N a x) with h3 | h3
                  · exact h3
                  · have e1 : s = stpN N a x := by omega
                    have e2 := HXP.out.1
                    rw [← e1, HY.out] at e2
                    have := HTT.out
                    rw [e2, HX.out] at this
                    cases this
                have hs1N : s + 1 < N := by have := HXP.out.2; omega
                obtain ⟨z, hz⟩ : ∃ z, posN N a (s + 1) = z := ⟨_, rfl⟩
                have hzN : z < N := by rw [← hz]; exact pos_lt haN hs1N
                have hzs : stpN N a z = s + 1 := by rw [← hz]; exact stp_pos haN hs1N
                have hm : ((y : Int) + 1) % (N : Int) = (z : Int) := by
                  have h5 := HNX.out hs1N
                  rw [hz] at h5
                  rw [← h5]
                  rfl
                have hmt : ((y : Int) + 1).tmod (N : Int) = (z : Int) := by rw [Int.tmod_eq_emod_of_nonneg (by omega)]; exact hm
                have HZ := Lib.hid (show ∃ s' : Nat, s' ≤ stpN N a x ∧ Value.int .i64 (z : Int) = .int .i64 (posN N a s') from ⟨s + 1, hlt3, by rw [hz]⟩)
                clear hz
                go_wp2_with fail
                exact ⟨HZ.out, by simp [intOf]; omega⟩
              · have f1 := HROW.out.frozen y
                obtain ⟨R, hR⟩ : ∃ R : Nat, ((y : Int) + (st : Int)) % (N : Int) = (R : Int) := ⟨(y + st) % N, by rw [Int.natCast_emod]; rfl⟩
                have hRN : R < N := by have := Int.emod_lt_of_pos ((y : Int) + (st : Int)) (show 0 < (N : Int) by omega); omega
                have hRt : ((y : Int) + (st : Int)).tmod (N : Int) = (R : Int) := by rw [Int.tmod_eq_emod_of_nonneg (by omega)]; exact hR
                have HS := Lib.hid (show LostAt N lost g c w (.int .i64 R) (.int .i64 ((i + 1 : Nat) : Int)) (wr.setCell ⟨g, y, none⟩ (.bool false)) from
                  ⟨i + 1, R, by omega, rfl, hRN, rfl, HB.out.setCell (p := ⟨g, y, none⟩) hgw _, fun j => if j = y then false else h j, fun j => if j = y then .bool false else K j, by rw [cntT_set HTT.out N, if_pos hpN, HC.out]; omega, HROW.out.set y _, fun j hj => by
                    dsimp only
                    by_cases e : j = y
                    · rw [if_pos e, if_pos e]
                    · rw [if_neg e, if_neg e, HK.out j hj]⟩)
                clear hsp HNX HXP
                go_wp2_with fail
                exact ⟨HS.out, by simp [intOf]; omega⟩
          · have hi2 : i = min lost N := by omega
            have HE := Lib.hid (show LostSaid N lost w (.returned (.slice (some ⟨g, 0, none⟩) N c)) wr from ⟨h, _, _, rfl, hc, by rw [HC.out, hi2], fun b hb' => (Rd.of_row HROW.out (by omega) hc).congr (fun j hj => HK.out j hj), HB.out⟩)
            clear hi2
            go_wp2_with fail
            go_ret
            exact HE.out
        · have hi2 : i = min lost N := by omega
          have HE := Lib.hid (show LostSaid N lost w (.returned (.slice (some ⟨g, 0, none⟩) N c)) wr from ⟨h, _, _, rfl, hc, by rw [HC.out, hi2], fun b hb' => (Rd.of_row HROW.out (by omega) hc).congr (fun j hj => HK.out j hj), HB.out⟩)
          clear hi2
          go_wp2_with fail
          go_ret
          exact HE.out
end Go.Proofs.YtgdgimknnjbieaaGreatDoor

namespace Go.Proofs.YtgdgimknnjbieaaGreatDoor
open Go.RowKit

/-- what stands in the place of a shard that isn't there -/
def spB (b : Nat) (j : Nat) : Nat := if j = 0 then b else 7
def spL (h : Nat → Bool) (Ls : Nat → Nat) (r : Nat) : Nat := if h r = true then Ls r else 2
/-- the rows that Spoilt tells, i of them: as they are, or new ones -/
def SpoRows (w : World) (h : Nat → Bool) (As : Nat → Option Addr) (Ls Cs : Nat → Nat) (b i : Nat) (v : Value) (wr : World) : Prop :=
  Below w.heap.size w wr ∧ ∃ (Bs : Nat → Option Addr) (Ds : Nat → Nat), wr.ownsRow w.heap.size TBs 1 v i ((List.range i).map (slis Bs (spL h Ls) Ds)) ∧
    ∀ r, r < i → (h r = true → Bs r = As r ∧ Ds r = Cs r) ∧ (h r = false → ∀ x, (x < w.heap.size ∨ v.ownBlock = some x) → Rd x wr (u8s (spB b)) (Bs r) 2)
/-- what Spoilt tells -/
def SpoSaid (N : Nat) (w : World) (h : Nat → Bool) (As : Nat → Option Addr) (Ls Cs : Nat → Nat) (b : Nat) (e : Ending) (w' : World) : Prop :=
  ∃ (A : Option Addr) (c : Nat) (Bs : Nat → Option Addr) (Ds : Nat → Nat), e = .returned (.slice A N c) ∧ N ≤ c ∧ Below w.heap.size w w' ∧ (∀ x, x < w.heap.size → Rd x w' (slis Bs (spL h Ls) Ds) A N) ∧
    ∀ r, r < N → (h r = true → Bs r = As r ∧ Ds r = Cs r) ∧ (h r = false → ∀ x, x < w.heap.size → Rd x w' (u8s (spB b)) (Bs r) 2)
theorem SpoRows.step {w wr w1 : World} {h : Nat → Bool} {As Bs : Nat → Option Addr} {Ls Cs Ds : Nat → Nat} {b i g' cap c' : Nat} {v : Value} {o : Obj} {A' : Option Addr} (h0 : 0 < w.heap.size) (hb : Below w.heap.size w wr) (ho : wr.ownsRow w.heap.size TBs 1 v i ((List.range i).map (slis Bs (spL h Ls) Ds)))
    (hr : ∀ r, r < i → (h r = true → Bs r = As r ∧ Ds r = Cs r) ∧ (h r = false → ∀ x, (x < w.heap.size ∨ v.ownBlock = some x) → Rd x wr (u8s (spB b)) (Bs r) 2))
    (hn : (h i = true → A' = As i ∧ c' = Cs i) ∧ (h i = false → ∀ x, (x < w.heap.size ∨ v.ownBlock = some x) → Rd x wr (u8s (spB b)) A' 2))
    (hown : w1.ownsRow w.heap.size TBs 1 (.slice (some ⟨g', 0, none⟩) (i + 1) cap) (i + 1) ((List.range i).map (slis Bs (spL h Ls) Ds) ++ [.slice A' (spL h Ls i) c'])) (hgr : (wr.alloc o).grownBy w1 v.ownBlock) (hg : v.ownBlock = some g' ∨ g' = wr.heap.size + 1) :
    SpoRows w h As Ls Cs b (i + 1) (.slice (some ⟨g', 0, none⟩) (i + 1) cap) w1 := by
  have hg : v.ownBlock = some g' ∨ g' = (wr.alloc o).heap.size := by rw [World.size_alloc]; exact hg
  refine ⟨(hb.alloc hb.size o).grown hgr (by simp; have := hb.size; omega) (fun q hq => (ho.lt q hq).1), fun r => if r = i then A' else Bs r, fun r => if r = i then c' else Ds r, ?_, fun r hr' => ?_⟩
  · rw [range_snoc]
    have e1 : (List.range i).map (slis (fun r => if r = i then A' else Bs r) (spL h Ls) (fun r => if r = i then c' else Ds r)) = (List.range i).map (slis Bs (spL h Ls) Ds) := range_congr (fun j hj => by
      simp only [slis]
      rw [if_neg (by omega), if_neg (by omega)])
    rw [e1]
    simp only [slis, if_pos]
    exact hown
  · by_cases e : r = i
    · subst e
      dsimp only
      rw [if_pos rfl, if_pos rfl]
      exact ⟨hn.1, fun e2 x hx => rd_grownH h0 (hn.2 e2) hgr hg x hx⟩
    · dsimp only
      rw [if_neg e, if_neg e]
      exact ⟨(hr r (by omega)).1, fun e2 x hx => rd_grownH h0 ((hr r (by omega)).2 e2) hgr hg x hx⟩

set_option maxRecDepth 100000 in
set_option maxHeartbeats 4000000 in
theorem rspo (a : Nat) (As : Nat → Option Addr) (Ls Cs : Nat → Nat) (A : Option Addr) (N c : Nat) (h : Nat → Bool) (Ah : Option Addr) (Nh ch b : Nat) (hN : N ≤ Nh ∧ N ≤ 1000) (w : World) (h0 : a < w.heap.size)
    (hr : Rd a w (slis As Ls Cs) A N) (hh : Rd a w (bls h) Ah Nh) :
    Calls Tryz.prog 21 #[.slice A N c, .slice Ah Nh ch, .int .u8 b] w (SpoSaid N w h As Ls Cs b) := by
  obtain ⟨i0, hi, hz0, hz1, hz2⟩ := info_parts infoS
  have HR := Lib.hid hr
  have HH := Lib.hid hh
  have hp0 : 0 < w.heap.size := by omega
  have hN1 := hN.1
  have hN2 := hN.2
  clear hr hh hN
  go_enter Tryz.func21, Tryz.ntmps21
  go_wp2_with fail
  go_loopw [7, 8] (fun s7 s8 wr => ∃ i : Nat, i ≤ N ∧ s8 = .int .i64 i ∧ SpoRows w h As Ls Cs b i s7 wr) (fun _ s8 _ => N - (intOf s8).toNat)
  case atStart => exact ⟨0, Nat.zero_le _, rfl, Below.refl _ _, fun _ => none, fun _ => 0, World.ownsRow_nil _ _ _ _, fun r hr => absurd hr (by omega)⟩
  case round =>
    obtain ⟨i, hiN, rfl, hb, Bs, Ds, ho, hrow⟩ := hrel
    have HB := Lib.hid hb
    have HO := Lib.hid ho
    have HROW := Lib.hid hrow
    have hsz := hb.size
    by_cases hlt : i < N
    · obtain ⟨ah, rfl, q1⟩ := (HH.out.below hb).at_ (show i < Nh by omega)
      obtain ⟨al, rfl, q2⟩ := (HR.out.below hb).at_ hlt
      simp only [slis, bls] at q1 q2
      have hltI : (i : Int) < (N : Int) := by omega
      have hltH : (i : Int) < (Nh : Int) := by omega
      obtain ⟨t, ht⟩ : ∃ t, h i = t := ⟨_, rfl⟩
      rw [ht] at q1
      have HTT := Lib.hid ht
      clear ht hb ho hrow
      cases t
      · obtain ⟨w2, hw2⟩ : ∃ w2, wr.alloc (.cells #[.int .u8 b, .int .u8 7] TB) = w2 := ⟨_, rfl⟩
        have hb2 : Below wr.heap.size wr w2 := by rw [← hw2]; exact below_alloc _ _
        have hs2 : w2.heap.size = wr.heap.size + 1 := by rw [← hw2]; simp
        have HRN := Lib.hid (show ∀ x, (x < w.heap.size ∨ u7.ownBlock = some x) → Rd x w2 (u8s (spB b)) (some ⟨wr.heap.size, 0, none⟩) 2 from fun x hx => by
          have hne : wr.heap.size ≠ x := by
            rcases hx with hx | hx
            · omega
            · have := (HO.out.lt x hx).2; omega
          rw [← hw2]
          have hrw := World.rowIs_alloc wr #[.int .u8 b, .int .u8 7] TB (u8s (spB b)) (fun j hj => by
            simp at hj
            match j, hj with
            | 0, _ => rfl
            | 1, _ => rfl)
          exact Rd.of_row hrw hne (by simp))
        have HO2 := Lib.hid (show w2.ownsRow w.heap.size TBs 1 u7 i ((List.range i).map (slis Bs (spL h Ls) Ds)) by rw [← hw2]; exact HO.out.alloc _)
        have HBB2 := Lib.hid (below_tr HB.out hb2)
        have HROW2 := Lib.hid (show ∀ r, r < i → (h r = true → Bs r = As r ∧ Ds r = Cs r) ∧ (h r = false → ∀ x, (x < w.heap.size ∨ u7.ownBlock = some x) → Rd x w2 (u8s (spB b)) (Bs r) 2) from fun r hr => ⟨(HROW.out r hr).1, fun e x hx => ((HROW.out r hr).2 e x hx).below hb2⟩)
        have HV := Lib.hid (show spL h Ls i = 2 by unfold spL; rw [HTT.out]; rfl)
        have HN1 := Lib.hid (show ∀ j u, [Value.slice (some ⟨wr.heap.size, 0, none⟩) 2 2][j]? = some u → (w2.alloc (.cells #[.slice (some ⟨wr.heap.size, 0, none⟩) 2 2] TBs)).cell? ((⟨wr.heap.size + 1, 0, none⟩ : Addr).add j) = some u by rw [← hs2]; exact news_one rfl)
        clear hb2 HB HO HROW
        go_wp2_with (at_builtin; refine wpList_append_lies _ rfl (.tmp 26) (.tmp 29) TRs rfl w.heap.size TBs i0 nilS 1 24 Tryz.underlying24 hi hz0 hz1 hz2 rfl (by decide) _ i _ rfl (HO2.out.alloc _) ⟨wr.heap.size + 1, 0, none⟩ 1 1 [.slice (some ⟨wr.heap.size, 0, none⟩) 2 2] rfl rfl HN1.out (one_slice' _ _ _) (by omega) (by unfold maxLen; omega) (by omega) (by simp; omega) _ rfl ?_)
        intro g' cap' w7 hown2 hgr2 hg2 _
        have HS := Lib.hid (SpoRows.step (h := h) (As := As) (Ls := Ls) (Cs := Cs) (b := b) (A' := some ⟨wr.heap.size, 0, none⟩) (c' := 2) hp0 HBB2.out HO2.out HROW2.out ⟨fun e => by rw [HTT.out] at e; (cases e), fun _ => HRN.out⟩ (by rw [HV.out]; exact hown2) hgr2 (by rw [hs2]; exact hg2))
        clear hown2 hgr2 hg2
        go_wp2_with fail
        exact ⟨⟨i + 1, hlt, by go_num, HS.out⟩, by simp [intOf]; omega⟩
      · have HV := Lib.hid (show spL h Ls i = Ls i by unfold spL; rw [HTT.out]; rfl)
        go_wp2_with (at_builtin; refine wpList_append_lies _ rfl (.tmp 19) (.tmp 24) TRs rfl w.heap.size TBs i0 nilS 1 24 Tryz.underlying24 hi hz0 hz1 hz2 rfl (by decide) _ i _ rfl (HO.out.alloc _) ⟨wr.heap.size, 0, none⟩ 1 1 [.slice (As i) (Ls i) (Cs i)] rfl rfl (news_one rfl) (one_slice' _ _ _) (by omega) (by unfold maxLen; omega) (by omega) (by simp; omega) _ rfl ?_)
        intro g' cap' w7 hown2 hgr2 hg2 _
        have HS := Lib.hid (SpoRows.step (h := h) (As := As) (Ls := Ls) (Cs := Cs) (b := b) (A' := As i) (c' := Cs i) hp0 HB.out HO.out HROW.out ⟨fun _ => ⟨rfl, rfl⟩, fun e => by rw [HTT.out] at e; (cases e)⟩ (by rw [HV.out]; exact hown2) hgr2 hg2)
        clear hown2 hgr2 hg2
        go_wp2_with fail
        exact ⟨⟨i + 1, hlt, by go_num, HS.out⟩, by simp [intOf]; omega⟩
    · obtain rfl : N = i := by omega
      obtain ⟨A5, c5, rfl, hc5, _⟩ := Rd.of_own ho hp0
      have HQ := Lib.hid (show SpoSaid N w h As Ls Cs b (.returned (.slice A5 N c5)) wr from ⟨A5, c5, Bs, Ds, rfl, hc5, hb, fun x hx => by
        obtain ⟨A2, c2, e2, _, h5⟩ := Rd.of_own ho hx
        injection e2 with e2
        subst e2
        exact h5, fun r hr => ⟨(hrow r hr).1, fun e x hx => (hrow r hr).2 e x (Or.inl hx)⟩⟩)
      clear hb ho hrow
      go_wp2_with fail
      go_ret
      exact HQ.out
end Go.Proofs.YtgdgimknnjbieaaGreatDoor
