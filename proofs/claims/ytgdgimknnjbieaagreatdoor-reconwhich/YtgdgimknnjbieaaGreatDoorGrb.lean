/- Layer 12: the contract of the document's Data. Layer 12: the contract of the document's Rebuild. -/
import Derived.Test.YtgdgimknnjbieaaGreatDoorGra
import Derived.Deep.RegionHeld3
import Derived.BigQuiet

namespace Go.Proofs.YtgdgimknnjbieaaGreatDoor
open Go.RowKit

/-- in the document's Data's first loop -/
def DatAt (w2 : World) (h : Nat → Bool) (N K : Nat) (X : Nat → Value) (L : Nat → Int) (s8 s9 s10 s11 : Value) (wr : World) : Prop :=
  ∃ i : Nat, i ≤ N ∧ s11 = .int .i64 i ∧ Tre w2 X L (cntT h i) (min (cntT h i) K) (min (cntT h i) K) s10 s9 s8 wr
/-- the rows of the shards that are there: an invertible matrix -/
theorem sel_full {p : Int} {K M : Nat} {h : Nat → Bool} (hX : mayX p K M) (hc : K ≤ cntT h (K + M)) : rk K (selE p K M (atT h (K + M))) K = K :=
  rows_any hX (atT h (K + M)) (fun i hi => (atT_spec (K + M) (by omega)).1) (fun i j hi hj e => atT_inj (by omega) (by omega) e)

set_option maxRecDepth 100000 in
set_option maxHeartbeats 8000000 in
theorem rdat (b : Nat) (p k m : Int) (As : Nat → Option Addr) (Ls Cs : Nat → Nat) (F : Nat → Nat → Nat) (hF : ∀ r j, F r j < 256) (A : Option Addr) (N c : Nat) (h : Nat → Bool) (hL : ∀ r, r < N → h r = true → Ls r ≤ 1000) (Ah : Option Addr) (Nh ch : Nat) (w : World) (h0 : b < w.heap.size)
    (hr : Rd b w (slis As Ls Cs) A N) (hrs : ∀ r, r < N → h r = true → Rd b w (u8s (F r)) (As r) (Ls r)) (hh : Rd b w (bls h) Ah Nh) :
    Calls Tryz.prog 12 #[.agg (parA p k m), .slice A N c, .slice Ah Nh ch] w (DatSaid p k m N Nh h Ls F w) := by
  obtain ⟨i0, hi, hz0, hz1, hz2⟩ := info_parts infoS
  obtain ⟨j0, hj, hy0, hy1, hy2⟩ := info_parts infoI
  obtain ⟨v, hv⟩ : ∃ v, w.alloc (.cells #[.int .i64 p, .int .i64 k, .int .i64 m] TPa) = v := ⟨_, rfl⟩
  obtain ⟨_, e0, hbv⟩ := one_box hv
  have E0 := Lib.hid e0
  have HV := Lib.hid hbv
  have HR := Lib.hid hr
  have HRS := Lib.hid hrs
  have HH := Lib.hid hh
  have HL := Lib.hid hL
  have HFF := Lib.hid hF
  obtain ⟨d0, d1, d2⟩ := box_three e0
  clear e0 hbv hr hrs hL hF hh
  go_enter Tryz.func12, Tryz.ntmps12
  go_wp2_with fail
  refine (rmay16 p k m _).mono ?_
  rintro e w1 ⟨t, rfl, ht, hb1⟩
  have H1 := Lib.hid (below_tr HV.out hb1)
  have E1 := Lib.hid (kept_box E0.out hb1)
  have HM := Lib.hid ht
  clear ht hb1 d0 d1 d2
  obtain ⟨d0, d1, d2⟩ := box_three E1.out
  cases t
  · have HE := Lib.hid (DatSaid.no (F := F) (datE_arg (Ls := Ls) (Nh := Nh) (h := h) (N := N) (p := p) (k := k) (m := m) (fun h => by have := HM.out.2 h.1; cases this)) (by decide) H1.out)
    go_wp2_with fail
    go_ret2
    exact HE.out
  have HP := Lib.hid (HM.out.1 rfl)
  obtain ⟨K, rfl⟩ : ∃ K : Nat, k = K := ⟨k.toNat, by have := HP.out.2.1; omega⟩
  obtain ⟨M, rfl⟩ : ∃ M : Nat, m = M := ⟨m.toNat, by have := HP.out.2.2.1; omega⟩
  have hK := HP.out.2.1
  have hM : 1 ≤ M ∧ M ≤ 4 := by have := HP.out.2.2; have := (max_pos HP.out.1).2; omega
  by_cases hk : N = K + M
  case neg =>
    have hne : (((N : Nat) : Int) != ((K : Int) + (M : Int))) = true := by simp; omega
    have HE := Lib.hid (DatSaid.no (F := F) (datE_arg (Ls := Ls) (Nh := Nh) (h := h) (N := N) (p := p) (k := K) (m := M) (fun h => hk (by have := h.2.1; omega))) (by decide) H1.out)
    go_wp2_with fail
    go_ret2
    exact HE.out
  have hnn : (((N : Nat) : Int) != ((K : Int) + (M : Int))) = false := by simp; omega
  by_cases hk2 : Nh = N
  case neg =>
    have hne : (((Nh : Nat) : Int) != ((N : Nat) : Int)) = true := by simp; omega
    have HE := Lib.hid (DatSaid.no (F := F) (datE_arg (Ls := Ls) (Nh := Nh) (h := h) (N := N) (p := p) (k := K) (m := M) (fun h => hk2 h.2.2)) (by decide) H1.out)
    clear hk
    go_wp2_with fail
    go_ret2
    exact HE.out
  subst hk2
  have hnn2 : (((Nh : Nat) : Int) != ((Nh : Nat) : Int)) = false := by simp
  have HNK := Lib.hid hk
  have hN12 : Nh ≤ 12 := by omega
  have HARG := Lib.hid (show mayX p K M ∧ (Nh : Int) = (K : Int) + (M : Int) from ⟨HP.out, by omega⟩)
  clear hk
  go_wp2_with fail
  go_loopw [8, 9, 10, 11] (fun s8 s9 s10 s11 wr => DatAt w1 h Nh K (slis (fun r => As (atT h Nh r)) (fun r => Ls (atT h Nh r)) (fun r => Cs (atT h Nh r))) (fun r => (atT h Nh r : Int)) s8 s9 s10 s11 wr) (fun _ _ _ s11 _ => Nh - (intOf s11).toNat)
  case atStart => exact ⟨0, Nat.zero_le _, rfl, by rw [show min (cntT h 0) K = 0 from Nat.zero_min K]; exact Tre.start _ _ _⟩
  case round =>
    clear d0 d1 d2 HM hnn hnn2
    obtain ⟨i, hiN, rfl, hT⟩ := hrel
    have HT := Lib.hid hT
    have hb := hT.below
    have hsz := hb.size
    obtain ⟨d0, d1, d2⟩ := box_three (kept_box E1.out hb)
    clear hT
    by_cases hlt : i < Nh
    · obtain ⟨ah, rfl, ch1⟩ := (HH.out.below (below_tr H1.out hb)).at_ hlt
      obtain ⟨ad, rfl, c1⟩ := (HR.out.below (below_tr H1.out hb)).at_ hlt
      simp only [slis, bls] at c1 ch1
      have hltI : (i : Int) < (Nh : Int) := by omega
      obtain ⟨t, hti⟩ : ∃ t, h i = t := ⟨_, rfl⟩
      rw [hti] at ch1
      have HTI := Lib.hid hti
      clear hti
      cases t
      · have HS := Lib.hid (show DatAt w1 h Nh K (slis (fun r => As (atT h Nh r)) (fun r => Ls (atT h Nh r)) (fun r => Cs (atT h Nh r))) (fun r => (atT h Nh r : Int)) u8 u9 u10 (.int .i64 ((i + 1 : Nat) : Int)) wr from ⟨i + 1, hlt, rfl, by rw [cntT_no HTI.out]; exact HT.out⟩)
        clear hb HT
        go_wp2_with fail
        exact ⟨HS.out, by simp [intOf]; omega⟩
      · have hat : atT h Nh (cntT h i) = i := (atT_far (by rw [cntT_yes HTI.out]; omega) hlt).trans (atT_new HTI.out)
        have HXI := Lib.hid (show slis (fun r => As (atT h Nh r)) (fun r => Ls (atT h Nh r)) (fun r => Cs (atT h Nh r)) (cntT h i) = .slice (As i) (Ls i) (Cs i) by simp only [slis]; rw [hat])
        have HLI := Lib.hid (show i64s (fun r => (atT h Nh r : Int)) (cntT h i) = .int .i64 (i : Int) by simp only [i64s]; rw [hat])
        have hcn := cntT_le h i
        obtain ⟨A8, c8, rfl, _, _⟩ := Rd.of_own HT.out.r (show 0 < w1.heap.size by have := H1.out.size; omega)
        have KEEP := Lib.hid (show ∀ w', Below w1.heap.size w1 w' → w'.cell? (ad.add i) = some (.slice (As i) (Ls i) (Cs i)) ∧ w'.cell? ⟨w.heap.size, 0, none⟩ = some (.int .i64 p) ∧ w'.cell? ⟨w.heap.size, 1, none⟩ = some (.int .i64 (K : Nat)) ∧ w'.cell? ⟨w.heap.size, 2, none⟩ = some (.int .i64 (M : Nat)) from fun w' hb' => by
          obtain ⟨a2, e2, h2⟩ := (HR.out.below (below_tr H1.out hb')).at_ hlt
          injection e2 with e2
          subst e2
          exact ⟨h2, box_three (kept_box E1.out hb')⟩)
        clear hb hat
        go_wp2_with (at_builtin; refine wpList_append_lies _ rfl (.tmp 56) (.tmp 61) TRs rfl w1.heap.size TBs i0 nilS 1 24 Tryz.underlying24 hi hz0 hz1 hz2 rfl (by decide) _ _ _ rfl (HT.out.a.alloc _) ⟨wr.heap.size, 0, none⟩ 1 1 [.slice (As i) (Ls i) (Cs i)] rfl rfl (news_one rfl) (one_slice' _ _ _) (by omega) (by unfold maxLen; omega) (by omega) (by simp; omega) _ rfl ?_)
        intro g1 p1 w3 hown1 hgr1 hg1 _
        have HT3 := Lib.hid (HT.out.addA (by decide) (by rw [HXI.out]; exact hown1) hgr1 hg1)
        have hz3 := HT3.out.below.size
        obtain ⟨c3, d3, d4, d5⟩ := KEEP.out _ HT3.out.below
        clear hown1 hgr1 hg1 HT c1 d0 d1 d2
        by_cases hcK : cntT h i < K
        · rw [show min (cntT h i) K = cntT h i from Nat.min_eq_left (by omega)] at HT3 ⊢
          obtain ⟨q, hq⟩ : ∃ q, cntT h i = q := ⟨_, rfl⟩
          have HQ := Lib.hid hq
          rw [hq] at HT3 HXI HLI hcn hcK ⊢
          clear hq
          go_wp2_with (at_builtin; refine wpList_append_lies _ rfl (.tmp 68) (.tmp 70) TIs rfl w1.heap.size TI j0 (.int .i64 0) 1 8 underI hj hy0 hy1 hy2 rfl (by decide) _ _ _ rfl (HT3.out.r.alloc _) ⟨w3.heap.size, 0, none⟩ 1 1 [i64s (fun r => (atT h Nh r : Int)) q] rfl rfl (news_one HLI.out.symm) (one_i64 _) (by omega) (by unfold maxLen; omega) (by omega) (by simp; omega) _ rfl ?_)
          intro g2 p2 w4 hown2 hgr2 hg2 _
          have HT4 := Lib.hid (HT3.out.addR (by decide) hown2 hgr2)
          have hz4 := HT4.out.below.size
          obtain ⟨c4, d6, d7, d8⟩ := KEEP.out _ HT4.out.below
          clear hown2 hgr2 hg2 HT3 c3 d3 d4 d5
          go_wp2_with (at_builtin; refine wpList_append_lies _ rfl (.tmp 72) (.tmp 77) TRs rfl w1.heap.size TBs i0 nilS 1 24 Tryz.underlying24 hi hz0 hz1 hz2 rfl (by decide) _ _ _ rfl (HT4.out.f.alloc _) ⟨w4.heap.size, 0, none⟩ 1 1 [.slice (As i) (Ls i) (Cs i)] rfl rfl (news_one rfl) (one_slice' _ _ _) (by omega) (by unfold maxLen; omega) (by omega) (by simp; omega) _ rfl ?_)
          intro g3 p3 w5 hown3 hgr3 hg3 _
          have HT5 := Lib.hid (HT4.out.addF (by decide) (by rw [HXI.out]; exact hown3) hgr3 hg3)
          have HCN := Lib.hid (show cntT h (i + 1) = q + 1 ∧ min (cntT h (i + 1)) K = q + 1 from by rw [cntT_yes HTI.out, HQ.out]; exact ⟨rfl, Nat.min_eq_left (by omega)⟩)
          clear hown3 hgr3 hg3 HT4 KEEP c4 d6 d7 d8
          go_wp2_with fail
          exact ⟨⟨i + 1, hlt, by go_num, by rw [HCN.out.2, HCN.out.1]; exact HT5.out⟩, by simp [intOf]; omega⟩
        · rw [show min (cntT h i) K = K from Nat.min_eq_right (by omega)] at HT3 ⊢
          have HCN := Lib.hid (show cntT h (i + 1) = cntT h i + 1 ∧ min (cntT h (i + 1)) K = K from by rw [cntT_yes HTI.out]; exact ⟨rfl, Nat.min_eq_right (by omega)⟩)
          clear KEEP
          go_wp2_with fail
          exact ⟨⟨i + 1, hlt, by go_num, by rw [HCN.out.2, HCN.out.1]; exact HT3.out⟩, by simp [intOf]; omega⟩
    · obtain rfl : Nh = i := by omega
      have hbw1 : b < w1.heap.size := Nat.lt_of_lt_of_le h0 H1.out.size
      have hcl := cntT_le h Nh
      obtain ⟨A8, c8, rfl, hc8, hr8⟩ := Rd.of_own HT.out.r hbw1
      obtain ⟨A9, c9, rfl, hc9, hr9⟩ := Rd.of_own HT.out.f hbw1
      obtain ⟨A10, c10, rfl, hc10, hr10⟩ := Rd.of_own HT.out.a hbw1
      by_cases hfew : cntT h Nh < K
      · have HE := Lib.hid (DatSaid.no (F := F) (datE_few (Ls := Ls) ⟨HARG.out.1, HARG.out.2, rfl⟩ (by rw [Int.toNat_natCast]; exact hfew)) (by decide) (below_tr H1.out hb))
        rw [show min (cntT h Nh) K = cntT h Nh from Nat.min_eq_left (by omega)]
        clear hr8 hr9 hr10 HT hb
        go_wp2_with fail
        go_ret2
        exact HE.out
      · rw [show min (cntT h Nh) K = K from Nat.min_eq_right (by omega)] at hr8 hr9 hc8 hc9 ⊢
        have HFW := Lib.hid (show ¬ cntT h Nh < (K : Int).toNat by rw [Int.toNat_natCast]; exact hfew)
        have hKc : K ≤ cntT h Nh := by omega
        have HAT := Lib.hid (fun r (hr : r < cntT h Nh) => atT_spec Nh hr)
        have HR8 := Lib.hid hr8
        have HR9 := Lib.hid hr9
        have HR10 := Lib.hid hr10
        have H2 := Lib.hid (below_tr H1.out hb)
        have E2 := Lib.hid (kept_box E1.out hb)
        clear hr8 hr9 hr10 HT hb hfew hcl
        go_wp2_with fail
        refine (reven26 b p K M HP.out.1 _ _ _ A10 (cntT h Nh) c10 (by have := cntT_le h Nh; omega) (fun r hr => by have h5 := HAT.out r hr; have := HL.out _ h5.1 h5.2.1; omega) _ HR10.out).mono ?_
        rintro e w2 ⟨t, rfl, ht, hb2⟩
        have H3 := Lib.hid (below_tr H2.out hb2)
        have E3 := Lib.hid (kept_box E2.out hb2)
        have HT := Lib.hid ht
        have R8 := Lib.hid (HR8.out.below hb2)
        have R9 := Lib.hid (HR9.out.below hb2)
        clear ht hb2 d0 d1 d2 HR8 HR9 HR10
        obtain ⟨d0, d1, d2⟩ := box_three E3.out
        cases t
        · have HE := Lib.hid (DatSaid.no (F := F) (datE_odd (m := M) (Nh := Nh) HFW.out (fun h => by have := HT.out.2 h; cases this)) (by decide) H3.out)
          go_wp2_with fail
          go_ret2
          exact HE.out
        have HEV := Lib.hid (HT.out.1 rfl)
        have HOK := Lib.hid (datE_ok ⟨HARG.out.1, HARG.out.2, rfl⟩ HFW.out HEV.out)
        have HBI := Lib.hid (bitsP HP.out.1)
        have HPO := Lib.hid (polyP HP.out.1)
        go_wp2_with fail
        refine (rof9 p _).mono ?_
        rintro e w3 ⟨rfl, hb3⟩
        simp only [rowA, HBI.out, HPO.out]
        obtain ⟨w4, hw4⟩ : ∃ w4, w3.alloc (.cells #[.string (tagI p), .int .i64 (wdP p : Nat), .int .u32 ((qP p).p : Nat), .int .u8 (layI p), .int .i64 (maxI p)] TRw) = w4 := ⟨_, rfl⟩
        obtain ⟨_, er, hbr⟩ := one_box hw4
        have ER := Lib.hid er
        have HB34 := below_tr hb3 hbr
        have H4 := Lib.hid (below_tr H3.out HB34)
        have E4 := Lib.hid (kept_box E3.out HB34)
        have R84 := Lib.hid (R8.out.below HB34)
        have R94 := Lib.hid (R9.out.below HB34)
        clear hb3 d0 d1 d2 er hbr HB34 HBI HPO HT R8 R9 H1 H2 H3 E1 E2 E3
        obtain ⟨d0, d1, d2⟩ := box_three E4.out
        go_wp2_with fail
        refine (rpar13 p K M b _ (Nat.lt_of_lt_of_le h0 H4.out.size)).mono ?_
        rintro e w5 ⟨t, A5, c5, rfl, ht5, hx5, hb5⟩
        obtain rfl : t = true := ht5.2 HP.out
        simp only [Int.toNat_natCast, cond_true] at hx5 ⊢
        have H5 := Lib.hid (below_tr H4.out hb5)
        have E5 := Lib.hid (kept_box E4.out hb5)
        have ER5 := Lib.hid (kept_box ER.out hb5)
        have X5 := Lib.hid hx5
        have R85 := Lib.hid (R84.out.below hb5)
        have R95 := Lib.hid (R94.out.below hb5)
        have hbw5 : b < w5.heap.size := Nat.lt_of_lt_of_le h0 H5.out.size
        clear hb5 d0 d1 d2 ht5 hx5 ER R84 R94 hw4 hv
        have KE := Lib.hid (show ∀ w', Below w5.heap.size w5 w' → w'.cell? ⟨w3.heap.size, 1, none⟩ = some (.int .i64 (wdP p : Nat)) ∧ w'.cell? ⟨w.heap.size, 1, none⟩ = some (.int .i64 (K : Nat)) ∧ w'.cell? ⟨w3.heap.size, 2, none⟩ = some (.int .u32 ((qP p).p : Nat)) from fun w' hb' =>
          ⟨box_at (i := 1) (kept_box ER5.out hb') rfl, (box_three (kept_box E5.out hb')).2.1, box_at (i := 2) (kept_box ER5.out hb') rfl⟩)
        obtain ⟨f1, f2, f3⟩ := KE.out w5 (Below.refl _ _)
        have hsid : side K := ⟨by omega, by omega⟩
        have hsm : side M := ⟨by omega, by omega⟩
        have HJP := Lib.hid (show joinP (Go.Proofs.YtgdgimknnjbieaaGreatDoor.M.ord (qP p).p) K (fun _ => K) idF M (fun _ => K) (ivs (rowsE p K M)) from ⟨idF_may (goodP p) hsid, ivs_may _ hsm hsid, rfl, by omega⟩)
        go_wp2_with fail
        go_region_held3 (fun w' => w'.cell? ⟨w3.heap.size, 1, none⟩ = some (.int .i64 (wdP p : Nat)) ∧ w'.cell? ⟨w.heap.size, 1, none⟩ = some (.int .i64 (K : Nat)))
          (first | exact ⟨f1, f2⟩ | exact ⟨(KE.out _ (below_tr (Below.refl w5.heap.size w5).drew hb6)).1, (KE.out _ (below_tr (Below.refl w5.heap.size w5).drew hb6)).2.1⟩ | exact ⟨(KE.out _ (below_tr (below_tr (Below.refl w5.heap.size w5).drew hb6) hb7)).1, (KE.out _ (below_tr (below_tr (Below.refl w5.heap.size w5).drew hb6) hb7)).2.1⟩ | assumption)
          (first | (go_at_call 35; refine (ridentity26 b K (by omega) w5.drew hbw5).mono ?_; rintro e w6 ⟨v6, rfl, A6, c6, rfl, _, hx6, hb6⟩) | (go_at_call 34; refine (rjoin15 b (wdP p) (Go.Proofs.YtgdgimknnjbieaaGreatDoor.M.ord (qP p).p) (goodP p).kind idF (ivs (rowsE p K M)) (fun _ => K) (fun _ => K) A6 A5 K M c6 c5 w6 (Nat.lt_of_lt_of_le hbw5 hb6.size) hx6 (X5.out.below (below_tr (Below.refl w5.heap.size w5).drew hb6))).mono ?_; rintro e w7 ⟨t, v7, rfl, ht, A7, c7, rfl, _, hx7, hb7⟩))
        obtain rfl : t = true := ht.2 HJP.out
        simp only [cond] at hx7 ⊢
        have HB7 := Lib.hid (below_tr (below_tr (Below.refl w5.heap.size w5).drew hb6) hb7)
        have X7 := Lib.hid (show Mx b w7 (ivs (joinE K dl (rowsE p K M))) (fun _ => K) A7 (K + M) by
          rw [joinE_rows] at hx7
          exact hx7.congr (fun r _ => by unfold joinL; split <;> rfl) (fun _ _ _ _ => rfl))
        have R87 := Lib.hid (R85.out.below HB7.out)
        have hbw7 : b < w7.heap.size := Nat.lt_of_lt_of_le hbw5 HB7.out.size
        have HPK := Lib.hid (show pickP (Go.Proofs.YtgdgimknnjbieaaGreatDoor.M.ord (qP p).p) (K + M) (fun _ => K) (ivs (joinE K dl (rowsE p K M))) K (fun r => (atT h Nh r : Int)) from ⟨ivs_may _ ⟨by omega, by omega⟩ hsid, hsid, fun r hr => by have := (HAT.out r (by omega)).1; have := HNK.out; dsimp only; omega⟩)
        clear hx6 hb6 hx7 hb7 ht f1 f2 f3 X5 R85
        obtain ⟨f1, f2, f3⟩ := KE.out w7 HB7.out
        go_wp2_with fail
        refine (rpick13 b (wdP p) _ (goodP p).kind (ivs (joinE K dl (rowsE p K M))) (fun _ => K) A7 A8 (K + M) K c7 c8 (fun r => (atT h Nh r : Int)) _ hbw7 X7.out R87.out).mono ?_
        rintro e w8 ⟨t, v8, rfl, ht, A18, c18, rfl, _, hx8, hb8⟩
        obtain rfl : t = true := ht.2 HPK.out
        simp only [cond] at hx8 ⊢
        have HB8 := Lib.hid (below_tr HB7.out hb8)
        have X8 := Lib.hid (show Mx b w8 (ivs (selE p K M (atT h Nh))) (fun _ => K) A18 K from hx8)
        have hbw8 : b < w8.heap.size := Nat.lt_of_lt_of_le hbw5 HB8.out.size
        have HSF := Lib.hid (show rk K (elM (qP p) (ivs (selE p K M (atT h Nh)))) K = K by
          rw [elM_ivs, HNK.out]
          exact sel_full HP.out (by rw [← HNK.out]; exact hKc))
        clear hx8 hb8 ht f1 f2 f3 X7 R87 HPK HJP
        obtain ⟨f1, f2, f3⟩ := KE.out w8 HB8.out
        go_wp2_with fail
        refine (rinverse13 (qP p) b (wdP p) K (goodP p) (fun _ => K) (ivs (selE p K M (atT h Nh))) A18 c18 _ hbw8 X8.out).mono ?_
        rintro e w9 ⟨s9, t9, v9, rfl, hs9, ht9, A19, c19, rfl, _, hx9, hb9⟩
        obtain rfl : s9 = true := hs9.2 ⟨ivs_may _ hsid hsid, rfl⟩
        obtain rfl : t9 = true := (ht9 rfl).2 HSF.out
        simp only [Bool.and_self, cond, elM_ivs] at hx9 ⊢
        obtain ⟨As5, Cs5, hx1, hx2⟩ := hx9
        have HX1 := Lib.hid hx1
        have HX2 := Lib.hid hx2
        have HB9 := Lib.hid (below_tr HB8.out hb9)
        have H9 := Lib.hid (below_tr H5.out HB9.out)
        have R99 := Lib.hid (R95.out.below HB9.out)
        have hp0 : 0 < w9.heap.size := by have := HB9.out.size; omega
        have hbw9 : b < w9.heap.size := Nat.lt_of_lt_of_le hbw5 HB9.out.size
        clear hs9 ht9 hx1 hx2 hb9 f1 f2 f3 X8 R95 HSF
        have KE9 := Lib.hid (fun w' (hb' : Below w9.heap.size w9 w') => KE.out w' (below_tr HB9.out hb'))
        obtain ⟨f1, f2, f3⟩ := KE.out w9 HB9.out
        go_wp2_with fail
        go_loopw [22, 23] (fun s22 s23 wr => ∃ i : Nat, i ≤ K ∧ s23 = .int .i64 i ∧ BApp w9 (datF p K M (atT h Nh) F) (fun _ => Ls (atT h Nh 0)) i s22 wr) (fun _ s23 _ => K - (intOf s23).toNat)
        case atStart => exact ⟨0, Nat.zero_le _, rfl, BApp.start _ _ _⟩
        case round =>
          clear f1 f2 f3
          obtain ⟨i, hiK, rfl, happ⟩ := hrel
          have HAPP := Lib.hid happ
          have HBI := Lib.hid happ.1
          have hsz := happ.1.size
          obtain ⟨f1, f2, f3⟩ := KE9.out wr happ.1
          clear happ
          by_cases hlt : i < K
          · obtain ⟨ad5, rfl, q1⟩ := (HX1.out.below HBI.out).at_ hlt
            have KEEP := Lib.hid (show ∀ w', Below w9.heap.size w9 w' → w'.cell? ⟨w3.heap.size, 1, none⟩ = some (.int .i64 (wdP p : Nat)) ∧ w'.cell? ⟨w3.heap.size, 2, none⟩ = some (.int .u32 ((qP p).p : Nat)) ∧ w'.cell? (ad5.add i) = some (.slice (As5 i) K (Cs5 i)) from fun w' hb' => by
              obtain ⟨a1, e1, h1⟩ := (HX1.out.below hb').at_ hlt
              injection e1 with e1
              subst e1
              exact ⟨(KE9.out w' hb').1, (KE9.out w' hb').2.2, h1⟩)
            have HC := Lib.hid (rdot20 (qP p).p b (wdP p) (nP p) (goodP p) (wideP p) (fun r => ivs (ivm K (selE p K M (atT h Nh))) i r) (fun r => F (atT h Nh r)) (fun r j => HFF.out _ j) (As5 i) K K (Cs5 i) c9 (by omega) (fun r => As (atT h Nh r)) (fun r => Ls (atT h Nh r)) (fun r => Cs (atT h Nh r)) A9 (fun r hr => by have h5 := HAT.out r (by omega); exact HL.out _ h5.1 h5.2.1) wr.drew (Nat.lt_of_lt_of_le hbw9 HBI.out.drew.size)
              ((HX2.out i hlt).below HBI.out.drew) (R99.out.below HBI.out.drew) (fun r hr => by have h5 := HAT.out r (by omega); exact ((HRS.out _ h5.1 h5.2.1).below H9.out).below HBI.out.drew))
            simp only [slis] at q1
            go_wp2_with fail
            go_region_held3 (fun w' => w'.cell? ⟨w3.heap.size, 1, none⟩ = some (.int .i64 (wdP p : Nat)) ∧ w'.cell? ⟨w3.heap.size, 2, none⟩ = some (.int .u32 ((qP p).p : Nat)) ∧ w'.cell? (ad5.add i) = some (.slice (As5 i) K (Cs5 i)))
              (first | exact ⟨f1, f3, q1⟩ | exact KEEP.out _ (below_tr HBI.out.drew hb6) | assumption)
              ((go_at_call 38; refine HC.out.mono ?_; rintro e w6 ⟨t, v6, rfl, ht, A6, c6, rfl, hc6, hr6, hb6⟩))
            obtain rfl : t = true := ht.2 ⟨rfl, by omega, fun r hr => ⟨inB_iff.2 (ivs_in _ i r), (HEV.out r (by omega)).2, (HEV.out r (by omega)).1⟩⟩
            have HAP6 := Lib.hid (HAPP.out.below (show Below wr.heap.size wr w6 from below_tr (Below.refl wr.heap.size wr).drew hb6))
            have HRY := Lib.hid (show ∀ g, (g < w9.heap.size ∨ u22.ownBlock = some g) → Rd g w6 (u8s (datF p K M (atT h Nh) F i)) A6 (Ls (atT h Nh 0)) from fun g hg => hc6.2 g (by
              show g < wr.heap.size
              rcases hg with hg | hg
              · exact Nat.lt_of_lt_of_le hg hsz
              · obtain ⟨_, _, _, hown, _⟩ := HAPP.out
                exact (hown.lt g hg).2))
            simp only [cond_true]
            clear ht hc6 hr6 hb6 f1 f2 f3 q1 KEEP HC HAPP HBI
            obtain ⟨hb0, As0, Cs0, hown0, hrow0⟩ := HAP6.out
            have HBB := Lib.hid hb0
            have HOWN := Lib.hid hown0
            have HROW := Lib.hid hrow0
            have hsz3 := hb0.size
            clear hb0 hown0 hrow0
            go_wp2_with (at_builtin; refine wpList_append_lies _ rfl _ _ TRs rfl w9.heap.size TBs i0 nilS 1 24 Tryz.underlying24 hi hz0 hz1 hz2 rfl (by decide) _ i _ rfl (HOWN.out.alloc _) ⟨w6.heap.size, 0, none⟩ 1 1 [.slice A6 (Ls (atT h Nh 0)) c6] rfl rfl (news_one rfl) (one_slice' _ _ _) (by omega) (by unfold maxLen; omega) (by omega) (by simp; omega) _ rfl ?_)
            intro g' cap' w7 hown2 hgr2 hg2 _
            have HS := Lib.hid (BApp.step (F := datF p K M (atT h Nh) F) (Ls := fun _ => Ls (atT h Nh 0)) hp0 HBB.out HOWN.out HROW.out rfl HRY.out hown2 hgr2 hg2)
            clear hown2 hgr2 hg2
            go_wp2_with fail
            exact ⟨⟨i + 1, hlt, by go_num, HS.out⟩, by simp [intOf]; omega⟩
          · obtain rfl : i = K := by omega
            have HQ := Lib.hid (fun v (h' : BApp w9 (datF p i M (atT h Nh) F) (fun _ => Ls (atT h Nh 0)) i v wr) => DatSaid.yes (F := F) HOK.out ((h'.told hp0).from H9.out))
            go_wp2_with fail
            go_ret2
            exact HQ.out _ HAPP.out
end Go.Proofs.YtgdgimknnjbieaaGreatDoor

namespace Go.Proofs.YtgdgimknnjbieaaGreatDoor
open Go.RowKit

/-- all shards, those that are there as they are -/
def rebF (p : Int) (K m N : Nat) (h : Nat → Bool) (F : Nat → Nat → Nat) : Nat → Nat → Nat := fun r j => if h r = true then F r j else shF p K m (datF p K m (atT h N) F) r j
theorem rebF_lt {p : Int} {K m N : Nat} {h : Nat → Bool} {F : Nat → Nat → Nat} (hF : ∀ r j, F r j < 256) (r j : Nat) : rebF p K m N h F r j < 256 := by
  unfold rebF
  split
  · exact hF r j
  · exact shF_lt (fun _ _ => datF_lt _ _) r j
/-- how many shards are told -/
def rebN (p k m : Int) (N Nh : Nat) (h : Nat → Bool) (Ls : Nat → Nat) : Nat := if datE p k m N Nh h Ls = 0 then N else 0
/-- what Rebuild tells: apart from what the shards that are there lie apart from -/
def RebSaid (p k m : Int) (N Nh : Nat) (h : Nat → Bool) (As : Nat → Option Addr) (Ls : Nat → Nat) (F : Nat → Nat → Nat) (w : World) (e : Ending) (w' : World) : Prop :=
  ∃ A c, e = .returned (.tuple #[.slice A (rebN p k m N Nh h Ls) c, .int .i64 (datE p k m N Nh h Ls)]) ∧ rebN p k m N Nh h Ls ≤ c ∧ Below w.heap.size w w' ∧
    ∀ x, x < w.heap.size → (∀ r, r < N → h r = true → Rd x w (u8s (F r)) (As r) (Ls r)) → Bx x w' (rebF p k.toNat m.toNat N h F) (fun _ => Ls (atT h N 0)) A (rebN p k m N Nh h Ls)
theorem RebSaid.no {p k m : Int} {N Nh : Nat} {h : Nat → Bool} {As : Nat → Option Addr} {Ls : Nat → Nat} {F : Nat → Nat → Nat} {w w' : World} {x : Int} (hx : datE p k m N Nh h Ls = x) (h0 : x ≠ 0) (hb : Below w.heap.size w w') : RebSaid p k m N Nh h As Ls F w (.returned (.tuple #[nilS, .int .i64 x])) w' := by
  have hn : rebN p k m N Nh h Ls = 0 := if_neg (by rw [hx]; exact h0)
  refine ⟨none, 0, by rw [hx, hn], by rw [hn]; exact Nat.le_refl _, hb, fun y _ _ => ?_⟩
  rw [hn]
  exact Bx.zero
/-- in Rebuild's loop -/
def RebAt (g c N : Nat) (h : Nat → Bool) (K0 K1 : Nat → Value) (w2 : World) (s13 : Value) (wr : World) : Prop :=
  ∃ i : Nat, i ≤ N ∧ s13 = .int .i64 i ∧ wr.rowIs g TBs c (fun j => if j < i ∧ h j = true then K1 j else K0 j) ∧ Below w2.heap.size w2 wr

set_option maxRecDepth 100000 in
set_option maxHeartbeats 8000000 in
theorem rreb (b : Nat) (p k m : Int) (As : Nat → Option Addr) (Ls Cs : Nat → Nat) (F : Nat → Nat → Nat) (hF : ∀ r j, F r j < 256) (A : Option Addr) (N c : Nat) (h : Nat → Bool) (hL : ∀ r, r < N → h r = true → Ls r ≤ 1000) (Ah : Option Addr) (Nh ch : Nat) (w : World) (h0 : b < w.heap.size)
    (hr : Rd b w (slis As Ls Cs) A N) (hrs : ∀ r, r < N → h r = true → Rd b w (u8s (F r)) (As r) (Ls r)) (hh : Rd b w (bls h) Ah Nh) :
    Calls Tryz.prog 14 #[.agg (parA p k m), .slice A N c, .slice Ah Nh ch] w (RebSaid p k m N Nh h As Ls F w) := by
  obtain ⟨i0, hi, hz0, hz1, hz2⟩ := info_parts infoS
  obtain ⟨v, hv⟩ : ∃ v, w.alloc (.cells #[.int .i64 p, .int .i64 k, .int .i64 m] TPa) = v := ⟨_, rfl⟩
  obtain ⟨_, e0, hbv⟩ := one_box hv
  have E0 := Lib.hid e0
  have HV := Lib.hid hbv
  have hp0 : 0 < w.heap.size := by omega
  have HR := Lib.hid (hr.below hbv)
  have HH := Lib.hid (hh.below hbv)
  have HL := Lib.hid hL
  have HFF := Lib.hid hF
  have HD := Lib.hid (rdat b p k m As Ls Cs F hF A N c h hL Ah Nh ch v (Nat.lt_of_lt_of_le h0 hbv.size) HR.out (fun r hr e => (hrs r hr e).below hbv) HH.out)
  unfold DatSaid at HD
  obtain ⟨d0, d1, d2⟩ := box_three e0
  clear e0 hbv hr hrs hL hF hh
  by_cases hE : datE p k m N Nh h Ls = 0
  case neg =>
    obtain ⟨x, hx⟩ : ∃ x, datE p k m N Nh h Ls = x := ⟨_, rfl⟩
    have HEE := Lib.hid (show ∀ w', Below w.heap.size w w' → RebSaid p k m N Nh h As Ls F w (.returned (.tuple #[nilS, .int .i64 x])) w' from fun w' hb => RebSaid.no hx (by rw [← hx]; exact hE) hb)
    simp only [if_neg hE] at HD
    rw [hx] at HD hE
    have hne : (x != 0) = true := by simp [hE]
    clear hx hE
    go_enter Tryz.func14, Tryz.ntmps14
    go_wp2_with fail
    refine HD.out.mono ?_
    rintro e w1 ⟨v1, rfl, A1, c1, rfl, hc1, hx1, hb1⟩
    have H1 := Lib.hid (below_tr HV.out hb1)
    clear hb1 d0 d1 d2 hx1 HD E0
    go_wp2_with fail
    go_ret2
    exact HEE.out _ H1.out
  obtain ⟨⟨hX, hNK, hNh⟩, hfw, hev⟩ := datE_inv hE
  obtain ⟨K, rfl⟩ : ∃ K : Nat, k = K := ⟨k.toNat, by have := hX.2.1; omega⟩
  obtain ⟨M, rfl⟩ : ∃ M : Nat, m = M := ⟨m.toNat, by have := hX.2.2.1; omega⟩
  subst hNh
  have hK := hX.2.1
  have hM : 1 ≤ M ∧ M ≤ 4 := by have := hX.2.2; have := (max_pos hX.1).2; omega
  rw [Int.toNat_natCast] at hfw
  have HNK := Lib.hid (show Nh = K + M by omega)
  have hN12 : Nh ≤ 12 := by omega
  have hcl := cntT_le h Nh
  have HX := Lib.hid hX
  have hat0 := atT_spec (h := h) Nh (show 0 < cntT h Nh by omega)
  obtain ⟨S, hS⟩ : ∃ S, Ls (atT h Nh 0) = S := ⟨_, rfl⟩
  have hS2 : S ≤ 1000 := by rw [← hS]; exact HL.out _ hat0.1 hat0.2.1
  have HSE := Lib.hid (show S % nP p = 0 by have h5 := (hev 0 (by omega)).2; dsimp only at h5; rw [hS] at h5; exact h5)
  have HLS := Lib.hid (show ∀ r, r < Nh → h r = true → Ls r = S from fun r hr e => by
    have h1 := atT_cnt e hr
    have h2 := (hev _ h1.2).1
    dsimp only at h2
    rw [h1.1, hS] at h2
    exact h2)
  have HEE := Lib.hid (show ∀ A c w', Nh ≤ c → Below w.heap.size w w' → (∀ x, x < w.heap.size → (∀ r, r < Nh → h r = true → Rd x w (u8s (F r)) (As r) (Ls r)) → Bx x w' (rebF p K M Nh h F) (fun _ => S) A Nh) → RebSaid p K M Nh Nh h As Ls F w (.returned (.tuple #[.slice A Nh c, .int .i64 0])) w' from fun A c w' h1 h2 h3 => by
    have hn : rebN p K M Nh Nh h Ls = Nh := if_pos hE
    refine ⟨A, c, by rw [hE, hn], by rw [hn]; exact h1, h2, fun x hx ha => ?_⟩
    rw [hn, Int.toNat_natCast, Int.toNat_natCast, hS]
    exact h3 x hx ha)
  simp only [hE, if_true, Int.toNat_natCast, hS] at HD
  have HG := Lib.hid (fun r j => datF_lt (p := p) (K := K) (m := M) (f := atT h Nh) (L := F) r j)
  obtain ⟨G, hG⟩ : ∃ G, datF p K M (atT h Nh) F = G := ⟨_, rfl⟩
  have HGG := Lib.hid hG
  rw [hG] at HD HG
  clear hG hS hE hX hNK hfw hev hat0 hcl
  go_enter Tryz.func14, Tryz.ntmps14
  go_wp2_with fail
  refine HD.out.mono ?_
  rintro e w1 ⟨v1, rfl, A1, c1, rfl, hc1, hx1, hb1⟩
  have H1 := Lib.hid (below_tr HV.out hb1)
  have E1 := Lib.hid (kept_box E0.out hb1)
  have HR1 := Lib.hid (HR.out.below hb1)
  have HH1 := Lib.hid (HH.out.below hb1)
  have hvz := HV.out.size
  obtain ⟨Bs, Ds, hxx⟩ := rows_at (H := w.heap.size) (fun g hg => hx1 g (by omega)) hp0
  have HXX := Lib.hid hxx
  have h1z := H1.out.size
  clear hb1 d0 d1 d2 hx1 hxx HD E0 HR HH
  obtain ⟨d0, d1, d2⟩ := box_three E1.out
  go_wp2_with fail
  refine (rpar12 b p K M Bs (fun _ => S) Ds G HG.out A1 K c1 (by omega) (fun _ _ => hS2) _ (by omega) (HXX.out b h0).1 (HXX.out b h0).2).mono ?_
  rintro e w2 ⟨t, v2, rfl, ht, A2, c2, rfl, hc2, hx2, hb2⟩
  obtain rfl : t = true := ht.2 ⟨HX.out, rfl, fun _ _ => ⟨rfl, HSE.out⟩⟩
  simp only [cond_true, Int.toNat_natCast] at hx2 ⊢
  have H2 := Lib.hid (below_tr H1.out hb2)
  obtain ⟨Us, Vs, hyy⟩ := rows_at hx2 (show 0 < w1.heap.size by omega)
  have HYY := Lib.hid hyy
  have HB12 := Lib.hid hb2
  have HR2 := Lib.hid (HR1.out.below hb2)
  have HH2 := Lib.hid (HH1.out.below hb2)
  have h2z := H2.out.size
  clear hb2 hx2 hyy d0 d1 d2 ht HR1 HH1 E1
  rw [show errOf true = 0 from rfl]
  have HN1 := Lib.hid (show A1 = none → c1 = 0 from some_of (HXX.out b h0).1 (by omega))
  have HN2 := Lib.hid (show A2 = none → c2 = 0 from some_of (HYY.out b (by omega)).1 (by omega))
  go_wp2_with (at_builtin; refine append_rd _ rfl (.tmp 30) (.tmp 31) TRs rfl w2.heap.size TBs i0 nilS 24 Tryz.underlying24 hi hz0 hz1 hz2 rfl _ 0 [] rfl (World.ownsRow_lit w2 #[] 0 (Nat.le_refl _) (Nat.zero_le _) rfl) b _ _ _ _ rfl HN1.out (((HXX.out b h0).1.below HB12.out).below (below_alloc _ _)) (one_slis _ _ _) (by unfold maxLen; omega) (by omega) (by simp) ?_)
  intro v3 w3 hown3 hgr3
  have hB3 : Below w2.heap.size w2 w3 := (below_alloc w2 (.cells #[] TBs)).grown hgr3 (by simp) (fun q hq => by simp [Value.ownBlock] at hq; omega)
  have H3 := Lib.hid hB3
  have hsz3 := hB3.size
  have HOWN := Lib.hid hown3
  clear hB3 hown3 hgr3
  go_wp2_with (at_builtin; refine append_rd _ rfl (.tmp 33) (.tmp 34) TRs rfl w2.heap.size TBs i0 nilS 24 Tryz.underlying24 hi hz0 hz1 hz2 rfl v3 K _ rfl HOWN.out b _ _ _ _ rfl HN2.out ((HYY.out b (by omega)).1.below H3.out) (one_slis _ _ _) (by unfold maxLen; omega) (by omega) hsz3 ?_)
  intro v4 w4 hown4 hgr4
  have HB4 := Lib.hid (H3.out.grown hgr4 hsz3 (fun q hq => (HOWN.out.lt q hq).1))
  have hown4' := hown4
  rw [slis_cat, ← HNK.out] at hown4'
  obtain ⟨g, cg, K0, rfl, hg, hcg, hrow, hk0⟩ := own_rowK hown4' (by have := HNK.out; omega)
  have HROW := Lib.hid hrow
  have HK0 := Lib.hid hk0
  clear hown4 hgr4 hown4' hrow hk0 HOWN H3 hsz3 HN1 HN2
  go_wp2_with fail
  go_loopw [13] (fun s13 wr => RebAt g cg Nh h K0 (slis As Ls Cs) w2 s13 wr) (fun s13 _ => Nh - (intOf s13).toNat)
  case atStart => exact ⟨0, Nat.zero_le _, rfl, HROW.out.congr (fun j _ => by rw [if_neg (by omega)]), HB4.out⟩
  case round =>
    clear HROW HB4
    obtain ⟨i, hiN, rfl, hrow, hb⟩ := hrel
    have HROW := Lib.hid hrow
    have HB := Lib.hid hb
    have hg2 : w2.heap.size ≤ g := hg
    have hbz := hb.size
    by_cases hlt : i < Nh
    · obtain ⟨ah, rfl, q1⟩ := (HH2.out.below hb).at_ hlt
      obtain ⟨al, rfl, q2⟩ := (HR2.out.below hb).at_ hlt
      simp only [slis, bls] at q1 q2
      have hltI : (i : Int) < (Nh : Int) := by omega
      have hgi := hrow.cell (show i < cg by omega)
      rw [if_neg (by omega)] at hgi
      have hfi := hrow.frozen i
      obtain ⟨t, ht⟩ : ∃ t, h i = t := ⟨_, rfl⟩
      rw [ht] at q1
      have HTT := Lib.hid ht
      clear ht hrow hb
      cases t
      · have HS := Lib.hid (show RebAt g cg Nh h K0 (slis As Ls Cs) w2 (.int .i64 ((i + 1 : Nat) : Int)) wr from ⟨i + 1, hlt, rfl, HROW.out.congr (fun j _ => by
          by_cases e : j < i ∧ h j = true
          · rw [if_pos e, if_pos ⟨by omega, e.2⟩]
          · rw [if_neg e, if_neg (fun e2 => e ⟨by
              by_cases e3 : j = i
              · rw [e3, HTT.out] at e2; exact absurd e2.2 (by decide)
              · omega, e2.2⟩)]), HB.out⟩)
        go_wp2_with fail
        exact ⟨HS.out, by simp [intOf]; omega⟩
      · have HS := Lib.hid (show RebAt g cg Nh h K0 (slis As Ls Cs) w2 (.int .i64 ((i + 1 : Nat) : Int)) (wr.setCell ⟨g, i, none⟩ (.slice (As i) (Ls i) (Cs i))) from ⟨i + 1, hlt, rfl, (HROW.out.set i _).congr (fun j _ => by
          by_cases e : j = i
          · subst e
            rw [if_pos rfl, if_pos ⟨by omega, HTT.out⟩]
          · rw [if_neg e]
            by_cases e2 : j < i ∧ h j = true
            · rw [if_pos e2, if_pos ⟨by omega, e2.2⟩]
            · rw [if_neg e2, if_neg (fun e3 => e2 ⟨by omega, e3.2⟩)]), HB.out.setCell (p := ⟨g, i, none⟩) hg2 _⟩)
        go_wp2_with fail
        exact ⟨HS.out, by simp [intOf]; omega⟩
    · obtain rfl : Nh = i := by omega
      have HQ := Lib.hid (HEE.out (some ⟨g, 0, none⟩) cg wr hcg (H2.out.trans (hb.mono H2.out.size)) (fun x hx ha => by
        refine ⟨fun r => if h r = true then As r else catC K Bs Us r, fun r => if h r = true then Cs r else catC K Ds Vs r, (Rd.of_row hrow (by omega) hcg).congr (fun j hj => ?_), fun r hr => ?_⟩
        · simp only [slis]
          by_cases e : h j = true
          · rw [if_pos ⟨hj, e⟩, if_pos e, if_pos e, HLS.out j hj e]
          · rw [if_neg (fun e2 => e e2.2), if_neg e, if_neg e, HK0.out j hj]
        · dsimp only
          by_cases e : h r = true
          · rw [if_pos e]
            have h5 := (ha r hr e).below (H2.out.trans (hb.mono H2.out.size))
            rw [HLS.out r hr e] at h5
            exact h5.congr (fun j _ => by simp only [u8s]; unfold rebF; rw [if_pos e])
          · rw [if_neg e]
            by_cases hrK : r < K
            · rw [catC_lt hrK]
              exact ((((HXX.out x hx).2 r hrK).below HB12.out).below hb).congr (fun j _ => by simp only [u8s]; unfold rebF shF; rw [if_neg e, if_pos hrK, HGG.out])
            · obtain ⟨q, rfl⟩ : ∃ q, r = K + q := ⟨r - K, by omega⟩
              rw [catC_ge]
              exact (((HYY.out x (by omega)).2 q (by have := HNK.out; omega)).below hb).congr (fun j _ => by simp only [u8s]; unfold rebF shF; rw [if_neg e, if_neg (by omega), Nat.add_sub_cancel_left, HGG.out])))
      clear hrow hb
      go_wp2_with fail
      go_ret2
      exact HQ.out
end Go.Proofs.YtgdgimknnjbieaaGreatDoor
