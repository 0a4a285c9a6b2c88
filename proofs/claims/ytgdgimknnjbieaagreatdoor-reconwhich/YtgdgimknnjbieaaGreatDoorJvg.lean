/- The contract of gambrelref07's Parity; package jvan's functions, and the document's, of any numbers, in one form. -/
import Derived.Test.YtgdgimknnjbieaaGreatDoorJvf
import Derived.Test.YtgdgimknnjbieaaGreatDoorGxq
namespace Go.Proofs.YtgdgimknnjbieaaGreatDoor
open Go.RowKit

theorem elemR : Tryz.prog.elem TRI = TIs := by kernel_rfl
theorem run_fromR (a : Option Addr) (len cap k : Nat) (hk : k ≤ len) (w : World) : (Instr.slice TRI (.slice a len cap) (some (.int .i64 k)) none none).run Tryz.prog w = .ok (.slice (if cap = k then a else a.map (·.add k)) (len - k) (cap - k)) w := by
  have hu : Tryz.prog.underlying TRI = some (.slice (Tryz.prog.elem TRI)) := by rw [elemR]; exact underRI
  rw [run_slice_l w TRI a len cap hu .i64 k (by omega) (by omega), elemR, sizeIs]
  simp [Result.andThen, sliced]
theorem run_atR (a : Option Addr) (len cap k : Nat) (hk : k ≤ len) (w : World) : (Instr.sliceAt TRI (.slice a len cap) (some (.int .i64 k)) none none).run Tryz.prog w = .ok (.slice (if cap = k then a else a.map (·.add k)) (len - k) (cap - k)) w := by
  have hu : Tryz.prog.underlying TRI = some (.slice (Tryz.prog.elem TRI)) := by rw [elemR]; exact underRI
  rw [run_sliceAt_slice w TRI _ _ _ _ hu, run_fromR a len cap k hk]

theorem cell_rd {b n x : Nat} {A : Option Addr} {K : Nat → Value} {w : World} {ad : Addr} (h : Rd b w K A n) (e : A = some ad) (hx : x < n) : w.cell? (ad.add x) = some (K x) := by
  obtain ⟨ad2, e2, h2⟩ := h.at_ hx
  rw [e] at e2
  injection e2 with e2
  subst e2
  exact h2

set_option maxRecDepth 100000 in
set_option maxHeartbeats 4000000 in
theorem rpar_yes (q : FP) (b wd k m : Nat) (hg : Good q.p wd) (hk : side k) (hm : side m) (hkm : k + m ≤ 20) (w : World) (hbw : b < w.heap.size) :
    Calls Tryz.prog 66 #[.int .i64 wd, .int .u32 q.p, .int .i64 k, .int .i64 m] w (RVSaid q b m k (parE q k (k + m)) w) := by
  obtain ⟨i0, hi, hz0, hz1, hz2⟩ := info_parts infoRow
  obtain ⟨j0, hj, hy0, hy1, hy2⟩ := info_parts infoI
  have hkb := hg.kind.bounds
  have hn1 := hk.1
  have hn2 := hk.2
  have hm1 := hm.1
  have hm2 := hm.2
  have HR := Lib.hid (rext_yes q b wd k m hg hk hm hkm w hbw)
  have HG := Lib.hid (show ∀ i, i < m → ∀ j, j < k → jG q k (k + m) i j ≠ 0 from fun i hi j hj => sysJ_ne (by omega) (by omega) (by omega) hj)
  have HFU := Lib.hid (ext_full (q := q) (k := k) (N := k + m) (by omega) (by omega))
  have HSD := Lib.hid hk
  have HSM := Lib.hid hm
  obtain ⟨P, hP⟩ : ∃ P, parE q k (k + m) = P := ⟨_, rfl⟩
  obtain ⟨G, hGe⟩ : ∃ G, jG q k (k + m) = G := ⟨_, rfl⟩
  have HPR := Lib.hid (show P = rowE (colE G) by rw [← hP, ← hGe]; rfl)
  have HGE := Lib.hid hGe
  rw [hGe] at HG
  rw [hP]
  clear hk hm hP hGe
  go_enter Tryz.func66, Tryz.ntmps66
  go_wp2_with fail
  refine HR.out.mono ?_
  rintro e w2 ⟨v2, rfl, A, c, rfl, hc, hx, hb2⟩
  have HX := Lib.hid hx
  have HB2 := Lib.hid hb2
  have hsz2 := hb2.size
  have hkc : k ≤ c := by omega
  have HI := Lib.hid (rinverse13 q b wd k hg (fun _ => k) (ivs (extE q k (k + m))) A c w2 (by omega) (hx.take (by omega)))
  obtain ⟨N, hN⟩ : ∃ N, k + m = N := ⟨_, rfl⟩
  have HN := Lib.hid hN
  have hkN : k ≤ N := by omega
  have hNc : N ≤ c := by omega
  rw [hN] at HX HI HFU HGE ⊢
  clear hx hb2 HR hc hN hkm
  go_wp2_with fail
  refine HI.out.mono ?_
  rintro e w3 ⟨s, t, v3, rfl, hs, ht, hx3⟩
  obtain rfl : s = true := hs.2 ⟨ivs_may _ HSD.out HSD.out, rfl⟩
  rw [elM_ivs] at ht hx3
  obtain rfl : t = true := (ht rfl).2 HFU.out
  rw [show err2 true true = 0 from rfl]
  simp only [Bool.and_self, cond] at hx3 ⊢
  obtain ⟨A3, c3, rfl, _, hx3, hb3⟩ := hx3
  have HB3 := Lib.hid (below_tr HB2.out hb3)
  have hsz3 := hb3.size
  have hfr := run_fromR A N c k hkN
  have hat := run_atR A N c k hkN
  have HC := Lib.hid ((HX.out.below hb3).cut (k := k) (cap := c) hkN hNc)
  obtain ⟨A', hA'⟩ : ∃ A', (if c = k then A else A.map (·.add k)) = A' := ⟨_, rfl⟩
  rw [hA'] at hfr HC
  simp only [hA'] at hat
  have hNk : N - k = m := by have := HN.out; omega
  rw [hNk] at hfr HC
  simp only [hNk] at hat
  have HMU := Lib.hid (rmmul21 q.p b wd hg (ivs (fun r j => extE q k N (k + r) j)) (ivs (ivm k (extE q k N))) (fun _ => k) (fun _ => k) A' A3 m k (c - k) c3 w3 (by omega) HC.out hx3)
  clear hs ht hx3 hb3 HI HB2 HX HC hA' hNk hkc
  go_wp2_with fail
  refine HMU.out.mono ?_
  rintro e w4 ⟨t, v4, rfl, ht, hx4⟩
  obtain rfl : t = true := ht.2 ⟨ivs_may _ HSM.out HSD.out, ivs_may _ HSD.out HSD.out, rfl⟩
  simp only [cond] at hx4
  rw [mulF_ivs] at hx4
  obtain ⟨A4, c4, rfl, _, hx4, hb4⟩ := hx4
  have hx4 : Mx b w4 (ivs (jG q k N)) (fun _ => k) A4 m := hx4
  have HB4 := Lib.hid (below_tr HB3.out hb4)
  have hsz4 := HB4.out.size
  rw [HGE.out] at hx4
  obtain ⟨Bs, Bt, s1, s2⟩ := hx4
  obtain ⟨adG, rfl, _⟩ := s1.at_ (show 0 < m by omega)
  have S1 := Lib.hid s1
  have S2 := Lib.hid s2
  have HCN := Lib.hid (show ∀ i, i < m → colE G i 0 ≠ 0 from fun i hi => col_ne (HG.out i hi 0 (by omega)) (HG.out 0 (by omega) 0 (by omega)))
  have zm : 0 < m := by omega
  have zk : 0 < k := by omega
  have zm2 : (0 : Int) < (m : Int) := by omega
  have zk2 : (0 : Int) < (k : Int) := by omega
  clear ht HMU s1 s2 hb4 HB3 HGE hfr hat HFU HSD HSM HN
  go_wp2_with fail
  go_loopw [16, 17] (fun s16 s17 wr => ∃ i : Nat, i ≤ m ∧ s17 = .int .i64 i ∧ MApp b w4 (ivs P) (fun _ => k) i s16 wr) (fun _ s17 _ => m - (intOf s17).toNat)
  case atStart => exact ⟨0, Nat.zero_le _, rfl, MApp.start _ _ _ _⟩
  case round =>
    obtain ⟨i, hin, rfl, happ⟩ := hrel
    obtain ⟨wi, hwi⟩ : ∃ wi, wi = wr := ⟨_, rfl⟩
    subst hwi
    have HAPP := Lib.hid happ
    have hsz := happ.1.size
    clear happ
    by_cases hlt : i < m
    · go_wp2_with fail
      go_loopw [18, 19] (fun s18 s19 wr => RowIn k (ivs (colE G) i) wi s18 s19 wr) (fun _ s19 _ => k - (intOf s19).toNat)
      case atStart => exact ⟨0, Nat.zero_le _, rfl, App.start _ _ _⟩
      case round =>
        obtain ⟨j, hjn, rfl, ha⟩ := hrel
        have HA := Lib.hid ha
        have hsz2 := ha.2.size
        clear ha
        by_cases hlt2 : j < k
        · obtain ⟨adi, ei, _⟩ := (S2.out i hlt).at_ hlt2
          obtain ⟨ad0, e0, _⟩ := (S2.out 0 zm).at_ hlt2
          have KEEP := Lib.hid (show ∀ w', Below wi.heap.size wi w' → w'.cell? (adG.add i) = some (.slice (some adi) k (Bt i)) ∧ w'.cell? (adi.add j) = some (.int .i64 ((G i j).val : Nat)) ∧ w'.cell? adG = some (.slice (some ad0) k (Bt 0)) ∧ w'.cell? (ad0.add j) = some (.int .i64 ((G 0 j).val : Nat)) from fun w' hb' => by
            have hB := below_tr HAPP.out.1 hb'
            have h1 := cell_rd (S1.out.below hB) rfl hlt
            have h2 := cell_rd (S1.out.below hB) rfl zm
            simp only [slis] at h1 h2
            rw [ei] at h1
            rw [e0] at h2
            exact ⟨h1, cell_rd ((S2.out i hlt).below hB) ei hlt2, h2, cell_rd ((S2.out 0 zm).below hB) e0 hlt2⟩)
          have HOV := Lib.hid (over25 q wd hg (G i j) (G 0 j) (HG.out 0 zm j hlt2))
          have HV := Lib.hid (show i64s (ivs (colE G) i) j = .int .i64 ((G i j * (G 0 j).inv).val : Nat) from rfl)
          obtain ⟨y, hy⟩ : ∃ y : Nat, (G i j * (G 0 j).inv).val = y := ⟨_, rfl⟩
          obtain ⟨u, hu⟩ : ∃ u : Nat, (G i j).val = u := ⟨_, rfl⟩
          obtain ⟨v, hv⟩ : ∃ v : Nat, (G 0 j).val = v := ⟨_, rfl⟩
          rw [hu, hv] at KEEP
          rw [hu, hv, hy] at HOV
          rw [hy] at HV
          have hst := KEEP.out wr HA.out.2
          clear hu hv hy ei e0
          go_wp2_with fail
          go_region_held3 (fun w' => w'.cell? (adG.add i) = some (.slice (some adi) k (Bt i)) ∧ w'.cell? (adi.add j) = some (.int .i64 (u : Nat)) ∧ w'.cell? adG = some (.slice (some ad0) k (Bt 0)) ∧ w'.cell? (ad0.add j) = some (.int .i64 (v : Nat)))
            (first | exact hst | exact KEEP.out _ (HA.out.2.drew.alloc hsz2 _) | exact KEEP.out _ (HA.out.drew.step hownx hgx).2 | assumption)
            (first
              | (go_at_call 107; refine (HOV.out _).mono ?_; rintro e w' ⟨rfl, rfl⟩)
              | (refine step_append_lies _ rfl (.tmp 61) (.tmp 78) TIs rfl wi.heap.size TI j0 (.int .i64 0) 1 8 underI hj hy0 hy1 hy2 rfl (by decide) _ j _ (by simp [Act.eval]) (HA.out.1.alloc _) ⟨wr.heap.size, 0, none⟩ 1 1 [i64s (ivs (colE G) i) j] (by simp [Act.eval]) rfl (news_one HV.out.symm) (one_i64 _) (by omega) (by unfold maxLen; omega) (by omega) (by simp; omega) _ rfl ?_; intro gx cx wx hownx hgx hatx hltx))
          have HS := Lib.hid (HA.out.drew.step hownx hgx)
          clear hownx hgx hatx hltx
          go_wp2_with fail
          exact ⟨⟨j + 1, hlt2, by go_num, HS.out⟩, by simp [intOf]; omega⟩
        · obtain rfl : j = k := by omega
          obtain ⟨wk, hwk⟩ : ∃ wk, wk = wr := ⟨_, rfl⟩
          subst hwk
          obtain ⟨A5, c5, rfl, _, hr5⟩ := HA.out.rd (show b < wi.heap.size by omega)
          obtain ⟨ar, rfl, _⟩ := hr5.at_ zk
          have R5 := Lib.hid hr5
          clear hr5
          go_wp2_with fail
          go_loopw [20, 21] (fun s20 s21 wr => RowIn j (ivs P i) wk s20 s21 wr) (fun _ s21 _ => j - (intOf s21).toNat)
          case atStart => exact ⟨0, Nat.zero_le _, rfl, App.start _ _ _⟩
          case round =>
            obtain ⟨l, hln, rfl, ha⟩ := hrel
            have HL := Lib.hid ha
            have hsz5 := ha.2.size
            clear ha
            by_cases hlt3 : l < j
            · have KEEP := Lib.hid (show ∀ w', Below wk.heap.size wk w' → w'.cell? (ar.add l) = some (.int .i64 ((colE G i l).val : Nat)) ∧ w'.cell? ar = some (.int .i64 ((colE G i 0).val : Nat)) from fun w' hb' => ⟨cell_rd (R5.out.below hb') rfl hlt3, cell_rd (R5.out.below hb') rfl zk⟩)
              have HOV := Lib.hid (over25 q wd hg (colE G i l) (colE G i 0) (HCN.out i hlt))
              have HV := Lib.hid (show i64s (ivs P i) l = .int .i64 ((colE G i l * (colE G i 0).inv).val : Nat) from by rw [HPR.out]; rfl)
              obtain ⟨y, hy⟩ : ∃ y : Nat, (colE G i l * (colE G i 0).inv).val = y := ⟨_, rfl⟩
              obtain ⟨u, hu⟩ : ∃ u : Nat, (colE G i l).val = u := ⟨_, rfl⟩
              obtain ⟨v, hv⟩ : ∃ v : Nat, (colE G i 0).val = v := ⟨_, rfl⟩
              rw [hu, hv] at KEEP
              rw [hu, hv, hy] at HOV
              rw [hy] at HV
              have hst := KEEP.out wr HL.out.2
              clear hu hv hy
              go_wp2_with fail
              go_region_held3 (fun w' => w'.cell? (ar.add l) = some (.int .i64 (u : Nat)) ∧ w'.cell? ar = some (.int .i64 (v : Nat)))
                (first | exact hst | exact KEEP.out _ (HL.out.2.drew.alloc hsz5 _) | exact KEEP.out _ (HL.out.drew.step hownx hgx).2 | assumption)
                (first
                  | (go_at_call 107; refine (HOV.out _).mono ?_; rintro e w' ⟨rfl, rfl⟩)
                  | (refine step_append_lies _ rfl (.tmp 85) (.tmp 96) TIs rfl wk.heap.size TI j0 (.int .i64 0) 1 8 underI hj hy0 hy1 hy2 rfl (by decide) _ l _ (by simp [Act.eval]) (HL.out.1.alloc _) ⟨wr.heap.size, 0, none⟩ 1 1 [i64s (ivs P i) l] (by simp [Act.eval]) rfl (news_one HV.out.symm) (one_i64 _) (by omega) (by unfold maxLen; omega) (by omega) (by simp; omega) _ rfl ?_; intro gx cx wx hownx hgx hatx hltx))
              have HS := Lib.hid (HL.out.drew.step hownx hgx)
              clear hownx hgx hatx hltx
              go_wp2_with fail
              exact ⟨⟨l + 1, hlt3, by go_num, HS.out⟩, by simp [intOf]; omega⟩
            · obtain rfl : l = j := by omega
              obtain ⟨hb0, As0, Cs0, hown0, hrow0⟩ := HAPP.out.below (below_tr HA.out.2 HL.out.2)
              have hlo := HAPP.out.2
              obtain ⟨A', c', e', _, _⟩ := HL.out.rd (show b < wk.heap.size by omega)
              subst e'
              have HRY := Lib.hid (show ∀ g, (g = b ∨ u16.ownBlock = some g) → Rd g wr (i64s (ivs P i)) A' l from fun g hg => by
                have hgl : g < wk.heap.size := by
                  rcases hg with rfl | hg
                  · omega
                  · obtain ⟨_, _, ho, _⟩ := hlo
                    have := (ho.lt g hg).2
                    omega
                obtain ⟨A2, c2, e2, _, h2⟩ := HL.out.rd hgl
                injection e2 with e2
                subst e2
                exact h2)
              have HB0 := Lib.hid hb0
              have HOWN := Lib.hid hown0
              have HROW := Lib.hid hrow0
              have hsz6 := hb0.size
              clear hb0 hown0 hrow0 hlo
              go_wp2_with (at_builtin; refine wpList_append_lies _ rfl _ _ TRI rfl w4.heap.size TIs i0 nilS 1 24 underRI hi hz0 hz1 hz2 rfl (by decide) _ i _ rfl (HOWN.out.alloc _) ⟨wr.heap.size, 0, none⟩ 1 1 [.slice A' l c'] rfl rfl (news_one rfl) (one_slice _ _ _) (by omega) (by unfold maxLen; omega) (by omega) (by simp; omega) _ rfl ?_)
              intro g' cap' w7 hown2 hgr2 hg2 _
              have HS := Lib.hid (MApp.step (F := ivs P) (Ls := fun _ => l) HB0.out HOWN.out HROW.out rfl HRY.out hown2 hgr2 hg2)
              clear hown2 hgr2 hg2
              go_wp2_with fail
              exact ⟨⟨i + 1, hlt, by go_num, HS.out⟩, by simp [intOf]; omega⟩
    · obtain rfl : i = m := by omega
      go_wp2_with fail
      go_ret2
      exact ⟨_, rfl, MTold.from HB4.out (HAPP.out.told (show b < w4.heap.size by omega))⟩
end Go.Proofs.YtgdgimknnjbieaaGreatDoor
