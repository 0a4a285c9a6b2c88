/- Layer 12: contracts of copied and Update. Layer 12's own first test. -/
import Derived.Test.YtgdgimknnjbieaaGreatDoorGrf
import Derived.Test.YtgdgimknnjbieaaGreatDoorGrd
import Derived.Test.YtgdgimknnjbieaaGreatDoorGyd
import Derived.Lib.SlBytesConst

namespace Go.Proofs.YtgdgimknnjbieaaGreatDoor
open Go.RowKit

/-- rows in a list of the call's own, i of them copied -/
def CopAt (N : Nat) (Ls : Nat → Nat) (F : Nat → Nat → Nat) (w : World) (s11 : Value) (wr : World) : Prop :=
  ∃ i : Nat, i ≤ N ∧ s11 = .int .i64 i ∧ Below w.heap.size w wr ∧ ∃ (Bs : Nat → Option Addr) (Ds : Nat → Nat), wr.rowIs w.heap.size TBs N (fun r => if r < i then slis Bs Ls Ds r else nilS) ∧
    ∀ r, r < i → ∀ x, (x < w.heap.size ∨ x = w.heap.size) → Rd x wr (u8s (F r)) (Bs r) (Ls r)
/-- what copied tells -/
def CopSaid (N : Nat) (Ls : Nat → Nat) (F : Nat → Nat → Nat) (w : World) (e : Ending) (w' : World) : Prop :=
  e = .returned (.slice (some ⟨w.heap.size, 0, none⟩) N N) ∧ Below w.heap.size w w' ∧ ∃ (Bs : Nat → Option Addr) (Ds : Nat → Nat), w'.rowIs w.heap.size TBs N (slis Bs Ls Ds) ∧ ∀ r, r < N → ∀ x, (x < w.heap.size ∨ x = w.heap.size) → Rd x w' (u8s (F r)) (Bs r) (Ls r)

set_option maxRecDepth 100000 in
set_option maxHeartbeats 2000000 in
theorem copied47 (b : Nat) (As : Nat → Option Addr) (Ls Cs : Nat → Nat) (F : Nat → Nat → Nat) (A : Option Addr) (N c : Nat) (hN : N ≤ 1000) (hL : ∀ r, r < N → Ls r ≤ 1000) (w : World) (hr : Rd b w (slis As Ls Cs) A N) (hrs : ∀ r, r < N → Rd b w (u8s (F r)) (As r) (Ls r)) :
    Calls Tryz.prog 47 #[.slice A N c] w (CopSaid N Ls F w) := by
  have HR := Lib.hid hr
  have HRS := Lib.hid hrs
  have HL := Lib.hid hL
  have hmk := run_make_row' (P := Tryz.prog) TRs TBs nilS 24 Tryz.underlying24 infoS rfl .i64 .i64 N (by omega) (by omega)
  have HST := Lib.hid (show CopAt N Ls F w (.int .i64 0) (w.alloc (.cells (madeCells #[nilS] N) TBs)) from ⟨0, Nat.zero_le _, rfl, below_alloc _ _, fun _ => none, fun _ => 0, (World.rowIs_made w nilS N TBs).congr (fun r _ => by rw [if_neg (by omega)]), fun r hr => absurd hr (by omega)⟩)
  clear hr hrs hL
  go_enter Tryz.func47, Tryz.ntmps47
  go_wp2_with fail
  go_loopw [11] (fun s11 wr => CopAt N Ls F w s11 wr) (fun s11 _ => N - (intOf s11).toNat)
  case atStart => exact HST.out
  case round =>
    clear HST hmk
    obtain ⟨i, hiN, rfl, hb, Bs, Ds, hrow, hrd⟩ := hrel
    have hbz := hb.size
    have hlw := hrow.lt
    by_cases hlt : i < N
    · obtain ⟨ad, rfl, q1⟩ := (HR.out.below hb).at_ hlt
      simp only [slis] at q1
      have hltI : (i : Int) < (N : Int) := by omega
      have HC := Lib.hid (clone41 b (F i) (As i) (Ls i) (Cs i) (by have := HL.out i hlt; omega) wr ((HRS.out i hlt).below hb))
      have HB := Lib.hid hb
      have HROW := Lib.hid hrow
      have HRD := Lib.hid hrd
      clear hb hrow hrd
      go_wp2_with fail
      refine HC.out.mono ?_
      rintro e w1 ⟨A1, c1, rfl, hown, hb1⟩
      have hrow1 := HROW.out.of_block (hb1.block _ hlw)
      have k1 := hrow1.cell hlt
      rw [if_neg (by omega)] at k1
      have k2 := hrow1.frozen i
      have ht : Turned w.heap.size w1 (w1.setCell ⟨w.heap.size, i, none⟩ (.slice A1 (Ls i) c1)) := (Turned.refl _ _).setCell i _
      have HS := Lib.hid (show CopAt N Ls F w (.int .i64 ((i + 1 : Nat) : Int)) (w1.setCell ⟨w.heap.size, i, none⟩ (.slice A1 (Ls i) c1)) from
        ⟨i + 1, hlt, rfl, (below_tr HB.out hb1).setCell (p := ⟨w.heap.size, i, none⟩) (Nat.le_refl _) _, fun r => if r = i then A1 else Bs r, fun r => if r = i then c1 else Ds r, (hrow1.set i _).congr (fun r _ => by
          simp only [slis]
          by_cases e : r = i
          · subst e
            rw [if_pos rfl, if_pos (by omega), if_pos rfl, if_pos rfl]
          · rw [if_neg e]
            by_cases e2 : r < i
            · rw [if_pos e2, if_pos (by omega), if_neg e, if_neg e]
            · rw [if_neg e2, if_neg (by omega)]), fun r hr x hx => by
          dsimp only
          by_cases e : r = i
          · rw [if_pos e, e]
            exact rd_turn (hown.rd (by omega)) (hown.rd (by rcases hx with hx | hx <;> omega)) ht
          · rw [if_neg e]
            exact rd_turn ((HRD.out r (by omega) _ (Or.inr rfl)).below hb1) ((HRD.out r (by omega) x hx).below hb1) ht⟩)
      clear hown hb1 hrow1 ht HC
      go_wp2_with fail
      exact ⟨HS.out, by simp [intOf]; omega⟩
    · obtain rfl : i = N := by omega
      have HE := Lib.hid (show CopSaid i Ls F w (.returned (.slice (some ⟨w.heap.size, 0, none⟩) i i)) wr from ⟨rfl, hb, Bs, Ds, hrow.congr (fun r hr => by rw [if_pos hr]), hrd⟩)
      clear hb hrow hrd
      go_wp2_with fail
      go_ret
      exact HE.out

/-- the shards, when j parity shards are new -/
def updJ (p : Int) (K M : Nat) (F : Nat → Nat → Nat) (I : Nat) (f : Nat → Nat) (j r : Nat) : Nat → Nat := if r < K + j then updF p K M F I f r else F r
/-- in Update's loop -/
def UpdLp (p : Int) (K M N b g S I : Nat) (H0 : Nat) (F : Nat → Nat → Nat) (f : Nat → Nat) (w0 : World) (s72 : Value) (wr : World) : Prop :=
  ∃ j : Nat, j ≤ M ∧ s72 = .int .i64 j ∧ Fld (qP p).p b (wdP p) wr ∧ Turned2 b g w0 wr ∧ (0 < j → S % nP p = 0) ∧ ∃ (Bs : Nat → Option Addr) (Ds : Nat → Nat) (K0 : Nat → Value), wr.rowIs g TBs N K0 ∧ (∀ r, r < N → K0 r = slis Bs (fun _ => S) Ds r) ∧
    ∀ r, r < N → ∀ x, (x < H0 ∨ x = b ∨ x = g) → Rd x wr (u8s (updJ p K M F I f j r)) (Bs r) S

set_option maxRecDepth 100000 in
set_option maxHeartbeats 8000000 in
theorem upd16 (x0 : Nat) (p k m : Int) (As : Nat → Option Addr) (Ls Cs : Nat → Nat) (F : Nat → Nat → Nat) (hF : ∀ r j, F r j < 256) (A : Option Addr) (N c : Nat) (hN : N ≤ 1000) (hL : ∀ r, r < N → Ls r ≤ 1000) (i : Int) (f : Nat → Nat) (hf : ∀ j, f j < 256) (B : Option Addr) (nb cb : Nat) (w : World) (hT : Tab w) (h0 : x0 < w.heap.size)
    (hr : Rd x0 w (slis As Ls Cs) A N) (hrs : ∀ r, r < N → Rd x0 w (u8s (F r)) (As r) (Ls r)) (hB : Rd x0 w (u8s f) B nb) :
    Calls Tryz.prog 16 #[.agg (parA p k m), .slice A N c, .int .i64 i, .slice B nb cb] w (UpdSaid p k m i N nb As B Ls F f w) := by
  obtain ⟨v, hv⟩ : ∃ v, w.alloc (.cells #[.int .i64 p, .int .i64 k, .int .i64 m] TPa) = v := ⟨_, rfl⟩
  obtain ⟨_, e0, hbv⟩ := one_box hv
  have E0 := Lib.hid e0
  have HV := Lib.hid hbv
  have HT := Lib.hid (hT.below hbv)
  have HR := Lib.hid hr
  have HRS := Lib.hid hrs
  have HBR := Lib.hid hB
  have HL := Lib.hid hL
  have HFF := Lib.hid hF
  have Hf := Lib.hid hf
  obtain ⟨d0, d1, d2⟩ := box_three e0
  have hv1 := hbv.size
  clear e0 hbv hr hrs hB hL hF hf hT
  go_enter Tryz.func16, Tryz.ntmps16
  go_wp2_with fail
  refine (count24 p k m N _ HT.out).mono ?_
  rintro e w1 ⟨t, rfl, ht, hb1⟩
  have V1 := Lib.hid (show Below v.heap.size v w1 from hb1)
  have HT1 := Lib.hid (HT.out.below hb1)
  have HM := Lib.hid ht
  clear hb1 d0 d1 d2 ht HT
  obtain ⟨d0, d1, d2⟩ := box_three (kept_box E0.out V1.out)
  cases t
  · have HE := Lib.hid (UpdSaid.no (F := F) (g := f) (As := As) (B := B) (Ls := Ls) (N := N) (nb := nb) (p := p) (k := k) (m := m) (i := i) (fun h => by have := HM.out.2 ⟨h.1, h.2.1⟩; cases this) (below_tr HV.out V1.out))
    go_wp2_with fail
    go_ret2
    exact HE.out
  have HP := Lib.hid (HM.out.1 rfl)
  obtain ⟨K, rfl⟩ : ∃ K : Nat, k = K := ⟨k.toNat, by have := HP.out.1.2.1; omega⟩
  obtain ⟨M, rfl⟩ : ∃ M : Nat, m = M := ⟨m.toNat, by have := HP.out.1.2.2.1; omega⟩
  have hK := HP.out.1.2.1
  have hM : 1 ≤ M ∧ M ≤ 4 := by have := HP.out.1.2.2; have := (max_pos HP.out.1.1).2; omega
  have HNK := Lib.hid (show N = K + M by have := HP.out.2; omega)
  have HX := Lib.hid HP.out.1
  have hN12 : N ≤ 12 := by have := HP.out.2; omega
  have hKN : K < N := by have := HP.out.2; omega
  have HPN := Lib.hid HP.out.2
  clear HM HP
  go_wp2_with fail
  refine (alike44 x0 As Ls Cs A N c (by omega) _ (HR.out.below (below_tr HV.out V1.out))).mono ?_
  rintro e w2 ⟨t, rfl, ht, hb2⟩
  have V2 := Lib.hid (below_tr V1.out hb2)
  have HT2 := Lib.hid (HT1.out.below hb2)
  have HM := Lib.hid ht
  clear hb2 d0 d1 d2 ht HT1 V1
  obtain ⟨d0, d1, d2⟩ := box_three (kept_box E0.out V2.out)
  have HNO := Lib.hid (fun w' (hb : Below v.heap.size v w') h => UpdSaid.no (F := F) (g := f) (As := As) (B := B) (Ls := Ls) (N := N) (nb := nb) (p := p) (k := K) (m := M) (i := i) (w := w) (w' := w') h (below_tr HV.out hb))
  cases t
  · have HE := Lib.hid (HNO.out _ V2.out (fun h => by have := HM.out.2 (fun r hr => (h.2.2.1 r hr).1); cases this))
    go_wp2_with fail
    go_ret2
    exact HE.out
  have HAL := Lib.hid (HM.out.1 rfl)
  clear HM
  by_cases hi0 : 0 ≤ i
  case neg =>
    have HE := Lib.hid (HNO.out _ V2.out (fun h => hi0 h.2.2.2.1))
    have hd : decide (i < 0) = true := by simp; omega
    go_wp2_with fail
    go_ret2
    exact HE.out
  by_cases hiK : i < (K : Int)
  case neg =>
    have HE := Lib.hid (HNO.out _ V2.out (fun h => hiK h.2.2.2.2.1))
    have hd : decide (i < 0) = false := by simp; omega
    have hd2 : decide ((K : Int) ≤ i) = true := by simp; omega
    go_wp2_with fail
    go_ret2
    exact HE.out
  obtain ⟨I, rfl⟩ : ∃ I : Nat, i = I := ⟨i.toNat, by omega⟩
  have hIK : I < K := by omega
  have hIN : I < N := by omega
  have hd : decide ((I : Int) < 0) = false := by simp
  have hd2 : decide ((K : Int) ≤ (I : Int)) = false := by simp; omega
  obtain ⟨S, hS⟩ : ∃ S, Ls 0 = S := ⟨_, rfl⟩
  have HS0 := Lib.hid hS
  have HLS := Lib.hid (show ∀ r, r < N → Ls r = S from fun r hr => (HAL.out r hr).trans hS)
  have hS2 : S ≤ 1000 := by have := HL.out 0 (by omega); omega
  obtain ⟨ad, rfl, c0⟩ := (HR.out.below (below_tr HV.out V2.out)).at_ hIN
  simp only [slis] at c0
  rw [HLS.out I hIN] at c0
  have hINI : (I : Int) < (N : Int) := by omega
  have HRW := Lib.hid (show ∀ w', Below w.heap.size w w' → Rd x0 w' (slis As (fun _ => S) Cs) (some ad) N ∧ (∀ r, r < N → Rd x0 w' (u8s (F r)) (As r) S) ∧ Rd x0 w' (u8s f) B nb from fun w' hb =>
    ⟨(HR.out.below hb).congr (fun r hr => by simp only [slis]; rw [HLS.out r hr]), fun r hr => by have h5 := (HRS.out r hr).below hb; rwa [HLS.out r hr] at h5, HBR.out.below hb⟩)
  have HUE := Lib.hid (show S % nP p = 0 → nb = S → updE p K M I N nb Ls = 0 from fun h5 h6 => if_pos ⟨HX.out, HPN.out, fun r hr => ⟨HAL.out r hr, by rw [HLS.out r hr]; exact h5⟩, by omega, by omega, by rw [HS0.out]; exact h6⟩)
  clear hi0 hiK hS HAL HBR
  go_wp2_with fail
  refine (add_any x0 (F I) f (HFF.out I) Hf.out (As I) B S nb (Cs I) cb hS2 _ (by have := V2.out.size; omega) ((HRW.out _ (below_tr HV.out V2.out)).2.1 I hIN) (HRW.out _ (below_tr HV.out V2.out)).2.2).mono ?_
  rintro e w3 ⟨t, v3, rfl, ht, A3, c3, rfl, hc3, hr3, hb3⟩
  have V3 := Lib.hid (below_tr V2.out hb3)
  have HT3 := Lib.hid (HT2.out.below hb3)
  have HM := Lib.hid ht
  clear d0 d1 d2 ht HT2 V2 c0
  obtain ⟨d0, d1, d2⟩ := box_three (kept_box E0.out V3.out)
  cases t
  · have HE := Lib.hid (HNO.out _ V3.out (fun h => by have := HM.out.2 (by have h5 := h.2.2.2.2.2; rw [HS0.out] at h5; exact h5.symm); cases this))
    rw [show errOf false = 1 from rfl]
    simp only [cond_false]
    clear hb3 hc3 hr3
    go_wp2_with fail
    go_ret2
    exact HE.out
  have hnS : S = nb := HM.out.1 rfl
  rw [show errOf true = 0 from rfl]
  simp only [cond_true] at hc3 hr3 ⊢
  have HR3 := Lib.hid hr3
  clear HM hb3 hc3 hr3
  go_wp2_with fail
  refine (par12 p K M _ HT3.out).mono ?_
  rintro e w4 ⟨t, A4, c4, g4, rfl, ht, _, hx4, hg4, hb4⟩
  obtain rfl : t = true := ht.2 HX.out
  simp only [cond, errOf, if_true, Int.toNat_natCast] at hx4 ⊢
  have V4 := Lib.hid (below_tr V3.out hb4)
  have HT4 := Lib.hid (HT3.out.below hb4)
  have HX4 := Lib.hid hx4
  have HR4 := Lib.hid (HR3.out.below hb4)
  clear ht hx4 hg4 hb4 d0 d1 d2 HT3 V3 HR3
  obtain ⟨d0, d1, d2⟩ := box_three (kept_box E0.out V4.out)
  go_wp2_with fail
  refine (pfield_yes p HX.out.1 _ HT4.out).mono ?_
  rintro e w5 ⟨b, rfl, hf5, hn5, hb5⟩
  have V5 := Lib.hid (below_tr V4.out hb5)
  have HX5 := Lib.hid (show Mx b w5 (ivs (rowsE p K M)) (fun _ => K) A4 M from (HX4.out.above hn5).below hb5)
  have HR5 := Lib.hid (show Rd b w5 (u8s fun i => F I i ^^^ f i) A3 S from (HR4.out.above hn5).below hb5)
  have HF5 := Lib.hid hf5
  have hbl := hf5.lt
  have hvb : v.heap.size ≤ b := by have := V4.out.size; omega
  have hwb : w.heap.size ≤ b := by omega
  have h5z := hb5.size
  clear hf5 hn5 hb5 d0 d1 d2 HX4 HR4 HT4 V4
  obtain ⟨d0, d1, d2⟩ := box_three (kept_box E0.out V5.out)
  go_wp2_with fail
  refine (copied47 x0 As (fun _ => S) Cs F (some ad) N c hN (fun _ _ => hS2) _ (HRW.out _ (below_tr HV.out V5.out)).1 (HRW.out _ (below_tr HV.out V5.out)).2.1).mono ?_
  rintro e w6 ⟨rfl, hb6, Bs, Ds, hrow6, hrd6⟩
  obtain ⟨g, hg⟩ : ∃ g, w5.heap.size = g := ⟨_, rfl⟩
  rw [hg] at hrow6 hrd6 ⊢
  have V6 := Lib.hid (below_tr V5.out hb6)
  have HX6 := Lib.hid (HX5.out.below hb6)
  have HXG := Lib.hid (show Mx g w6 (ivs (rowsE p K M)) (fun _ => K) A4 M from (HX5.out.above (by omega)).below hb6)
  have HR6 := Lib.hid (HR5.out.below hb6)
  have HRG := Lib.hid (show Rd g w6 (u8s fun i => F I i ^^^ f i) A3 S from (HR5.out.above (by omega)).below hb6)
  have HF6 := Lib.hid (HF5.out.of_below hb6)
  have HROW := Lib.hid hrow6
  have HRD := Lib.hid hrd6
  have hgl := hrow6.lt
  have hbg : b < g := by omega
  clear hrow6 hrd6 hb6 d0 d1 d2 HX5 HR5 HF5 V5 hg hbl h5z
  obtain ⟨d0, d1, d2⟩ := box_three (kept_box E0.out V6.out)
  go_wp2_with fail
  refine (clone41 x0 f B nb cb (by omega) _ (HRW.out _ (below_tr HV.out V6.out)).2.2).mono ?_
  rintro e w7 ⟨A7, c7, rfl, hown7, hb7⟩
  rw [← hnS] at hown7 ⊢
  have HNS := Lib.hid hnS
  clear hnS
  have V7 := Lib.hid (below_tr V6.out hb7)
  have hrow7 := HROW.out.of_block (hb7.block _ hgl)
  have k1 := hrow7.cell hIN
  have k2 := hrow7.frozen I
  have h7z := hb7.size
  have ht8 : Turned g w7 (w7.setCell ⟨g, I, none⟩ (.slice A7 S c7)) := (Turned.refl _ _).setCell I _
  have hvg : v.heap.size ≤ g := by have := V6.out.size; omega
  obtain ⟨w8, hw8⟩ : ∃ w8, w7.setCell ⟨g, I, none⟩ (.slice A7 S c7) = w8 := ⟨_, rfl⟩
  rw [hw8] at ht8
  have V8 := Lib.hid (show Below v.heap.size v w8 from by rw [← hw8]; exact V7.out.setCell (p := ⟨g, I, none⟩) hvg _)
  have hL8 : UpdLp p K M N b g S I w.heap.size F f w8 (.int .i64 0) w8 := by
    refine ⟨0, Nat.zero_le _, rfl, by rw [← hw8]; exact (HF6.out.of_below hb7).setRow hrow7 (by decide) (by decide) _, Turned2.refl _ _ _, fun h => absurd h (by omega), fun r => if r = I then A7 else Bs r, fun r => if r = I then c7 else Ds r, _, by rw [← hw8]; exact hrow7.set I _, fun r hr => ?_, fun r hr x hx => ?_⟩
    · simp only [slis]
      by_cases e : r = I
      · rw [if_pos e, if_pos e, if_pos e]
      · rw [if_neg e, if_neg e, if_neg e]
    · dsimp only
      by_cases e : r = I
      · rw [if_pos e]
        have e1 : updJ p K M F I f 0 r = f := by
          funext j
          unfold updJ updF
          rw [if_pos (by omega), if_pos e]
        rw [e1]
        exact rd_turn (hown7.rd (by omega)) (hown7.rd (by rcases hx with hx | hx | hx <;> omega)) ht8
      · rw [if_neg e]
        have e1 : updJ p K M F I f 0 r = F r := by
          funext j
          unfold updJ
          by_cases e2 : r < K + 0
          · rw [if_pos e2]
            unfold updF
            rw [if_neg e, if_pos (by omega)]
          · rw [if_neg e2]
        rw [e1]
        exact rd_turn ((HRD.out r hr _ (Or.inr rfl)).below hb7) ((HRD.out r hr x (by rcases hx with hx | hx | hx <;> omega)).below hb7) ht8
  have HL8 := Lib.hid hL8
  have HQX := Lib.hid (show ∀ x, (x = b ∨ x = g) → Mx x w8 (ivs (rowsE p K M)) (fun _ => K) A4 M ∧ Rd x w8 (u8s fun i => F I i ^^^ f i) A3 S from fun x hx => by
    have h5 : ∀ {A : Option Addr} {n : Nat} {kk : Nat → Value}, Rd b w6 kk A n → Rd g w6 kk A n → Rd x w8 kk A n := fun h1 h2 => rd_turn (h2.below hb7) (by rcases hx with rfl | rfl; exact h1.below hb7; exact h2.below hb7) ht8
    refine ⟨?_, h5 HR6.out HRG.out⟩
    obtain ⟨Qs, Es, m1, m2⟩ := HX6.out
    obtain ⟨Qs', Es', m3, m4⟩ := HXG.out
    have hq : ∀ r, r < M → Qs' r = Qs r ∧ Es' r = Es r := fun r hr => by
      obtain ⟨a1, q1, q2⟩ := m1.at_ hr
      obtain ⟨a2, q3, q4⟩ := m3.at_ hr
      rw [q1] at q3
      injection q3 with q3
      subst q3
      rw [q2] at q4
      injection q4 with q4
      injection q4 with q5 _ q6
      exact ⟨q5.symm, q6.symm⟩
    exact ⟨Qs, Es, h5 m1 (m3.congr (fun r hr => by simp only [slis]; rw [(hq r hr).1, (hq r hr).2])), fun r hr => h5 (m2 r hr) (by have := m4 r hr; rwa [(hq r hr).1] at this)⟩)
  have h8z : w8.heap.size = w7.heap.size := by rw [← hw8]; simp [World.setCell]
  have hg8 : g < w8.heap.size := by omega
  clear h8z hown7 hb7 hrow7 hL8 HROW HRD HX6 HXG HR6 HRG HF6 d0 d1 d2 V6 V7 hgl
  have HW8 := Lib.hid (below_tr HV.out V8.out)
  have HE8 := Lib.hid (show ∀ w', Turned2 b g w8 w' → Below v.heap.size v w' from fun w' h5 => V8.out.trans (h5.below hvb hvg V8.out.size))
  go_wp2_with fail
  clear hw8 k1 k2 ht8
  go_loopw [72] (fun s72 wr => UpdLp p K M N b g S I w.heap.size F f w8 s72 wr) (fun s72 _ => M - (intOf s72).toNat)
  case atStart => exact HL8.out
  case round =>
    clear HL8
    obtain ⟨j, hjM, rfl, hfr, hsm, hev, Bs, Ds, K0, hrow, hk0, hrd⟩ := hrel
    have HF := Lib.hid hfr
    have HSM := Lib.hid hsm
    have HEV := Lib.hid hev
    have HROW := Lib.hid hrow
    have HK0 := Lib.hid hk0
    have HRD := Lib.hid hrd
    have hsz := hsm.size
    have hgw := hrow.lt
    have hbw := hfr.lt
    have hb := HE8.out wr hsm
    have HB := Lib.hid hb
    obtain ⟨d0, d1, d2⟩ := box_three (kept_box E0.out hb)
    clear hfr hsm hev hrow hk0 hrd hb
    by_cases hlt : j < M
    · have hx1 := (HQX.out b (Or.inl rfl)).1
      have hx2 := (HQX.out g (Or.inr rfl)).1
      obtain ⟨Qs, Es, m1, m2⟩ := hx1
      obtain ⟨Qs', Es', m3, m4⟩ := hx2
      have hq : ∀ r, r < M → Qs' r = Qs r ∧ Es' r = Es r := fun r hr => by
        obtain ⟨a1, q1, q2⟩ := m1.at_ hr
        obtain ⟨a2, q3, q4⟩ := m3.at_ hr
        rw [q1] at q3
        injection q3 with q3
        subst q3
        rw [q2] at q4
        injection q4 with q4
        injection q4 with q5 _ q6
        exact ⟨q5.symm, q6.symm⟩
      have m3' := m3.congr (k' := slis Qs (fun _ => K) Es) (fun r hr => by simp only [slis]; rw [(hq r hr).1, (hq r hr).2])
      have m4' : Rd g w8 (i64s (ivs (rowsE p K M) j)) (Qs j) K := by have := m4 j hlt; rwa [(hq j hlt).1] at this
      obtain ⟨ap, rfl, q1⟩ := (rd_turn2 m1 m3' m1 HSM.out).at_ hlt
      obtain ⟨aq, haq, q2⟩ := (rd_turn2 (m2 j hlt) m4' (m2 j hlt) HSM.out).at_ hIK
      simp only [slis, i64s] at q1 q2
      rw [haq] at q1
      have hjI : (j : Int) < (M : Int) := by omega
      have hIKI : (I : Int) < (K : Int) := by omega
      have hinB := ivs_in (rowsE p K M) j I
      obtain ⟨y, hy⟩ : ∃ y, ivs (rowsE p K M) j I = y := ⟨_, rfl⟩
      have HY := Lib.hid hy
      rw [hy] at hinB q2
      have HCR := Lib.hid (rd_turn2 (HQX.out b (Or.inl rfl)).2 (HQX.out g (Or.inr rfl)).2 (HQX.out b (Or.inl rfl)).2 HSM.out)
      have HC := Lib.hid (mul_any (qP p).p b (wdP p) (nP p) (wideP p) y (fun i => F I i ^^^ f i) (fun j => Nat.xor_lt_two_pow (n := 8) (HFF.out I j) (Hf.out j)) A3 S c3 hS2 wr HF.out HCR.out)
      clear m1 m2 m3 m4 m3' m4' hq hy haq
      go_wp2_with fail
      refine HC.out.mono ?_
      rintro e w10 ⟨t, A10, c10, rfl, ht, hr10, hf10, ht10⟩
      have HSM10 := Lib.hid (HSM.out.fst ht10)
      have HF10 := Lib.hid hf10
      cases t
      · have HE := Lib.hid (HNO.out w10 (HE8.out _ HSM10.out) (fun h5 => by
          have := ht.2 ⟨inB_iff.2 hinB, by have h6 := (h5.2.2.1 0 (by omega)).2; rw [HS0.out] at h6; exact h6⟩
          cases this))
        rw [show errOf false = 1 from rfl]
        simp only [cond_false]
        clear ht hr10 hf10 ht10 HC
        go_wp2_with fail
        go_ret2
        exact HE.out
      have HOK := Lib.hid (ht.1 rfl).2
      simp only [cond_true] at hr10 ⊢
      rw [show errOf true = 0 from rfl]
      have HR10 := Lib.hid hr10
      have HROW10 := Lib.hid (HROW.out.of_block (ht10.block _ hgw (by omega)))
      have HRD10 := Lib.hid (show ∀ r, r < N → ∀ x, (x < w.heap.size ∨ x = b ∨ x = g) → Rd x w10 (u8s (updJ p K M F I f j r)) (Bs r) S from fun r hr x hx => rd_turn (HRD.out r hr b (Or.inr (Or.inl rfl))) (HRD.out r hr x hx) ht10)
      have V10 := Lib.hid (HE8.out _ HSM10.out)
      have h10z := ht10.size
      obtain ⟨z, hz⟩ : ∃ z, K + j = z := ⟨_, rfl⟩
      have HZ := Lib.hid hz
      have hzI : (K : Int) + (j : Int) = (z : Int) := by omega
      have hzN : z < N := by have := HNK.out; omega
      have hzNI : (z : Int) < (N : Int) := by omega
      have hin := HRW.out _ (below_tr HV.out V10.out)
      obtain ⟨ad', e', c0⟩ := hin.1.at_ hzN
      injection e' with e'
      subst e'
      simp only [slis] at c0
      have hbv : w.heap.size ≤ b := hwb
      have HZR := Lib.hid (show Rd b w10 (u8s (F z)) (As z) S from by
        have h5 := (HRS.out z hzN).above (b := b) hbv
        rw [HLS.out z hzN] at h5
        exact h5.below (below_tr HV.out V10.out))
      clear ht hr10 hf10 ht10 HC q1 q2 hz HROW HRD hin d0 d1 d2
      obtain ⟨d0, d1, d2⟩ := box_three (kept_box E0.out V10.out)
      go_wp2_with fail
      refine (add_any b (F z) (mulB (qP p).p (nP p) y (fun i => F I i ^^^ f i)) (HFF.out z) (fun j => mulB_lt _ _ _ _ j) (As z) A10 S S (Cs z) c10 hS2 _ (by omega) HZR.out HR10.out).mono ?_
      rintro e w11 ⟨t, v11, rfl, ht, A11, c11, rfl, hc11, hr11, hb11⟩
      obtain rfl : t = true := ht.2 rfl
      simp only [cond_true] at hr11 hc11 ⊢
      rw [show errOf true = 0 from rfl]
      have HSM11 := Lib.hid (HSM10.out.fst (Turned.of_below hb11))
      have hrow11 := HROW10.out.of_block (hb11.block _ (by omega))
      have k1 := hrow11.cell hzN
      have k2 := hrow11.frozen z
      have hF11 := (HF10.out.of_below hb11).setRow hrow11 (by decide) (by decide) (i := z) (.slice A11 S c11)
      have ht12 : Turned g w11 (w11.setCell ⟨g, z, none⟩ (.slice A11 S c11)) := (Turned.refl _ _).setCell z _
      have HSM12 := Lib.hid (HSM11.out.snd ht12)
      have HS12 := Lib.hid (show UpdLp p K M N b g S I w.heap.size F f w8 (.int .i64 ((j + 1 : Nat) : Int)) (w11.setCell ⟨g, z, none⟩ (.slice A11 S c11)) from by
        refine ⟨j + 1, hlt, rfl, hF11, HSM12.out, fun _ => HOK.out, fun r => if r = z then A11 else Bs r, fun r => if r = z then c11 else Ds r, _, hrow11.set z _, fun r hr => ?_, fun r hr x hx => ?_⟩
        · simp only [slis]
          by_cases e : r = z
          · rw [if_pos e, if_pos e, if_pos e]
          · rw [if_neg e, if_neg e, if_neg e, HK0.out r hr]
        · dsimp only
          by_cases e : r = z
          · rw [if_pos e]
            have h5 : ∀ y', y' < w10.heap.size → Rd y' w11 (u8s (updJ p K M F I f (j + 1) r)) A11 S := fun y' hy' => (hc11.2 y' hy').congr (fun i' _ => by
              simp only [u8s]
              unfold updJ updF
              have hz2 := HZ.out
              rw [if_pos (by omega), if_neg (by omega), if_neg (by omega), show r - K = j by omega, HY.out, e])
            exact rd_turn (h5 g (by omega)) (h5 x (by have := V10.out.size; rcases hx with hx | hx | hx <;> omega)) ht12
          · rw [if_neg e]
            have e1 : updJ p K M F I f (j + 1) r = updJ p K M F I f j r := by
              have hz2 := HZ.out
              unfold updJ
              by_cases e2 : r < K + j
              · rw [if_pos (by omega), if_pos e2]
              · rw [if_neg (by omega), if_neg e2]
            rw [e1]
            exact rd_turn ((HRD10.out r hr g (Or.inr (Or.inr rfl))).below hb11) ((HRD10.out r hr x hx).below hb11) ht12)
      clear ht hc11 hr11 hb11 hrow11 hF11 ht12 HSM12 HSM11
      go_wp2_with fail
      exact ⟨HS12.out, by simp [intOf]; omega⟩
    · obtain rfl : M = j := by omega
      have HQ := Lib.hid (show UpdSaid p K M I N nb As B Ls F f w (.returned (.tuple #[.slice (some ⟨g, 0, none⟩) N N, .int .i64 0])) wr from by
        have h5 := HUE.out (HEV.out (by omega)) HNS.out.symm
        have hn : updN p K M I N nb Ls = N := if_pos h5
        refine ⟨_, N, by rw [h5, hn], by rw [hn]; exact Nat.le_refl _, below_tr HV.out HB.out, fun x hx _ _ => ?_⟩
        rw [hn, Int.toNat_natCast, Int.toNat_natCast, Int.toNat_natCast, HS0.out]
        refine ⟨Bs, Ds, (Rd.of_row HROW.out (by omega) (Nat.le_refl _)).congr HK0.out, fun r hr => (HRD.out r hr x (Or.inl hx)).congr (fun j' _ => ?_)⟩
        simp only [u8s]
        unfold updJ
        rw [if_pos (by have := HNK.out; omega)])
      go_wp2_with fail
      go_ret2
      exact HQ.out
end Go.Proofs.YtgdgimknnjbieaaGreatDoor

namespace Go.Proofs.YtgdgimknnjbieaaGreatDoor
open Go.RowKit

def litA (j : Nat) : Nat := if j = 0 then 97 else if j = 1 then 98 else 0
def litX (j : Nat) : Nat := if j = 0 then 2 else if j = 1 then 6 else 0
/-- the two data shards -/
def litD (r : Nat) : Nat → Nat := if r = 0 then litX else litA
/-- the shards that are there -/
def litL (r : Nat) : Nat → Nat := if r = 2 then fun j => litX j ^^^ litA j else litA
theorem litA_lt (j : Nat) : litA j < 256 := by unfold litA; split; omega; split <;> omega
theorem litX_lt (j : Nat) : litX j < 256 := by unfold litX; split; omega; split <;> omega
theorem litD_lt (r j : Nat) : litD r j < 256 := by unfold litD; split; exact litX_lt j; exact litA_lt j
theorem litL_lt (r j : Nat) : litL r j < 256 := by unfold litL; split; exact Nat.xor_lt_two_pow (n := 8) (litX_lt j) (litA_lt j); exact litA_lt j
def hasF (r : Nat) : Bool := r != 0
def hasG (r : Nat) : Bool := r == 2
def lenF (r : Nat) : Nat := if r = 0 then 0 else 2
def lenG (r : Nat) : Nat := if r = 2 then 2 else 0
theorem lit_first : strF (rebF 1 2 1 3 hasF litL 0) 2 = ⟨#[2, 6]⟩ := by
  have h1 : rebF 1 2 1 (2 + 1) hasF litL 0 = shF 1 2 1 litD 0 := reb_any (p := 1) (K := 2) (m := 1) may121 (h := hasF) (by decide) litD_lt (fun r hr e => by
    have h2 : r = 1 ∨ r = 2 := by
      have h3 : r ≠ 0 := by rintro rfl; exact absurd e (by decide)
      omega
    rcases h2 with rfl | rfl
    · rfl
    · funext j
      show litX j ^^^ litA j = parF 1 2 1 litD 0 j
      rw [parF_ones may121 (Or.inl rfl) litD_lt]
      rfl) (by omega)
  rw [show (3 : Nat) = 2 + 1 from rfl, h1]
  have h2 : shF 1 2 1 litD 0 = litX := rfl
  rw [h2]
  decide

set_option maxRecDepth 100000 in
set_option maxHeartbeats 4000000 in
theorem awakeQ (w : World) (hT : Tab w) : Calls Tryz.prog 9 #[] w fun e w' => e = .returned (.bool true) ∧ Below w.heap.size w w' := by
  have kc := fun (w : World) (C : Array Value) (n c : Nat) => Lib.run_convert_bytes_const (P := Tryz.prog) w TBs TB C n c Tryz.underlying35 Tryz.underlying5
  have h0 := hT.lt
  obtain ⟨v1, hv1⟩ : ∃ v, w.alloc (.cells #[.int .i64 1, .int .i64 2, .int .i64 1] TPa) = v := ⟨_, rfl⟩
  obtain ⟨_, e0, hb1⟩ := one_box hv1
  have E0 := Lib.hid e0
  have hs1 : v1.heap.size = w.heap.size + 1 := by rw [← hv1]; simp
  obtain ⟨d0, d1, d2⟩ := box_three e0
  obtain ⟨v2, hv2⟩ : ∃ v, v1.alloc (.cells #[.int .u8 97, .int .u8 98] TB (2, 3)) = v := ⟨_, rfl⟩
  obtain ⟨v3, hv3⟩ : ∃ v, v2.alloc (.cells #[.int .u8 99, .int .u8 100] TB (2, 3)) = v := ⟨_, rfl⟩
  have k1 := kc v1 #[.int .u8 97, .int .u8 98] 2 2
  have k2 := kc v2 #[.int .u8 99, .int .u8 100] 2 2
  rw [show (#[Value.int IntKind.u8 97, .int .u8 98] : Array Value).size = 2 from rfl, hv2, hs1] at k1
  rw [show (#[Value.int IntKind.u8 99, .int .u8 100] : Array Value).size = 2 from rfl, hv3] at k2
  obtain ⟨v5, hv5⟩ : ∃ v, (v3.alloc (.cells #[nilS, .slice (some ⟨w.heap.size + 1, 0, none⟩) 2 2, .slice (some ⟨v2.heap.size, 0, none⟩) 2 2] TBs)).alloc (.cells #[.bool false, .bool true, .bool true] TBo) = v := ⟨_, rfl⟩
  have hb12 : Below v1.heap.size v1 v2 := by rw [← hv2]; exact below_alloc _ _
  have hb23 : Below v2.heap.size v2 v3 := by rw [← hv3]; exact below_alloc _ _
  have hb35 : Below v3.heap.size v3 v5 := by rw [← hv5]; exact (below_alloc v3 _).alloc (by simp) _
  have hs2 : v2.heap.size = w.heap.size + 1 + 1 := by rw [← hv2]; simp [hs1]
  have hs3 : v3.heap.size = w.heap.size + 1 + 1 + 1 := by rw [← hv3]; simp [hs2]
  have r1 : Rd 0 v2 (u8s litA) (some ⟨w.heap.size + 1, 0, none⟩) 2 := fun _ => by
    refine ⟨_, rfl, by simp, by rw [hs2]; simp, fun j hj => ?_⟩
    rw [← hv2, ← hs1, show (⟨v1.heap.size, 0, none⟩ : Addr).add j = ⟨v1.heap.size, j, none⟩ by unfold Addr.add; split <;> simp_all, World.cell?_alloc_mark]
    match j, hj with
    | 0, _ => rfl
    | 1, _ => rfl
  have r2 : Rd 0 v3 (u8s (litL 2)) (some ⟨v2.heap.size, 0, none⟩) 2 := fun _ => by
    refine ⟨_, rfl, by show v2.heap.size ≠ 0; rw [hs2]; omega, by rw [hs3, hs2]; simp, fun j hj => ?_⟩
    rw [← hv3, show (⟨v2.heap.size, 0, none⟩ : Addr).add j = ⟨v2.heap.size, j, none⟩ by unfold Addr.add; split <;> simp_all, World.cell?_alloc_mark]
    match j, hj with
    | 0, _ => rfl
    | 1, _ => rfl
  have r3 : Rd 0 v5 (slis (fun r => if r = 0 then none else if r = 1 then some ⟨w.heap.size + 1, 0, none⟩ else some ⟨v2.heap.size, 0, none⟩) lenF lenF) (some ⟨v3.heap.size, 0, none⟩) 3 := by
    rw [← hv5]
    exact Rd.of_row (World.rowIs.alloc (World.rowIs_alloc v3 _ TBs _ (fun i hi => by
      simp at hi
      match i, hi with
      | 0, _ => rfl
      | 1, _ => rfl
      | 2, _ => rfl)) _) (by omega) (by simp)
  have r4 : Rd 0 v5 (bls hasF) (some ⟨v3.heap.size + 1, 0, none⟩) 3 := by
    rw [← hv5]
    have h5 := World.rowIs_alloc (v3.alloc (.cells #[nilS, .slice (some ⟨w.heap.size + 1, 0, none⟩) 2 2, .slice (some ⟨v2.heap.size, 0, none⟩) 2 2] TBs)) #[.bool false, .bool true, .bool true] TBo (bls hasF) (fun i hi => by
      simp at hi
      match i, hi with
      | 0, _ => rfl
      | 1, _ => rfl
      | 2, _ => rfl)
    rw [World.size_alloc] at h5
    exact Rd.of_row h5 (by omega) (by simp)
  have hb25 := below_tr hb23 hb35
  have hb15 := below_tr hb12 hb25
  have HV5 := Lib.hid (show Below w.heap.size w v5 from below_tr hb1 hb15)
  have E5 := Lib.hid (kept_box E0.out hb15)
  have HT5 := Lib.hid (hT.below HV5.out)
  have HRS := Lib.hid (show ∀ r, r < 3 → hasF r = true → Rd 0 v5 (u8s (litL r)) (if r = 0 then none else if r = 1 then some ⟨w.heap.size + 1, 0, none⟩ else some ⟨v2.heap.size, 0, none⟩) (lenF r) from fun r hr e => by
    have h2 : r = 1 ∨ r = 2 := by
      have h3 : r ≠ 0 := by rintro rfl; exact absurd e (by decide)
      omega
    rcases h2 with rfl | rfl
    · exact r1.below hb25
    · exact r2.below hb35)
  have HQ := Lib.hid (reb13 0 1 2 1 _ lenF lenF litL litL_lt (some ⟨v3.heap.size, 0, none⟩) 3 3 hasF (fun r _ _ => by unfold lenF; split <;> omega) (some ⟨v3.heap.size + 1, 0, none⟩) 3 3 v5 HT5.out (by have := HV5.out.size; omega) r3 HRS.out r4)
  have hd1 : datE 1 2 1 3 3 hasF lenF = 0 := datE_ok ⟨may121, rfl, rfl⟩ (by decide) (fun r hr => by
    have h7 : cntT hasF 3 = 2 := by decide
    have h8 : r = 0 ∨ r = 1 := by omega
    rcases h8 with rfl | rfl <;> exact ⟨by decide, by decide⟩)
  have HD1 := Lib.hid hd1
  have hv5z := HV5.out.size
  clear hs1 hs2 hs3 hb12 hb23 hb35 hb25 hb15 r1 r2 r3 r4 hd1 hb1 e0 E0
  go_enter Tryz.func9, Tryz.ntmps9
  go_wp2_with fail
  refine HQ.out.mono ?_
  rintro e w1 ⟨A1, c1, rfl, hc1, hb1, hx1⟩
  have hn1 : rebN 1 2 1 3 3 hasF lenF = 3 := if_pos HD1.out
  rw [hn1] at hc1 hx1
  rw [hn1, HD1.out]
  have H1 := Lib.hid (below_tr HV5.out hb1)
  have E1 := Lib.hid (kept_box E5.out hb1)
  have HT1 := Lib.hid (HT5.out.below hb1)
  obtain ⟨As, Cs, g1, g2⟩ := hx1 0 (by omega) HRS.out
  rw [show lenF (atT hasF 3 0) = 2 by decide] at g1 g2
  have HG1 := Lib.hid g1
  have HG2 := Lib.hid (g2 0 (by omega))
  have h1z := H1.out.size
  clear g1 g2 hx1 hb1 hn1 HQ HRS HT5 E5 k1 k2 hv1 hv2 hv3 hv5 d0 d1 d2
  obtain ⟨d0, d1, d2⟩ := box_three E1.out
  obtain ⟨v6, hv6⟩ : ∃ v, w1.alloc (.cells #[.int .u8 99, .int .u8 100] TB (2, 3)) = v := ⟨_, rfl⟩
  have k3 := kc w1 #[.int .u8 99, .int .u8 100] 2 2
  rw [show (#[Value.int IntKind.u8 99, .int .u8 100] : Array Value).size = 2 from rfl, hv6] at k3
  obtain ⟨v7, hv7⟩ : ∃ v, (v6.alloc (.cells #[nilS, nilS, .slice (some ⟨w1.heap.size, 0, none⟩) 2 2] TBs)).alloc (.cells #[.bool false, .bool false, .bool true] TBo) = v := ⟨_, rfl⟩
  have hb16 : Below w1.heap.size w1 v6 := by rw [← hv6]; exact below_alloc _ _
  have hb67 : Below v6.heap.size v6 v7 := by rw [← hv7]; exact (below_alloc v6 _).alloc (by simp) _
  have hs6 : v6.heap.size = w1.heap.size + 1 := by rw [← hv6]; simp
  have r2 : Rd 0 v6 (u8s (litL 2)) (some ⟨w1.heap.size, 0, none⟩) 2 := fun _ => by
    refine ⟨_, rfl, by show w1.heap.size ≠ 0; omega, by rw [hs6]; simp, fun j hj => ?_⟩
    rw [← hv6, show (⟨w1.heap.size, 0, none⟩ : Addr).add j = ⟨w1.heap.size, j, none⟩ by unfold Addr.add; split <;> simp_all, World.cell?_alloc_mark]
    match j, hj with
    | 0, _ => rfl
    | 1, _ => rfl
  have r3 : Rd 0 v7 (slis (fun r => if r = 2 then some ⟨w1.heap.size, 0, none⟩ else none) lenG lenG) (some ⟨v6.heap.size, 0, none⟩) 3 := by
    rw [← hv7]
    exact Rd.of_row (World.rowIs.alloc (World.rowIs_alloc v6 _ TBs _ (fun i hi => by
      simp at hi
      match i, hi with
      | 0, _ => rfl
      | 1, _ => rfl
      | 2, _ => rfl)) _) (by omega) (by simp)
  have r4 : Rd 0 v7 (bls hasG) (some ⟨v6.heap.size + 1, 0, none⟩) 3 := by
    rw [← hv7]
    have h5 := World.rowIs_alloc (v6.alloc (.cells #[nilS, nilS, .slice (some ⟨w1.heap.size, 0, none⟩) 2 2] TBs)) #[.bool false, .bool false, .bool true] TBo (bls hasG) (fun i hi => by
      simp at hi
      match i, hi with
      | 0, _ => rfl
      | 1, _ => rfl
      | 2, _ => rfl)
    rw [World.size_alloc] at h5
    exact Rd.of_row h5 (by omega) (by simp)
  have HB7 := Lib.hid (below_tr hb16 hb67)
  have HQ := Lib.hid (reb13 0 1 2 1 _ lenG lenG litL litL_lt (some ⟨v6.heap.size, 0, none⟩) 3 3 hasG (fun r _ _ => by unfold lenG; split <;> omega) (some ⟨v6.heap.size + 1, 0, none⟩) 3 3 v7 (HT1.out.below HB7.out) (by have := HB7.out.size; omega) r3 (fun r hr e => by
    obtain rfl : r = 2 := by
      rcases Nat.lt_or_ge r 2 with h3 | h3
      · have h4 : r = 0 ∨ r = 1 := by omega
        rcases h4 with rfl | rfl <;> exact absurd e (by decide)
      · omega
    exact r2.below hb67) r4)
  have HD2 := Lib.hid (show datE 1 2 1 3 3 hasG lenG = 5 from datE_few ⟨may121, rfl, rfl⟩ (by decide))
  clear hs6 hb16 hb67 r2 r3 r4 HT1
  go_wp2_with fail
  refine HQ.out.mono ?_
  rintro e w2 ⟨A2, c2, rfl, _, hb2, _⟩
  rw [HD2.out]
  have HB2 := Lib.hid (below_tr HB7.out hb2)
  have H2 := Lib.hid (below_tr H1.out HB2.out)
  have g1 := HG1.out.below HB2.out
  have hc5 := conv_rd (Cs 0) (HG2.out.below HB2.out)
  rw [show strF (rebF 1 (2 : Int).toNat (1 : Int).toNat 3 hasF litL 0) 2 = strF (rebF 1 2 1 3 hasF litL 0) 2 from rfl, lit_first] at hc5
  obtain ⟨ad, rfl, c4⟩ := g1.at_ (show 0 < 3 by omega)
  rw [show ad.add 0 = ad by simp [Addr.add]] at c4
  simp only [slis] at c4
  clear hb2 g1 HQ HG1 HG2 kc k3 hv6 hv7 d0 d1 d2
  go_wp2_with fail
  go_ret
  exact ⟨rfl, H2.out⟩
end Go.Proofs.YtgdgimknnjbieaaGreatDoor
