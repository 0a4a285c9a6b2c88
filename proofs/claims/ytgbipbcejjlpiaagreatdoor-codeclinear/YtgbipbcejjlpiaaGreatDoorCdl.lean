/- Layer 11: contracts of Encode and Verify. -/
import Derived.Test.YtgbipbcejjlpiaaGreatDoorCdk
namespace Go.Proofs.YtgbipbcejjlpiaaGreatDoor
open Go.RowKit

/-- what Encode tells; its rows have room for all their bytes -/
def EncC (p k m : Int) (n : Nat) (f : Nat → Nat) (w : World) (e : Ending) (w' : World) : Prop := EncSaid p k m n f w e w' ∧ OutCaps e w'

set_option maxRecDepth 100000 in
set_option maxHeartbeats 4000000 in
theorem enc16' (b : Nat) (p k m : Int) (f : Nat → Nat) (hf : ∀ j, f j < 256) (B : Option Addr) (n cb : Nat) (hn : n ≤ 900) (w : World) (hT : Tab w) (hr : Rd b w (u8s f) B n) :
    Calls Tryz.prog 16 #[.agg (parA p k m), .slice B n cb] w (EncC p k m n f w) := by
  obtain ⟨v, hv⟩ : ∃ v, w.alloc (.cells #[.int .i64 p, .int .i64 k, .int .i64 m] TPa) = v := ⟨_, rfl⟩
  obtain ⟨_, e0, hbv⟩ := one_box hv
  have E0 := Lib.hid e0
  have HV := Lib.hid hbv
  have hp0 := hT.lt
  have HT := Lib.hid (hT.below hbv)
  have HS := Lib.hid (split12' b p k m f B n cb v HT.out (hr.below hbv))
  unfold SplitSaidC SplitSaid at HS
  obtain ⟨d0, d1, d2⟩ := box_three e0
  clear e0 hbv hr hT
  by_cases hE : szE p k m n = 0
  · obtain ⟨K, rfl, k1, k8, hn2, hm⟩ := sz_ok hE
    obtain ⟨M, rfl⟩ : ∃ M : Nat, m = M := ⟨m.toNat, by have := hm.2.2.1; omega⟩
    have HP := Lib.hid hm
    have hS2 : szN p K M n ≤ 1000 := by
      rw [(szE_ok hm hn2).1]
      have h1 := szU_le (u := unitL (layI p)) (K := K) (m := aheadL (layI p) + n) (unitL_pos _).1 k1
      have h2 := (unitL_pos (layI p)).2
      have h3 := aheadL_le (layI p)
      omega
    have HSE := Lib.hid (sz_even hE)
    have HEE := Lib.hid (show ∀ v w', RowsTold (K + M) (encF p K M (szN p K M n) n f) (fun _ => szN p K M n) w v w' → OutCaps (.returned (.tuple #[v, .int .i64 0])) w' → EncC p K M n f w (.returned (.tuple #[v, .int .i64 0])) w' from fun v w' h hc => ⟨⟨v, by rw [hE], by
      unfold encN
      rw [if_pos hE, Int.toNat_natCast, Int.toNat_natCast]
      exact h⟩, hc⟩)
    have hSN : splN p K M n = K := (if_pos hE).trans (Int.toNat_natCast K)
    rw [hE, hSN] at HS
    obtain ⟨S, hSS⟩ : ∃ S, szN p K M n = S := ⟨_, rfl⟩
    rw [hSS] at HS HSE HEE hS2
    have HFF := Lib.hid (fun r j => splF_lt (p := p) (S := S) (n := n) hf r j)
    have HCE := Lib.hid (show codF p K M (splF p S n f) = encF p K M S n f from rfl)
    obtain ⟨G, hG⟩ : ∃ G, splF p S n f = G := ⟨_, rfl⟩
    rw [hG] at HS HFF HCE
    clear hm hE hSN hSS hG hn2 hf
    go_enter Tryz.func16, Tryz.ntmps16
    go_wp2_with fail
    refine HS.out.mono ?_
    rintro e w1 ⟨⟨v1, rfl, A1, c1, rfl, hc1, hx1, hb1⟩, hcp⟩
    have HCP := Lib.hid (hcp _ _ _ _ rfl)
    clear hcp
    have H1 := Lib.hid (below_tr HV.out hb1)
    have HT1 := Lib.hid (HT.out.below hb1)
    have E1 := Lib.hid (kept_box E0.out hb1)
    have hvz := HV.out.size
    have h1z := H1.out.size
    obtain ⟨As, Cs, hxx⟩ := rows_at (H := w.heap.size) (fun g hg => hx1 g (by omega)) hp0
    have HXX := Lib.hid hxx
    clear hb1 d0 d1 d2 hx1 hxx HS E0 HT
    obtain ⟨d0, d1, d2⟩ := box_three E1.out
    go_wp2_with fail
    refine (coded29 0 p K M HP.out As (fun _ => S) Cs G HFF.out A1 K c1 (Nat.le_refl _) hc1 (fun _ _ => hS2) _ HT1.out (HXX.out 0 hp0).1 (HXX.out 0 hp0).2).mono ?_
    rintro e w2 ⟨t, A2, c2, rfl, ht, hc2, hb2, hx2, hcp⟩
    obtain rfl : t = true := ht.2 (fun _ _ => ⟨rfl, HSE.out⟩)
    simp only [cond_true] at hc2 hx2 ⊢
    rw [show errOf true = 0 from rfl]
    have HQ := Lib.hid (HEE.out (.slice A2 (K + M) c2) w2 ⟨A2, c2, rfl, hc2, fun x hx => by rw [← HCE.out]; exact hx2 trivial x (by omega) (HXX.out x hx).2, below_tr H1.out hb2⟩ (OutCaps.of (hcp rfl (fun r hr => HCP.out.room (HXX.out 0 hp0).1 hr))))
    clear ht hc2 hb2 hx2 hcp d0 d1 d2
    go_wp2_with fail
    go_ret2
    exact HQ.out
  · have HEE := Lib.hid (show ∀ w', Below w.heap.size w w' → EncC p k m n f w (.returned (.tuple #[nilS, .int .i64 (szE p k m n)])) w' from fun w' h => ⟨⟨_, rfl, by
      unfold encN
      rw [if_neg hE]
      exact RowsTold.nil h⟩, OutCaps.of (Caps.zero _ _)⟩)
    obtain ⟨x, hx⟩ : ∃ x, szE p k m n = x := ⟨_, rfl⟩
    rw [hx] at HEE HS hE
    have hne : (x != 0) = true := by simp [hE]
    clear hx hE
    go_enter Tryz.func16, Tryz.ntmps16
    go_wp2_with fail
    refine HS.out.mono ?_
    rintro e w1 ⟨⟨v1, rfl, A1, c1, rfl, hc1, hx1, hb1⟩, _⟩
    have H1 := Lib.hid (below_tr HV.out hb1)
    clear hb1 d0 d1 d2 hx1 HS E0
    go_wp2_with fail
    go_ret2
    exact HEE.out _ H1.out
theorem enc16 (b : Nat) (p k m : Int) (f : Nat → Nat) (hf : ∀ j, f j < 256) (B : Option Addr) (n cb : Nat) (hn : n ≤ 900) (w : World) (hT : Tab w) (hr : Rd b w (u8s f) B n) :
    Calls Tryz.prog 16 #[.agg (parA p k m), .slice B n cb] w (EncSaid p k m n f w) := (enc16' b p k m f hf B n cb hn w hT hr).mono fun _ _ h => h.1

theorem cod_same {p : Int} {K M : Nat} {Ls : Nat → Nat} {F : Nat → Nat → Nat} (h : mayX p K M) (he : evenP p K Ls) :
    sameP (K + M) (K + M) (fun _ => Ls 0) Ls (codF p K M F) F ↔ verP p K M (K + M) Ls F := by
  constructor
  · rintro ⟨_, h2⟩
    refine ⟨h, by omega, by rw [Int.toNat_natCast]; exact he, fun i hi => ?_⟩
    rw [Int.toNat_natCast] at hi ⊢
    rw [Int.toNat_natCast]
    have h3 := h2 (K + i) (by omega)
    refine ⟨h3.1.symm, fun j hj => ?_⟩
    have h4 := h3.2 j hj
    unfold codF at h4
    rw [if_neg (by omega), Nat.add_sub_cancel_left] at h4
    exact h4.symm
  · rintro ⟨_, _, _, h4⟩
    refine ⟨rfl, fun r hr => ?_⟩
    by_cases hrK : r < K
    · exact ⟨(he r hrK).1.symm, fun j _ => by unfold codF; rw [if_pos hrK]⟩
    · obtain ⟨q, rfl⟩ : ∃ q, r = K + q := ⟨r - K, by omega⟩
      have h5 := h4 q (by rw [Int.toNat_natCast]; omega)
      rw [Int.toNat_natCast, Int.toNat_natCast] at h5
      refine ⟨h5.1.symm, fun j hj => ?_⟩
      unfold codF
      rw [if_neg (by omega), Nat.add_sub_cancel_left]
      exact (h5.2 j hj).symm

set_option maxRecDepth 100000 in
set_option maxHeartbeats 4000000 in
theorem ver14 (b : Nat) (p k m : Int) (As : Nat → Option Addr) (Ls Cs : Nat → Nat) (F : Nat → Nat → Nat) (hF : ∀ r j, F r j < 256) (A : Option Addr) (N c : Nat) (hN : N ≤ 100000) (hNc : N ≤ c) (hL : ∀ r, r < N → Ls r ≤ 1000) (w : World) (hT : Tab w) (h0 : b < w.heap.size)
    (hr : Rd b w (slis As Ls Cs) A N) (hrs : ∀ r, r < N → Rd b w (u8s (F r)) (As r) (Ls r)) :
    Calls Tryz.prog 14 #[.agg (parA p k m), .slice A N c] w (VerSaid p k m N Ls F w) := by
  obtain ⟨v, hv⟩ : ∃ v, w.alloc (.cells #[.int .i64 p, .int .i64 k, .int .i64 m] TPa) = v := ⟨_, rfl⟩
  obtain ⟨_, e0, hbv⟩ := one_box hv
  have E0 := Lib.hid e0
  have HV := Lib.hid hbv
  have HT := Lib.hid (hT.below hbv)
  have HR := Lib.hid hr
  have HRS := Lib.hid hrs
  have HL := Lib.hid hL
  have HFF := Lib.hid hF
  obtain ⟨d0, d1, d2⟩ := box_three e0
  clear e0 hbv hr hrs hL hF hT
  go_enter Tryz.func14, Tryz.ntmps14
  go_wp2_with fail
  refine (may15 p k m _ HT.out).mono ?_
  rintro e w1 ⟨t, rfl, ht, hb1⟩
  have H1 := Lib.hid (below_tr HV.out hb1)
  have HT1 := Lib.hid (HT.out.below hb1)
  have E1 := Lib.hid (kept_box E0.out hb1)
  have HM := Lib.hid ht
  clear ht hb1 d0 d1 d2 HT
  obtain ⟨d0, d1, d2⟩ := box_three E1.out
  cases t
  · have HE := Lib.hid (VerSaid.no (F := F) (p := p) (k := k) (m := m) (N := N) (Ls := Ls) (fun h => by have := HM.out.2 h.1; cases this) H1.out)
    go_wp2_with fail
    go_ret
    exact HE.out
  have HP := Lib.hid (HM.out.1 rfl)
  obtain ⟨K, rfl⟩ : ∃ K : Nat, k = K := ⟨k.toNat, by have := HP.out.2.1; omega⟩
  obtain ⟨M, rfl⟩ : ∃ M : Nat, m = M := ⟨m.toNat, by have := HP.out.2.2.1; omega⟩
  have hK := HP.out.2.1
  have hM := (max_pos HP.out.1).2
  have hM2 := HP.out.2.2
  by_cases hk : N = K + M
  · subst hk
    have hnn : ((((K + M : Nat) : Nat) : Int) != ((K : Int) + (M : Int))) = false := by simp
    go_wp2_with fail
    refine (coded29 b p K M HP.out As Ls Cs F HFF.out A (K + M) c (by omega) hNc (fun r hr => HL.out r (by omega)) _ HT1.out ((HR.out.below H1.out).take (by omega)) (fun r hr => (HRS.out r (by omega)).below H1.out)).mono ?_
    rintro e w2 ⟨t, A2, c2, rfl, ht, hc2, hb2, hx2, _⟩
    have H2 := Lib.hid (below_tr H1.out hb2)
    have h1z := H1.out.size
    have HT2 := Lib.hid ht
    have HX2 := Lib.hid (show t = true → Bx b w2 (codF p K M F) (fun _ => Ls 0) A2 (K + M) from fun h => hx2 h b (by omega) (fun r hr => (HRS.out r (by omega)).below H1.out))
    clear ht hb2 hx2 hc2 d0 d1 d2
    cases t
    · have HE := Lib.hid (VerSaid.no (F := F) (p := p) (k := K) (m := M) (N := K + M) (Ls := Ls) (fun h => by
        have := HT2.out.2 (by have h3 := h.2.2.1; rw [Int.toNat_natCast] at h3; exact h3)
        cases this) H2.out)
      simp only [cond_false]
      rw [show errOf false = 1 from rfl]
      go_wp2_with fail
      go_ret
      exact HE.out
    · simp only [cond_true]
      rw [show errOf true = 0 from rfl]
      have HEV := Lib.hid (HT2.out.1 rfl)
      have HSM := Lib.hid (equal33 b b (codF p K M F) F (fun r j => by unfold codF; split; exact HFF.out r j; exact parF_lt _ _) (fun r j => HFF.out r j) (fun _ => Ls 0) Ls A2 A (K + M) (K + M) c2 c (by omega) w2 (HX2.out rfl) ⟨As, Cs, HR.out.below H2.out, fun r hr => (HRS.out r hr).below H2.out⟩)
      clear HX2
      go_wp2_with fail
      refine HSM.out.mono ?_
      rintro e w3 ⟨t, rfl, ht, hb3⟩
      have HE := Lib.hid (show VerSaid p K M (K + M) Ls F w (.returned (.bool t)) w3 from ⟨t, rfl, ht.trans (cod_same HP.out HEV.out), below_tr H2.out hb3⟩)
      clear ht hb3
      go_wp2_with fail
      go_ret
      exact HE.out
  · have hne : (((N : Nat) : Int) != ((K : Int) + (M : Int))) = true := by simp; omega
    have HE := Lib.hid (VerSaid.no (F := F) (p := p) (k := K) (m := M) (N := N) (Ls := Ls) (fun h => hk (by have := h.2.1; omega)) H1.out)
    go_wp2_with fail
    go_ret
    exact HE.out
end Go.Proofs.YtgbipbcejjlpiaaGreatDoor
