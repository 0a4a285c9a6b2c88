/- Layer 11: contracts of dataOf, coded, Encode and Verify. Layer 11: contracts of Encode and Verify. Layer 11's own first test. Layer 11: exclusive or of the first rows, byte by byte: plain mathematics. -/
import Derived.Test.YtgdgimknnjbieaaGreatDoorGyc
import Derived.Test.YtgdgimknnjbieaaGreatDoorGyb
import Derived.ArgAppend
import Derived.Deep.RegionHeld3
import Derived.BigQuiet
import Derived.Lib.SlBytesConst
import Derived.Test.YtgdgimknnjbieaaGreatDoorGya

namespace Go.Proofs.YtgdgimknnjbieaaGreatDoor
open Go.RowKit

set_option maxRecDepth 100000 in
/-- 's[:k:k]' -/
theorem run_headS3 (A : Option Addr) (q c k : Nat) (h : k ≤ c) (w : World) : (Instr.slice TRs (.slice A q c) none (some (.int .i64 (k : Int))) (some (.int .i64 (k : Int)))).run Tryz.prog w = .ok (.slice A k k) w := by
  have hu : Tryz.prog.underlying TRs = some (.slice (Tryz.prog.elem TRs)) := by rw [elemS]; exact Tryz.underlying24
  rw [run_slice_hm w TRs A q c hu .i64 .i64 (k : Int) (k : Int) (by omega) (by omega) (by omega), elemS, sizeS]
  cases A <;> simp [Result.andThen, sliced, Addr.add]
theorem data55 (p m : Int) (A : Option Addr) (N c K : Nat) (hK : K ≤ c) (w : World) :
    Calls Tryz.prog 94 #[.agg (parA p K m), .slice A N c] w fun e w' => e = .returned (.slice A K K) ∧ Below w.heap.size w w' := by
  have hs := run_headS3 A N c K hK
  obtain ⟨v, hv⟩ : ∃ v, w.alloc (.cells #[.int .i64 p, .int .i64 K, .int .i64 m] TPa) = v := ⟨_, rfl⟩
  obtain ⟨_, e0, hbv⟩ := one_box hv
  have HV := Lib.hid hbv
  obtain ⟨d0, d1, d2⟩ := box_three e0
  clear e0 hbv
  go_enter Tryz.func94, Tryz.ntmps94
  go_wp2_with fail
  go_ret
  exact ⟨rfl, HV.out⟩

/-- data shards, and parity behind -/
def codF (p : Int) (K M : Nat) (F : Nat → Nat → Nat) : Nat → Nat → Nat := fun r j => if r < K then F r j else parF p K M F (r - K) j
/-- what coded tells of K shards at As: they, and parity behind; apart from what they lie apart from -/
def CodSaid (p : Int) (K M : Nat) (As : Nat → Option Addr) (Ls Cs : Nat → Nat) (F : Nat → Nat → Nat) (w : World) (e : Ending) (w' : World) : Prop :=
  ∃ t A c, e = .returned (.tuple #[.slice A (cond t (K + M) 0) c, .int .i64 (errOf t)]) ∧ (t = true ↔ evenP p K Ls) ∧ cond t (K + M) 0 ≤ c ∧ Below w.heap.size w w' ∧
    (t = true → ∀ x, x < w.heap.size → (∀ r, r < K → Rd x w (u8s (F r)) (As r) (Ls r)) → Bx x w' (codF p K M F) (fun _ => Ls 0) A (K + M)) ∧
    (t = true → (∀ r, r < K → Ls r ≤ Cs r) → Caps w' A (K + M))
theorem cod_bx {p : Int} {K M : Nat} {F : Nat → Nat → Nat} {As Bs : Nat → Option Addr} {Ls Cs Ds : Nat → Nat} {x : Nat} {w w2 w3 : World} {v : Value} (hev : ∀ r, r < K → Ls r = Ls 0) (h2 : Below w.heap.size w w2) (hx : x < w.heap.size)
    (hown : w3.ownsRow w2.heap.size TBs 1 v (K + M) ((List.range K).map (slis As Ls Cs) ++ (List.range M).map (slis Bs (fun _ => Ls 0) Ds))) (hb : Below w2.heap.size w2 w3)
    (hA : ∀ r, r < K → Rd x w (u8s (F r)) (As r) (Ls r)) (hB : ∀ r, r < M → Rd x w2 (u8s (parF p K M F r)) (Bs r) (Ls 0)) :
    ∃ A c, v = .slice A (K + M) c ∧ K + M ≤ c ∧ Bx x w3 (codF p K M F) (fun _ => Ls 0) A (K + M) := by
  have e1 : (List.range K).map (slis As Ls Cs) = (List.range K).map (slis As (fun _ => Ls 0) Cs) := range_congr (fun j hj => by simp only [slis]; rw [hev j hj])
  rw [e1, slis_cat] at hown
  obtain ⟨A, c, e, hc, h5⟩ := Rd.of_own hown (show x < w2.heap.size from Nat.lt_of_lt_of_le hx h2.size)
  refine ⟨A, c, e, hc, catC K As Bs, catC K Cs Ds, h5, fun r hr => ?_⟩
  by_cases hrK : r < K
  · rw [catC_lt hrK]
    have h6 := ((hA r hrK).below h2).below hb
    rw [hev r hrK] at h6
    exact h6.congr (fun j _ => by simp only [u8s]; unfold codF; rw [if_pos hrK])
  · obtain ⟨q, rfl⟩ : ∃ q, r = K + q := ⟨r - K, by omega⟩
    rw [catC_ge]
    exact ((hB q (by omega)).below hb).congr (fun j _ => by simp only [u8s]; unfold codF; rw [if_neg (by omega), Nat.add_sub_cancel_left])

set_option maxRecDepth 100000 in
set_option maxHeartbeats 4000000 in
theorem coded29 (x0 : Nat) (p : Int) (K M : Nat) (hX : mayX p K M) (As : Nat → Option Addr) (Ls Cs : Nat → Nat) (F : Nat → Nat → Nat) (hF : ∀ r j, F r j < 256) (A : Option Addr) (N c : Nat) (hKN : K ≤ N) (hNc : N ≤ c) (hL : ∀ r, r < K → Ls r ≤ 1000) (w : World) (hT : Tab w)
    (hr : Rd x0 w (slis As Ls Cs) A K) (hrs : ∀ r, r < K → Rd x0 w (u8s (F r)) (As r) (Ls r)) :
    Calls Tryz.prog 52 #[.agg (parA p K M), .slice A N c] w (CodSaid p K M As Ls Cs F w) := by
  obtain ⟨i0, hi, hz0, hz1, hz2⟩ := info_parts infoS
  have hK1 := hX.2.1
  have hM1 := hX.2.2.1
  have hM4 : M ≤ 4 := by have := (max_pos hX.1).2; have := hX.2.2.2; omega
  have h0 := hT.lt
  obtain ⟨v, hv⟩ : ∃ v, w.alloc (.cells #[.int .i64 p, .int .i64 K, .int .i64 M] TPa) = v := ⟨_, rfl⟩
  obtain ⟨_, e0, hbv⟩ := one_box hv
  have E0 := Lib.hid e0
  have HV := Lib.hid hbv
  have HT := Lib.hid (hT.below hbv)
  have HX := Lib.hid hX
  have HR := Lib.hid hr
  have HRS := Lib.hid hrs
  have HL := Lib.hid hL
  have HFF := Lib.hid hF
  obtain ⟨d0, d1, d2⟩ := box_three e0
  clear e0 hbv hr hrs hL hF hT hX
  go_enter Tryz.func52, Tryz.ntmps52
  go_wp2_with fail
  refine (data55 p M A N c K (by omega) _).mono ?_
  rintro e w1 ⟨rfl, hb1⟩
  have H1 := Lib.hid (below_tr HV.out hb1)
  have HT1 := Lib.hid (HT.out.below hb1)
  have E1 := Lib.hid (kept_box E0.out hb1)
  clear hb1 d0 d1 d2 E0 HT
  obtain ⟨d0, d1, d2⟩ := box_three E1.out
  go_wp2_with fail
  refine (par11' x0 p K M As Ls Cs F HFF.out A K K (by omega) (Nat.le_refl _) HL.out _ HT1.out (HR.out.below H1.out) (fun r hr => (HRS.out r hr).below H1.out)).mono ?_
  rintro e w2 ⟨⟨t, v2, rfl, ht, A2, c2, rfl, hc2, hx2, hb2⟩, hcp⟩
  have HCP := Lib.hid (hcp _ _ _ _ rfl)
  have H2 := Lib.hid (below_tr H1.out hb2)
  have h1z := H1.out.size
  have h2z := H2.out.size
  have HP := Lib.hid (show t = true ↔ evenP p K Ls from ht.trans ⟨fun h => h.2.2, fun h => ⟨HX.out, rfl, h⟩⟩)
  have HR2 := Lib.hid (HR.out.below H2.out)
  have HX2 := Lib.hid hx2
  clear hb2 d0 d1 d2 ht HR hx2 hcp
  cases t
  · have HE := Lib.hid (show CodSaid p K M As Ls Cs F w (.returned (.tuple #[nilS, .int .i64 1])) w2 from ⟨false, none, 0, rfl, HP.out, Nat.le_refl _, H2.out, fun h => (by cases h), fun h => (by cases h)⟩)
    simp only [cond_false] at hc2 ⊢
    rw [show errOf false = 1 from rfl]
    go_wp2_with fail
    go_ret2
    exact HE.out
  · simp only [cond_true, Int.toNat_natCast] at hc2 HX2 ⊢
    rw [show errOf true = 0 from rfl]
    have HEV := Lib.hid (HP.out.1 rfl)
    obtain ⟨Bs, Ds, hyy⟩ := rows_at HX2.out (show 0 < w1.heap.size by omega)
    have HYY := Lib.hid hyy
    have HDS := Lib.hid (show ∀ r, r < M → Ls 0 ≤ Ds r from fun r hr => by have := HCP.out; simp only [cond_true, Int.toNat_natCast] at this; exact this.room (hyy 0 (by omega)).1 hr)
    obtain ⟨ad, hA2, hcells⟩ : ∃ ad, A2 = some ad ∧ ∀ j u, ((List.range M).map (slis Bs (fun _ => Ls 0) Ds))[j]? = some u → w2.cell? (ad.add j) = some u := by
      obtain ⟨ad, e, _⟩ := (hyy 0 (by omega)).1 (by omega)
      subst e
      exact ⟨ad, rfl, cells_rd (hyy 0 (by omega)).1⟩
    subst hA2
    have HCL := Lib.hid hcells
    have HOL := Lib.hid (show ∀ b, A = some b → ∀ j u, ((List.range K).map (slis As Ls Cs))[j]? = some u → w2.cell? (b.add j) = some u from fun b e => by subst e; exact cells_rd HR2.out)
    have HNN := Lib.hid (show A = none → K = 0 ∧ K = 0 from fun e => by
      obtain ⟨_, e', _⟩ := HR2.out (by omega)
      rw [e] at e'
      cases e')
    clear hyy hcells HX2 HP
    go_wp2_with (at_builtin; refine wpList_append_grows _ rfl _ _ TRs rfl TBs i0 nilS 1 24 Tryz.underlying24 hi hz0 hz1 hz2 rfl (by decide) A K K ((List.range K).map (slis As Ls Cs)) rfl HNN.out (by simp) HOL.out ad M c2 ((List.range M).map (slis Bs (fun _ => Ls 0) Ds)) rfl (by simp) HCL.out (fun u hu => by obtain ⟨j, _, rfl⟩ := List.mem_map.1 hu; rfl) (by omega) (by unfold maxLen; omega) (by omega) ?_)
    intro v3 w3 hown3 hgr3
    have HB3 := Lib.hid (show Below w2.heap.size w2 w3 from (Below.refl _ _).grown hgr3 (Nat.le_refl _) (fun k e => by cases e))
    have HOWN := Lib.hid hown3
    have HQ := Lib.hid (show CodSaid p K M As Ls Cs F w (.returned (.tuple #[v3, .int .i64 0])) w3 from by
      obtain ⟨A3, c3, rfl, hc3, _⟩ := Rd.of_own (show w3.ownsRow w2.heap.size TBs 1 v3 (K + M) ((List.range (K + M)).map (fun j => (((List.range K).map (slis As Ls Cs) ++ (List.range M).map (slis Bs (fun _ => Ls 0) Ds))[j]?).getD nilS)) from by
        have e : (List.range (K + M)).map (fun j => (((List.range K).map (slis As Ls Cs) ++ (List.range M).map (slis Bs (fun _ => Ls 0) Ds))[j]?).getD nilS) = (List.range K).map (slis As Ls Cs) ++ (List.range M).map (slis Bs (fun _ => Ls 0) Ds) := by
          apply List.ext_getElem
          · simp
          · intro n h1 h2
            simp [List.getElem?_eq_getElem h2]
        rw [e]
        exact HOWN.out) (show 0 < w2.heap.size by omega)
      refine ⟨true, A3, c3, rfl, by simp only [true_iff]; exact HEV.out, hc3, below_tr H2.out HB3.out, fun _ x hx hA => ?_, fun _ hcs => ?_⟩
      · obtain ⟨A4, c4, e4, _, h6⟩ := cod_bx (p := p) (F := F) (fun r hr => (HEV.out r hr).1) H2.out hx HOWN.out HB3.out hA (fun r hr => (HYY.out x (by omega)).2 r hr)
        injection e4 with e4
        subst e4
        exact h6
      · have e1 : (List.range K).map (slis As Ls Cs) = (List.range K).map (slis As (fun _ => Ls 0) Cs) := range_congr (fun j hj => by simp only [slis]; rw [(HEV.out j hj).1])
        have h7 := HOWN.out
        rw [e1, slis_cat] at h7
        obtain ⟨A4, c4, e4, _, h8⟩ := Rd.of_own h7 (show 0 < w2.heap.size by omega)
        injection e4 with e4
        subst e4
        refine Caps.of_rd h8 (fun r hr => ?_)
        by_cases hrK : r < K
        · rw [catC_lt hrK]
          have := hcs r hrK
          rw [(HEV.out r hrK).1] at this
          exact this
        · obtain ⟨q, rfl⟩ : ∃ q, r = K + q := ⟨r - K, by omega⟩
          rw [catC_ge]
          exact HDS.out q (by omega))
    clear hown3 hgr3
    go_wp2_with fail
    go_ret2
    exact HQ.out
end Go.Proofs.YtgdgimknnjbieaaGreatDoor

namespace Go.Proofs.YtgdgimknnjbieaaGreatDoor
open Go.RowKit

/-- what Encode tells; its rows have room for all their bytes -/
def EncC (p k m : Int) (n : Nat) (f : Nat → Nat) (w : World) (e : Ending) (w' : World) : Prop := EncSaid p k m n f w e w' ∧ OutCaps e w'

set_option maxRecDepth 100000 in
set_option maxHeartbeats 4000000 in
theorem enc16' (b : Nat) (p k m : Int) (f : Nat → Nat) (hf : ∀ j, f j < 256) (B : Option Addr) (n cb : Nat) (hn : n ≤ 900) (w : World) (hT : Tab w) (hr : Rd b w (u8s f) B n) :
    Calls Tryz.prog 19 #[.agg (parA p k m), .slice B n cb] w (EncC p k m n f w) := by
  obtain ⟨v, hv⟩ : ∃ v, w.alloc (.cells #[.int .i64 p, .int .i64 k, .int .i64 m] TPa) = v := ⟨_, rfl⟩
  obtain ⟨_, e0, hbv⟩ := one_box hv
  have E0 := Lib.hid e0
  have HV := Lib.hid hbv
  have hp0 := hT.lt
  have HT := Lib.hid (hT.below hbv)
  have HS := Lib.hid (split12' b p k m f B n cb v HT.out (hr.below hbv))
  unfold SplitSaidC SplitSaid at HS
  obtain ⟨d0, d1, d2⟩ := box_three e0
  clear e0 hbv hr hT
  by_cases hE : szE p k m n = 0
  · obtain ⟨K, rfl, k1, k8, hn2, hm⟩ := sz_ok hE
    obtain ⟨M, rfl⟩ : ∃ M : Nat, m = M := ⟨m.toNat, by have := hm.2.2.1; omega⟩
    have HP := Lib.hid hm
    have hS2 : szN p K M n ≤ 1000 := by
      rw [(szE_ok hm hn2).1]
      have h1 := szU_le (u := unitL (layI p)) (K := K) (m := aheadL (layI p) + n) (unitL_pos _).1 k1
      have h2 := (unitL_pos (layI p)).2
      have h3 := aheadL_le (layI p)
      omega
    have HSE := Lib.hid (sz_even hE)
    have HEE := Lib.hid (show ∀ v w', RowsTold (K + M) (encF p K M (szN p K M n) n f) (fun _ => szN p K M n) w v w' → OutCaps (.returned (.tuple #[v, .int .i64 0])) w' → EncC p K M n f w (.returned (.tuple #[v, .int .i64 0])) w' from fun v w' h hc => ⟨⟨v, by rw [hE], by
      unfold encN
      rw [if_pos hE, Int.toNat_natCast, Int.toNat_natCast]
      exact h⟩, hc⟩)
    have hSN : splN p K M n = K := (if_pos hE).trans (Int.toNat_natCast K)
    rw [hE, hSN] at HS
    obtain ⟨S, hSS⟩ : ∃ S, szN p K M n = S := ⟨_, rfl⟩
    rw [hSS] at HS HSE HEE hS2
    have HFF := Lib.hid (fun r j => splF_lt (p := p) (S := S) (n := n) hf r j)
    have HCE := Lib.hid (show codF p K M (splF p S n f) = encF p K M S n f from rfl)
    obtain ⟨G, hG⟩ : ∃ G, splF p S n f = G := ⟨_, rfl⟩
    rw [hG] at HS HFF HCE
    clear hm hE hSN hSS hG hn2 hf
    go_enter Tryz.func19, Tryz.ntmps19
    go_wp2_with fail
    refine HS.out.mono ?_
    rintro e w1 ⟨⟨v1, rfl, A1, c1, rfl, hc1, hx1, hb1⟩, hcp⟩
    have HCP := Lib.hid (hcp _ _ _ _ rfl)
    clear hcp
    have H1 := Lib.hid (below_tr HV.out hb1)
    have HT1 := Lib.hid (HT.out.below hb1)
    have E1 := Lib.hid (kept_box E0.out hb1)
    have hvz := HV.out.size
    have h1z := H1.out.size
    obtain ⟨As, Cs, hxx⟩ := rows_at (H := w.heap.size) (fun g hg => hx1 g (by omega)) hp0
    have HXX := Lib.hid hxx
    clear hb1 d0 d1 d2 hx1 hxx HS E0 HT
    obtain ⟨d0, d1, d2⟩ := box_three E1.out
    go_wp2_with fail
    refine (coded29 0 p K M HP.out As (fun _ => S) Cs G HFF.out A1 K c1 (Nat.le_refl _) hc1 (fun _ _ => hS2) _ HT1.out (HXX.out 0 hp0).1 (HXX.out 0 hp0).2).mono ?_
    rintro e w2 ⟨t, A2, c2, rfl, ht, hc2, hb2, hx2, hcp⟩
    obtain rfl : t = true := ht.2 (fun _ _ => ⟨rfl, HSE.out⟩)
    simp only [cond_true] at hc2 hx2 ⊢
    rw [show errOf true = 0 from rfl]
    have HQ := Lib.hid (HEE.out (.slice A2 (K + M) c2) w2 ⟨A2, c2, rfl, hc2, fun x hx => by rw [← HCE.out]; exact hx2 trivial x (by omega) (HXX.out x hx).2, below_tr H1.out hb2⟩ (OutCaps.of (hcp rfl (fun r hr => HCP.out.room (HXX.out 0 hp0).1 hr))))
    clear ht hc2 hb2 hx2 hcp d0 d1 d2
    go_wp2_with fail
    go_ret2
    exact HQ.out
  · have HEE := Lib.hid (show ∀ w', Below w.heap.size w w' → EncC p k m n f w (.returned (.tuple #[nilS, .int .i64 (szE p k m n)])) w' from fun w' h => ⟨⟨_, rfl, by
      unfold encN
      rw [if_neg hE]
      exact RowsTold.nil h⟩, OutCaps.of (Caps.zero _ _)⟩)
    obtain ⟨x, hx⟩ : ∃ x, szE p k m n = x := ⟨_, rfl⟩
    rw [hx] at HEE HS hE
    have hne : (x != 0) = true := by simp [hE]
    clear hx hE
    go_enter Tryz.func19, Tryz.ntmps19
    go_wp2_with fail
    refine HS.out.mono ?_
    rintro e w1 ⟨⟨v1, rfl, A1, c1, rfl, hc1, hx1, hb1⟩, _⟩
    have H1 := Lib.hid (below_tr HV.out hb1)
    clear hb1 d0 d1 d2 hx1 HS E0
    go_wp2_with fail
    go_ret2
    exact HEE.out _ H1.out
theorem enc16 (b : Nat) (p k m : Int) (f : Nat → Nat) (hf : ∀ j, f j < 256) (B : Option Addr) (n cb : Nat) (hn : n ≤ 900) (w : World) (hT : Tab w) (hr : Rd b w (u8s f) B n) :
    Calls Tryz.prog 19 #[.agg (parA p k m), .slice B n cb] w (EncSaid p k m n f w) := (enc16' b p k m f hf B n cb hn w hT hr).mono fun _ _ h => h.1

theorem cod_same {p : Int} {K M : Nat} {Ls : Nat → Nat} {F : Nat → Nat → Nat} (h : mayX p K M) (he : evenP p K Ls) :
    sameP (K + M) (K + M) (fun _ => Ls 0) Ls (codF p K M F) F ↔ verP p K M (K + M) Ls F := by
  constructor
  · rintro ⟨_, h2⟩
    refine ⟨h, by omega, by rw [Int.toNat_natCast]; exact he, fun i hi => ?_⟩
    rw [Int.toNat_natCast] at hi ⊢
    rw [Int.toNat_natCast]
    have h3 := h2 (K + i) (by omega)
    refine ⟨h3.1.symm, fun j hj => ?_⟩
    have h4 := h3.2 j hj
    unfold codF at h4
    rw [if_neg (by omega), Nat.add_sub_cancel_left] at h4
    exact h4.symm
  · rintro ⟨_, _, _, h4⟩
    refine ⟨rfl, fun r hr => ?_⟩
    by_cases hrK : r < K
    · exact ⟨(he r hrK).1.symm, fun j _ => by unfold codF; rw [if_pos hrK]⟩
    · obtain ⟨q, rfl⟩ : ∃ q, r = K + q := ⟨r - K, by omega⟩
      have h5 := h4 q (by rw [Int.toNat_natCast]; omega)
      rw [Int.toNat_natCast, Int.toNat_natCast] at h5
      refine ⟨h5.1.symm, fun j hj => ?_⟩
      unfold codF
      rw [if_neg (by omega), Nat.add_sub_cancel_left]
      exact (h5.2 j hj).symm

set_option maxRecDepth 100000 in
set_option maxHeartbeats 4000000 in
theorem ver14 (b : Nat) (p k m : Int) (As : Nat → Option Addr) (Ls Cs : Nat → Nat) (F : Nat → Nat → Nat) (hF : ∀ r j, F r j < 256) (A : Option Addr) (N c : Nat) (hN : N ≤ 100000) (hNc : N ≤ c) (hL : ∀ r, r < N → Ls r ≤ 1000) (w : World) (hT : Tab w) (h0 : b < w.heap.size)
    (hr : Rd b w (slis As Ls Cs) A N) (hrs : ∀ r, r < N → Rd b w (u8s (F r)) (As r) (Ls r)) :
    Calls Tryz.prog 22 #[.agg (parA p k m), .slice A N c] w (VerSaid p k m N Ls F w) := by
  obtain ⟨v, hv⟩ : ∃ v, w.alloc (.cells #[.int .i64 p, .int .i64 k, .int .i64 m] TPa) = v := ⟨_, rfl⟩
  obtain ⟨_, e0, hbv⟩ := one_box hv
  have E0 := Lib.hid e0
  have HV := Lib.hid hbv
  have HT := Lib.hid (hT.below hbv)
  have HR := Lib.hid hr
  have HRS := Lib.hid hrs
  have HL := Lib.hid hL
  have HFF := Lib.hid hF
  obtain ⟨d0, d1, d2⟩ := box_three e0
  clear e0 hbv hr hrs hL hF hT
  go_enter Tryz.func22, Tryz.ntmps22
  go_wp2_with fail
  refine (may15 p k m _ HT.out).mono ?_
  rintro e w1 ⟨t, rfl, ht, hb1⟩
  have H1 := Lib.hid (below_tr HV.out hb1)
  have HT1 := Lib.hid (HT.out.below hb1)
  have E1 := Lib.hid (kept_box E0.out hb1)
  have HM := Lib.hid ht
  clear ht hb1 d0 d1 d2 HT
  obtain ⟨d0, d1, d2⟩ := box_three E1.out
  cases t
  · have HE := Lib.hid (VerSaid.no (F := F) (p := p) (k := k) (m := m) (N := N) (Ls := Ls) (fun h => by have := HM.out.2 h.1; cases this) H1.out)
    go_wp2_with fail
    go_ret
    exact HE.out
  have HP := Lib.hid (HM.out.1 rfl)
  obtain ⟨K, rfl⟩ : ∃ K : Nat, k = K := ⟨k.toNat, by have := HP.out.2.1; omega⟩
  obtain ⟨M, rfl⟩ : ∃ M : Nat, m = M := ⟨m.toNat, by have := HP.out.2.2.1; omega⟩
  have hK := HP.out.2.1
  have hM := (max_pos HP.out.1).2
  have hM2 := HP.out.2.2
  by_cases hk : N = K + M
  · subst hk
    have hnn : ((((K + M : Nat) : Nat) : Int) != ((K : Int) + (M : Int))) = false := by simp
    go_wp2_with fail
    refine (coded29 b p K M HP.out As Ls Cs F HFF.out A (K + M) c (by omega) hNc (fun r hr => HL.out r (by omega)) _ HT1.out ((HR.out.below H1.out).take (by omega)) (fun r hr => (HRS.out r (by omega)).below H1.out)).mono ?_
    rintro e w2 ⟨t, A2, c2, rfl, ht, hc2, hb2, hx2, _⟩
    have H2 := Lib.hid (below_tr H1.out hb2)
    have h1z := H1.out.size
    have HT2 := Lib.hid ht
    have HX2 := Lib.hid (show t = true → Bx b w2 (codF p K M F) (fun _ => Ls 0) A2 (K + M) from fun h => hx2 h b (by omega) (fun r hr => (HRS.out r (by omega)).below H1.out))
    clear ht hb2 hx2 hc2 d0 d1 d2
    cases t
    · have HE := Lib.hid (VerSaid.no (F := F) (p := p) (k := K) (m := M) (N := K + M) (Ls := Ls) (fun h => by
        have := HT2.out.2 (by have h3 := h.2.2.1; rw [Int.toNat_natCast] at h3; exact h3)
        cases this) H2.out)
      simp only [cond_false]
      rw [show errOf false = 1 from rfl]
      go_wp2_with fail
      go_ret
      exact HE.out
    · simp only [cond_true]
      rw [show errOf true = 0 from rfl]
      have HEV := Lib.hid (HT2.out.1 rfl)
      have HSM := Lib.hid (equal33 b b (codF p K M F) F (fun r j => by unfold codF; split; exact HFF.out r j; exact parF_lt _ _) (fun r j => HFF.out r j) (fun _ => Ls 0) Ls A2 A (K + M) (K + M) c2 c (by omega) w2 (HX2.out rfl) ⟨As, Cs, HR.out.below H2.out, fun r hr => (HRS.out r hr).below H2.out⟩)
      clear HX2
      go_wp2_with fail
      refine HSM.out.mono ?_
      rintro e w3 ⟨t, rfl, ht, hb3⟩
      have HE := Lib.hid (show VerSaid p K M (K + M) Ls F w (.returned (.bool t)) w3 from ⟨t, rfl, ht.trans (cod_same HP.out HEV.out), below_tr H2.out hb3⟩)
      clear ht hb3
      go_wp2_with fail
      go_ret
      exact HE.out
  · have hne : (((N : Nat) : Int) != ((K : Int) + (M : Int))) = true := by simp; omega
    have HE := Lib.hid (VerSaid.no (F := F) (p := p) (k := K) (m := M) (N := N) (Ls := Ls) (fun h => hk (by have := h.2.1; omega)) H1.out)
    go_wp2_with fail
    go_ret
    exact HE.out
end Go.Proofs.YtgdgimknnjbieaaGreatDoor

namespace Go.Proofs.YtgdgimknnjbieaaGreatDoor
open Go.RowKit

theorem may121 : mayX 1 ((2 : Nat) : Int) ((1 : Nat) : Int) := ⟨by omega, by omega, by omega, by decide⟩
end Go.Proofs.YtgdgimknnjbieaaGreatDoor

namespace Go.Proofs.YtgdgimknnjbieaaGreatDoor

end Go.Proofs.YtgdgimknnjbieaaGreatDoor
