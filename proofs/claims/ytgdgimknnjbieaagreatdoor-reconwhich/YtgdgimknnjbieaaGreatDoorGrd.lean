/- Layer 12: the contract of the document's Update. Layer 12: of what was encoded any K shards tell all; what is updated is what would have been encoded: plain mathematics. -/
import Derived.Test.YtgdgimknnjbieaaGreatDoorGra
import Derived.Deep.RegionHeld3
import Derived.BigQuiet
import Derived.Test.YtgdgimknnjbieaaGreatDoorGrb

namespace Go.Proofs.YtgdgimknnjbieaaGreatDoor
open Go.RowKit

/-- Update's error -/
def updE (p k m i : Int) (N nb : Nat) (Ls : Nat → Nat) : Int := if mayX p k m ∧ (N : Int) = k + m ∧ evenP p N Ls ∧ 0 ≤ i ∧ i < k ∧ nb = Ls 0 then 0 else 1
theorem updE_no {p k m i : Int} {N nb : Nat} {Ls : Nat → Nat} (h : ¬ (mayX p k m ∧ (N : Int) = k + m ∧ evenP p N Ls ∧ 0 ≤ i ∧ i < k ∧ nb = Ls 0)) : updE p k m i N nb Ls = 1 := if_neg h
/-- the shards with another one in place i -/
def updF (p : Int) (K M : Nat) (F : Nat → Nat → Nat) (i : Nat) (g : Nat → Nat) : Nat → Nat → Nat := fun r j =>
  if r = i then g j else if r < K then F r j else F r j ^^^ mulB (qP p).p (nP p) (ivs (rowsE p K M) (r - K) i) (fun j => F i j ^^^ g j) j
theorem updF_lt {p : Int} {K M i : Nat} {F : Nat → Nat → Nat} {g : Nat → Nat} (hF : ∀ r j, F r j < 256) (hg : ∀ j, g j < 256) (r j : Nat) : updF p K M F i g r j < 256 := by
  unfold updF
  split
  · exact hg j
  · split
    · exact hF r j
    · exact Nat.xor_lt_two_pow (n := 8) (hF r j) (mulB_lt _ _ _ _ _)
def updN (p k m i : Int) (N nb : Nat) (Ls : Nat → Nat) : Nat := if updE p k m i N nb Ls = 0 then N else 0
/-- what Update tells: apart from what the shards, and the new one, lie apart from -/
def UpdSaid (p k m i : Int) (N nb : Nat) (As : Nat → Option Addr) (B : Option Addr) (Ls : Nat → Nat) (F : Nat → Nat → Nat) (g : Nat → Nat) (w : World) (e : Ending) (w' : World) : Prop :=
  ∃ A c, e = .returned (.tuple #[.slice A (updN p k m i N nb Ls) c, .int .i64 (updE p k m i N nb Ls)]) ∧ updN p k m i N nb Ls ≤ c ∧ Below w.heap.size w w' ∧
    ∀ x, x < w.heap.size → (∀ r, r < N → Rd x w (u8s (F r)) (As r) (Ls r)) → Rd x w (u8s g) B nb → Bx x w' (updF p k.toNat m.toNat F i.toNat g) (fun _ => Ls 0) A (updN p k m i N nb Ls)
theorem UpdSaid.no {p k m i : Int} {N nb : Nat} {As : Nat → Option Addr} {B : Option Addr} {Ls : Nat → Nat} {F : Nat → Nat → Nat} {g : Nat → Nat} {w w' : World} (h : ¬ (mayX p k m ∧ (N : Int) = k + m ∧ evenP p N Ls ∧ 0 ≤ i ∧ i < k ∧ nb = Ls 0)) (hb : Below w.heap.size w w') : UpdSaid p k m i N nb As B Ls F g w (.returned (.tuple #[nilS, .int .i64 1])) w' := by
  have he := updE_no h
  have hn : updN p k m i N nb Ls = 0 := if_neg (by rw [he]; decide)
  refine ⟨none, 0, by rw [he, hn], by rw [hn]; exact Nat.le_refl _, hb, fun _ _ _ _ => ?_⟩
  rw [hn]
  exact Bx.zero
/-- where the shards lie, when j parity shards are new -/
structure UpdR (x0 g0 c K M N i S j : Nat) (w w2 : World) (As : Nat → Option Addr) (Cs : Nat → Nat) (B : Option Addr) (cb : Nat) (H : Nat → Nat → Nat) (wr : World) : Prop where
  below : Below w2.heap.size w2 wr
  rows : ∃ (Bs : Nat → Option Addr) (Ds : Nat → Nat) (K0 : Nat → Value), wr.rowIs g0 TBs c K0 ∧ (∀ r, r < N → K0 r = slis Bs (fun _ => S) Ds r) ∧ (Bs i = B ∧ Ds i = cb) ∧ (∀ r, r ≠ i → (r < K ∨ K + j ≤ r) → Bs r = As r ∧ Ds r = Cs r) ∧
    ∀ r, K ≤ r → r < K + j → ∀ x, (x < w.heap.size ∨ x = g0) → Rd x wr (u8s (H r)) (Bs r) S
theorem UpdR.below' {x0 g0 c K M N i S j cb : Nat} {w w2 wr w1 : World} {As : Nat → Option Addr} {Cs : Nat → Nat} {B : Option Addr} {H : Nat → Nat → Nat} (h : UpdR x0 g0 c K M N i S j w w2 As Cs B cb H wr) (hb : Below wr.heap.size wr w1) : UpdR x0 g0 c K M N i S j w w2 As Cs B cb H w1 := by
  obtain ⟨h1, Bs, Ds, K0, h2, h3, h4, h5, h6⟩ := h
  exact ⟨h1.trans (hb.mono h1.size), Bs, Ds, K0, h2.of_block (hb.block _ h2.lt), h3, h4, h5, fun r hr hr2 x hx => (h6 r hr hr2 x hx).below hb⟩
theorem UpdR.step {x0 g0 c K M N i S j cb cd : Nat} {w w2 wr : World} {As : Nat → Option Addr} {Cs : Nat → Nat} {B Ad : Option Addr} {H : Nat → Nat → Nat} (h : UpdR x0 g0 c K M N i S j w w2 As Cs B cb H wr) (hg : w2.heap.size ≤ g0) (hi : i < K) (hr : ∀ x, (x < w.heap.size ∨ x = g0) → Rd x wr (u8s (H (K + j))) Ad S) (_ : K + j < N) :
    UpdR x0 g0 c K M N i S (j + 1) w w2 As Cs B cb H (wr.setCell ⟨g0, K + j, none⟩ (.slice Ad S cd)) := by
  obtain ⟨h1, Bs, Ds, K0, h2, h3, h4, h5, h6⟩ := h
  have ht : Turned g0 wr (wr.setCell ⟨g0, K + j, none⟩ (.slice Ad S cd)) := (Turned.refl g0 wr).setCell (K + j) _
  refine ⟨h1.setCell (p := ⟨g0, K + j, none⟩) hg _, fun r => if r = K + j then Ad else Bs r, fun r => if r = K + j then cd else Ds r, _, h2.set (K + j) _, fun r hr => ?_, ?_, fun r hr hr2 => ?_, fun r hr1 hr2 x hx => ?_⟩
  · simp only [slis]
    by_cases e : r = K + j
    · rw [if_pos e, if_pos e, if_pos e]
    · rw [if_neg e, if_neg e, if_neg e, h3 r hr]
  · dsimp only
    rw [if_neg (by omega), if_neg (by omega)]
    exact h4
  · dsimp only
    rw [if_neg (by omega), if_neg (by omega)]
    exact h5 r hr (by omega)
  · dsimp only
    by_cases e : r = K + j
    · rw [if_pos e, e]
      exact rd_turn (hr g0 (Or.inr rfl)) (hr x hx) ht
    · rw [if_neg e]
      exact rd_turn (h6 r hr1 (by omega) g0 (Or.inr rfl)) (h6 r hr1 (by omega) x hx) ht

set_option maxRecDepth 100000 in
set_option maxHeartbeats 8000000 in
theorem rupd (b : Nat) (p k m : Int) (As : Nat → Option Addr) (Ls Cs : Nat → Nat) (F : Nat → Nat → Nat) (hF : ∀ r j, F r j < 256) (A : Option Addr) (N c : Nat) (hN : N ≤ 1000) (hL : ∀ r, r < N → Ls r ≤ 1000) (i : Int) (f : Nat → Nat) (hf : ∀ j, f j < 256) (B : Option Addr) (nb cb : Nat) (w : World) (h0 : b < w.heap.size)
    (hr : Rd b w (slis As Ls Cs) A N) (hrs : ∀ r, r < N → Rd b w (u8s (F r)) (As r) (Ls r)) (hB : Rd b w (u8s f) B nb) :
    Calls Tryz.prog 17 #[.agg (parA p k m), .slice A N c, .int .i64 i, .slice B nb cb] w (UpdSaid p k m i N nb As B Ls F f w) := by
  obtain ⟨i0, hi, hz0, hz1, hz2⟩ := info_parts infoS
  obtain ⟨v, hv⟩ : ∃ v, w.alloc (.cells #[.int .i64 p, .int .i64 k, .int .i64 m] TPa) = v := ⟨_, rfl⟩
  obtain ⟨_, e0, hbv⟩ := one_box hv
  have E0 := Lib.hid e0
  have HV := Lib.hid hbv
  have HR := Lib.hid hr
  have HRS := Lib.hid hrs
  have HBR := Lib.hid hB
  have HL := Lib.hid hL
  have HFF := Lib.hid hF
  have Hf := Lib.hid hf
  obtain ⟨d0, d1, d2⟩ := box_three e0
  clear e0 hbv hr hrs hL hF hB hf
  go_enter Tryz.func17, Tryz.ntmps17
  go_wp2_with fail
  refine (rmay16 p k m _).mono ?_
  rintro e w1 ⟨t, rfl, ht, hb1⟩
  have H1 := Lib.hid (below_tr HV.out hb1)
  have E1 := Lib.hid (kept_box E0.out hb1)
  have HM := Lib.hid ht
  clear ht hb1 d0 d1 d2
  obtain ⟨d0, d1, d2⟩ := box_three E1.out
  cases t
  · have HE := Lib.hid (UpdSaid.no (F := F) (g := f) (As := As) (B := B) (Ls := Ls) (N := N) (nb := nb) (p := p) (k := k) (m := m) (i := i) (fun h => by have := HM.out.2 h.1; cases this) H1.out)
    go_wp2_with fail
    go_ret2
    exact HE.out
  have HP := Lib.hid (HM.out.1 rfl)
  obtain ⟨K, rfl⟩ : ∃ K : Nat, k = K := ⟨k.toNat, by have := HP.out.2.1; omega⟩
  obtain ⟨M, rfl⟩ : ∃ M : Nat, m = M := ⟨m.toNat, by have := HP.out.2.2.1; omega⟩
  have hK := HP.out.2.1
  have hM : 1 ≤ M ∧ M ≤ 4 := by have := HP.out.2.2; have := (max_pos HP.out.1).2; omega
  by_cases hk : N = K + M
  case neg =>
    have hne : (((N : Nat) : Int) != ((K : Int) + (M : Int))) = true := by simp; omega
    have HE := Lib.hid (UpdSaid.no (F := F) (g := f) (As := As) (B := B) (Ls := Ls) (N := N) (nb := nb) (p := p) (k := K) (m := M) (i := i) (fun h => hk (by have := h.2.1; omega)) H1.out)
    go_wp2_with fail
    go_ret2
    exact HE.out
  have hnn : (((N : Nat) : Int) != ((K : Int) + (M : Int))) = false := by simp; omega
  have HNK := Lib.hid hk
  have hN12 : N ≤ 12 := by omega
  have hKN : K < N := by omega
  clear hk
  go_wp2_with fail
  refine (reven26 b p K M HP.out.1 As Ls Cs A N c (by omega) (fun r hr => Nat.le_trans (HL.out r hr) (by omega)) _ (HR.out.below H1.out)).mono ?_
  rintro e w2 ⟨t, rfl, ht, hb2⟩
  have H2 := Lib.hid (below_tr H1.out hb2)
  have E2 := Lib.hid (kept_box E1.out hb2)
  have HT := Lib.hid ht
  clear ht hb2 d0 d1 d2
  obtain ⟨d0, d1, d2⟩ := box_three E2.out
  have HNO := Lib.hid (fun h => UpdSaid.no (F := F) (g := f) (As := As) (B := B) (Ls := Ls) (N := N) (nb := nb) (p := p) (k := K) (m := M) (i := i) h H2.out)
  cases t
  · have HE := Lib.hid (HNO.out (fun h => by have := HT.out.2 h.2.2.1; cases this))
    go_wp2_with fail
    go_ret2
    exact HE.out
  have HEV := Lib.hid (HT.out.1 rfl)
  by_cases hi0 : 0 ≤ i
  case neg =>
    have HE := Lib.hid (HNO.out (fun h => hi0 h.2.2.2.1))
    have hd : decide (i < 0) = true := by simp; omega
    go_wp2_with fail
    go_ret2
    exact HE.out
  by_cases hiK : i < (K : Int)
  case neg =>
    have HE := Lib.hid (HNO.out (fun h => hiK h.2.2.2.2.1))
    have hd : decide (i < 0) = false := by simp; omega
    have hd2 : decide ((K : Int) ≤ i) = true := by simp; omega
    go_wp2_with fail
    go_ret2
    exact HE.out
  obtain ⟨I, rfl⟩ : ∃ I : Nat, i = I := ⟨i.toNat, by omega⟩
  have hIK : I < K := by omega
  have hd : decide ((I : Int) < 0) = false := by simp
  have hd2 : decide ((K : Int) ≤ (I : Int)) = false := by simp; omega
  obtain ⟨ad, rfl, c0⟩ := (HR.out.below H2.out).at_ (show 0 < N by omega)
  rw [show ad.add 0 = ad by simp [Addr.add]] at c0
  simp only [slis] at c0
  have hz0N : (0 : Int) < (N : Int) := by omega
  by_cases hnb : nb = Ls 0
  case neg =>
    have HE := Lib.hid (HNO.out (fun h => hnb h.2.2.2.2.2))
    have hne : (((nb : Nat) : Int) != ((Ls 0 : Nat) : Int)) = true := by simp; omega
    clear hi0 hiK
    go_wp2_with fail
    go_ret2
    exact HE.out
  have hne : (((nb : Nat) : Int) != ((Ls 0 : Nat) : Int)) = false := by simp; omega
  obtain ⟨S, hS⟩ : ∃ S, Ls 0 = S := ⟨_, rfl⟩
  have hnS : nb = S := hnb.trans hS
  have HOK := Lib.hid (show updE p K M I N nb Ls = 0 from if_pos ⟨HP.out, by have := HNK.out; omega, HEV.out, by omega, by omega, hnb⟩)
  clear hnb
  subst hnS
  have HLS := Lib.hid (show ∀ r, r < N → Ls r = nb from fun r hr => (HEV.out r hr).1.trans hS)
  have HSE := Lib.hid (show nb % nP p = 0 by have h5 := (HEV.out 0 (by omega)).2; rw [hS] at h5; exact h5)
  have hS2 : nb ≤ 1000 := by have := HL.out 0 (by omega); omega
  have HEE := Lib.hid (show ∀ A c w', N ≤ c → Below w.heap.size w w' → (∀ x, x < w.heap.size → (∀ r, r < N → Rd x w (u8s (F r)) (As r) (Ls r)) → Rd x w (u8s f) B nb → Bx x w' (updF p K M F I f) (fun _ => nb) A N) → UpdSaid p K M I N nb As B Ls F f w (.returned (.tuple #[.slice A N c, .int .i64 0])) w' from fun A c w' h1 h2 h3 => by
    have hn : updN p K M I N nb Ls = N := if_pos HOK.out
    refine ⟨A, c, by rw [HOK.out, hn], by rw [hn]; exact h1, h2, fun x hx ha hb => ?_⟩
    rw [hn, hS]
    simp only [Int.toNat_natCast]
    exact h3 x hx ha hb)
  rw [hS] at c0 hne
  have HBI := Lib.hid (bitsP HP.out.1)
  have HPO := Lib.hid (polyP HP.out.1)
  clear hS hi0 hiK
  go_wp2_with fail
  refine (rof9 p _).mono ?_
  rintro e w3 ⟨rfl, hb3⟩
  simp only [rowA, HBI.out, HPO.out]
  obtain ⟨w4, hw4⟩ : ∃ w4, w3.alloc (.cells #[.string (tagI p), .int .i64 (wdP p : Nat), .int .u32 ((qP p).p : Nat), .int .u8 (layI p), .int .i64 (maxI p)] TRw) = w4 := ⟨_, rfl⟩
  obtain ⟨_, er, hbr⟩ := one_box hw4
  have ER := Lib.hid er
  have HB34 := below_tr hb3 hbr
  have H4 := Lib.hid (below_tr H2.out HB34)
  have E4 := Lib.hid (kept_box E2.out HB34)
  clear hb3 d0 d1 d2 er hbr HB34 HBI HPO HT HM E1 E2 H1 H2 c0 hd hd2 hne hnn HNO
  obtain ⟨d0, d1, d2⟩ := box_three E4.out
  go_wp2_with fail
  refine (rpar13 p K M b _ (Nat.lt_of_lt_of_le h0 H4.out.size)).mono ?_
  rintro e w5 ⟨t, A5, c5, rfl, ht5, hx5, hb5⟩
  obtain rfl : t = true := ht5.2 HP.out
  simp only [Int.toNat_natCast, cond_true] at hx5 ⊢
  have H5 := Lib.hid (below_tr H4.out hb5)
  have E5 := Lib.hid (kept_box E4.out hb5)
  have ER5 := Lib.hid (kept_box ER.out hb5)
  obtain ⟨Ps, Qs, hp1, hp2⟩ := hx5
  have HP1 := Lib.hid hp1
  have HP2 := Lib.hid hp2
  have hbw5 : b < w5.heap.size := Nat.lt_of_lt_of_le h0 H5.out.size
  have CA := Lib.hid (show ∀ w', Below w5.heap.size w5 w' → ∀ r, r < N → w'.cell? (ad.add r) = some (.slice (As r) nb (Cs r)) from fun w' hb' r hr => by
    obtain ⟨a2, e2, h2⟩ := (HR.out.below (below_tr H5.out hb')).at_ hr
    injection e2 with e2
    subst e2
    rw [h2]
    simp only [slis]
    rw [HLS.out r hr])
  have c1 := CA.out w5 (Below.refl _ _) I (by omega)
  have hIN : (I : Int) < (N : Int) := by omega
  clear hb5 d0 d1 d2 ht5 hp1 hp2 ER hw4 hv E4
  go_wp2_with fail
  refine (radd24 b (F I) f (HFF.out I) Hf.out (As I) B nb nb (Cs I) cb hS2 _ hbw5 (by have h5 := (HRS.out I (by omega)).below H5.out; rw [HLS.out I (by omega)] at h5; exact h5) (HBR.out.below H5.out)).mono ?_
  rintro e w6 ⟨t, v6, rfl, ht, A6, c6, rfl, hc6, hr6, hb6⟩
  obtain rfl : t = true := ht.2 rfl
  simp only [cond_true] at hr6 hc6 ⊢
  have HB6 := Lib.hid hb6
  have H6 := Lib.hid (below_tr H5.out hb6)
  have HR6 := Lib.hid hr6
  have hz6 := hb6.size
  clear ht hc6 hr6 hb6 c1
  go_wp2_with (at_builtin; refine append_rd _ rfl (.tmp 80) (.tmp 81) TRs rfl w6.heap.size TBs i0 nilS 24 Tryz.underlying24 hi hz0 hz1 hz2 rfl _ 0 [] rfl (World.ownsRow_lit w6 #[] 0 (Nat.le_refl _) (Nat.zero_le _) rfl) b _ _ _ _ rfl (fun e => by cases e) ((HR.out.below H6.out).below (below_alloc _ _)) (one_slis _ _ _) (by unfold maxLen; omega) (by omega) (by simp) ?_)
  intro v7 w7 hown7 hgr7
  have hb7 : Below w6.heap.size w6 w7 := (below_alloc w6 (.cells #[] TBs)).grown hgr7 (by simp) (fun q hq => by simp [Value.ownBlock] at hq; omega)
  obtain ⟨g0, cg, K0, rfl, hg0, hcg, hrow, hk0⟩ := own_rowK hown7 (by omega)
  have hgi := hrow.cell (show I < cg by omega)
  have hfi := hrow.frozen I
  have HU := Lib.hid (show UpdR b g0 cg K M N I nb 0 w w6 As Cs B cb (updF p K M F I f) (w7.setCell ⟨g0, I, none⟩ (.slice B nb cb)) from
    ⟨hb7.setCell (p := ⟨g0, I, none⟩) hg0 _, fun r => if r = I then B else As r, fun r => if r = I then cb else Cs r, _, hrow.set I _, fun r hr => by
      simp only [slis]
      by_cases e : r = I
      · rw [if_pos e, if_pos e, if_pos e]
      · rw [if_neg e, if_neg e, if_neg e, hk0 r hr]
        simp only [slis]
        rw [HLS.out r hr], ⟨if_pos rfl, if_pos rfl⟩, fun r hr _ => ⟨if_neg hr, if_neg hr⟩, fun r h1 h2 => absurd h2 (by omega)⟩)
  have HG := Lib.hid (show w6.heap.size ≤ g0 ∧ g0 < w7.heap.size from ⟨hg0, hrow.lt⟩)
  have hzs : w6.heap.size ≤ w7.heap.size := hb7.size
  clear hown7 hgr7 hb7 hg0 hrow hk0
  have KE := Lib.hid (show ∀ w', Below w6.heap.size w6 w' → (w'.cell? ⟨w3.heap.size, 1, none⟩ = some (.int .i64 (wdP p : Nat)) ∧ w'.cell? ⟨w3.heap.size, 2, none⟩ = some (.int .u32 ((qP p).p : Nat))) ∧ (w'.cell? ⟨w.heap.size, 0, none⟩ = some (.int .i64 p) ∧ w'.cell? ⟨w.heap.size, 1, none⟩ = some (.int .i64 (K : Nat)) ∧ w'.cell? ⟨w.heap.size, 2, none⟩ = some (.int .i64 (M : Nat))) from fun w' hb' => by
    have h5 := below_tr HB6.out hb'
    exact ⟨⟨box_at (i := 1) (kept_box ER5.out h5) rfl, box_at (i := 2) (kept_box ER5.out h5) rfl⟩, box_three (kept_box E5.out h5)⟩)
  obtain ⟨⟨f1, f2⟩, d0, d1, d2⟩ := KE.out _ HU.out.below
  go_wp2_with fail
  clear f1 f2 d0 d1 d2 hgi hfi hIN
  go_loopw [17] (fun s17 wr => ∃ j : Nat, j ≤ M ∧ s17 = .int .i64 j ∧ UpdR b g0 cg K M N I nb j w w6 As Cs B cb (updF p K M F I f) wr) (fun s17 _ => M - (intOf s17).toNat)
  case atStart => exact ⟨0, Nat.zero_le _, rfl, HU.out⟩
  case round =>
    clear HU
    obtain ⟨j, hjM, rfl, hU⟩ := hrel
    have HU := Lib.hid hU
    have hb := hU.below
    have hbz := hb.size
    obtain ⟨⟨f1, f2⟩, d0, d1, d2⟩ := KE.out _ hb
    clear hU
    by_cases hlt : j < M
    · have hb5 := below_tr HB6.out hb
      obtain ⟨ap, rfl, q1⟩ := (HP1.out.below hb5).at_ hlt
      obtain ⟨aq, haq, q2⟩ := ((HP2.out j hlt).below hb5).at_ hIK
      simp only [slis, i64s] at q1 q2
      rw [haq] at q1
      have hjI : (j : Int) < (M : Int) := by omega
      have hIKI : (I : Int) < (K : Int) := by omega
      have hinB := ivs_in (rowsE p K M) j I
      obtain ⟨y, hy⟩ : ∃ y, ivs (rowsE p K M) j I = y := ⟨_, rfl⟩
      have HY := Lib.hid hy
      have q2' : wr.cell? (aq.add I) = some (.int .i64 y) := by rw [← hy]; exact q2
      rw [hy] at hinB
      have KEEP := Lib.hid (show ∀ w', Below w6.heap.size w6 w' → w'.cell? ⟨w3.heap.size, 1, none⟩ = some (.int .i64 (wdP p : Nat)) ∧ w'.cell? ⟨w3.heap.size, 2, none⟩ = some (.int .u32 ((qP p).p : Nat)) ∧ w'.cell? (ap.add j) = some (.slice (some aq) K (Qs j)) ∧ w'.cell? (aq.add I) = some (.int .i64 y) from fun w' hb' => by
        have h5 := below_tr HB6.out hb'
        obtain ⟨a1, e1, h1⟩ := (HP1.out.below h5).at_ hlt
        injection e1 with e1
        subst e1
        obtain ⟨a2, e2, h2⟩ := ((HP2.out j hlt).below h5).at_ hIK
        rw [haq] at e2
        injection e2 with e2
        subst e2
        simp only [slis] at h1
        rw [haq] at h1
        refine ⟨(KE.out w' hb').1.1, (KE.out w' hb').1.2, h1, ?_⟩
        rw [← HY.out]
        exact h2)
      have hbwr : b < wr.heap.size := by omega
      have HC := Lib.hid (rmul22 (qP p).p b (wdP p) (nP p) (goodP p) (wideP p) y (fun j => F I j ^^^ f j) (fun j => Nat.xor_lt_two_pow (n := 8) (HFF.out I j) (Hf.out j)) A6 nb c6 hS2 wr.drew hbwr ((HR6.out.below hb).drew))
      have HBW := Lib.hid hb
      clear q2 hy hb hb5
      go_wp2_with fail
      clear d0 d1 d2
      go_region_held3 (fun w' => w'.cell? ⟨w3.heap.size, 1, none⟩ = some (.int .i64 (wdP p : Nat)) ∧ w'.cell? ⟨w3.heap.size, 2, none⟩ = some (.int .u32 ((qP p).p : Nat)) ∧ w'.cell? (ap.add j) = some (.slice (some aq) K (Qs j)) ∧ w'.cell? (aq.add I) = some (.int .i64 y))
        (first | exact ⟨f1, f2, q1, q2'⟩ | exact KEEP.out _ (HBW.out.drew.trans (hb8.mono HBW.out.drew.size)) | assumption)
        ((go_at_call 50; refine HC.out.mono ?_; rintro e w8 ⟨t, v8, rfl, ht, A8, c8, rfl, hc8, hr8, hb8⟩))
      obtain rfl : t = true := ht.2 ⟨inB_iff.2 hinB, HSE.out⟩
      simp only [cond_true] at hr8 hc8 ⊢
      have HB8 := Lib.hid (show Below wr.heap.size wr w8 from below_tr (Below.refl wr.heap.size wr).drew hb8)
      have HW8 := Lib.hid (HBW.out.trans (HB8.out.mono HBW.out.size))
      have HR8 := Lib.hid hr8
      obtain ⟨⟨g1, g2⟩, d0, d1, d2⟩ := KE.out _ HW8.out
      obtain ⟨z, hz⟩ : ∃ z, K + j = z := ⟨_, rfl⟩
      have HZ := Lib.hid hz
      have hzI : (K : Int) + (j : Int) = (z : Int) := by omega
      have hzN : z < N := by have := HNK.out; omega
      have hzNI : (z : Int) < (N : Int) := by omega
      have c1 := CA.out w8 (below_tr HB6.out HW8.out) z hzN
      have hbw8 : b < w8.heap.size := Nat.lt_of_lt_of_le hbwr HB8.out.size
      clear ht hc8 hr8 hb8 f1 f2 q1 q2' KEEP HC hz
      go_wp2_with fail
      refine (radd24 b (F z) (mulB (qP p).p (nP p) y (fun j => F I j ^^^ f j)) (HFF.out z) (fun j => mulB_lt _ _ _ _ j) (As z) A8 nb nb (Cs z) c8 hS2 _ hbw8 (by have h5 := (HRS.out z hzN).below (below_tr H6.out HW8.out); rw [HLS.out z hzN] at h5; exact h5) HR8.out).mono ?_
      rintro e w9 ⟨t, v9, rfl, ht, A9, c9, rfl, hc9, hr9, hb9⟩
      obtain rfl : t = true := ht.2 rfl
      simp only [cond_true] at hr9 hc9 ⊢
      have HB9 := Lib.hid (below_tr HB8.out hb9)
      have HW9 := Lib.hid (HBW.out.trans (HB9.out.mono HBW.out.size))
      have HU9 := Lib.hid (HU.out.below' HB9.out)
      have HRN := Lib.hid (show ∀ x, (x < w.heap.size ∨ x = g0) → Rd x w9 (u8s (updF p K M F I f (K + j))) A9 nb from fun x hx => by
        have hxl : x < w8.heap.size := by
          have h5 := HG.out
          have h6 := HB8.out.size
          have h7 := HU.out.rows
          obtain ⟨_, _, _, hrw, _⟩ := h7
          have := hrw.lt
          have h8 := H6.out.size
          rcases hx with hx | hx <;> omega
        refine (hc9.2 x hxl).congr (fun j' _ => ?_)
        simp only [u8s]
        unfold updF
        rw [if_neg (by omega), if_neg (by omega), Nat.add_sub_cancel_left, HY.out, HZ.out])
      have HS := Lib.hid (HU9.out.step (cd := c9) HG.out.1 hIK HRN.out (by have := HZ.out; omega))
      rw [HZ.out] at HS
      obtain ⟨_, _, K9, hrw, _⟩ := HU9.out.rows
      have hgz : z < cg := by omega
      have k1 := hrw.cell hgz
      have k2 := hrw.frozen z
      obtain ⟨⟨g1, g2⟩, d3, d4, d5⟩ := KE.out _ HW9.out
      clear ht hc9 hr9 hb9 hrw HU HU9 HRN c1 d0 d1 d2
      go_wp2_with fail
      exact ⟨⟨j + 1, hlt, by go_num, HS.out⟩, by simp [intOf]; omega⟩
    · obtain rfl : M = j := by omega
      obtain ⟨Bs, Ds, K1, hrw, r1, r2, r3, r4⟩ := HU.out.rows
      have HQ := Lib.hid (HEE.out (some ⟨g0, 0, none⟩) cg wr hcg (H6.out.trans (hb.mono H6.out.size)) (fun x hx ha hbx => by
        have hxg : g0 ≠ x := by have := HG.out.1; have := H6.out.size; omega
        have hwr : Below w.heap.size w wr := H6.out.trans (hb.mono H6.out.size)
        refine ⟨Bs, Ds, (Rd.of_row hrw hxg hcg).congr (fun r hr => r1 r hr), fun r hr => ?_⟩
        by_cases e : r = I
        · rw [e, r2.1]
          exact (hbx.below hwr).congr (fun j' _ => by simp only [u8s]; unfold updF; rw [if_pos rfl])
        · by_cases e2 : r < K
          · rw [(r3 r e (Or.inl e2)).1]
            have h5 := (ha r hr).below hwr
            rw [HLS.out r hr] at h5
            exact h5.congr (fun j' _ => by simp only [u8s]; unfold updF; rw [if_neg e, if_pos e2])
          · exact r4 r (by omega) (by have := HNK.out; omega) x (Or.inl hx)))
      clear hrw r1 r2 r3 r4 hb
      go_wp2_with fail
      go_ret2
      exact HQ.out
end Go.Proofs.YtgdgimknnjbieaaGreatDoor

namespace Go.Proofs.YtgdgimknnjbieaaGreatDoor

/-- any K of them: all -/
theorem reb_any {p : Int} {K m : Nat} (hX : mayX p K m) {h : Nat → Bool} (hc : K ≤ cntT h (K + m)) {F L : Nat → Nat → Nat} (hF : ∀ r j, F r j < 256) (hL : ∀ r, r < K + m → h r = true → L r = shF p K m F r) {r : Nat} (hr : r < K + m) : rebF p K m (K + m) h L r = shF p K m F r := by
  have hK : 0 < K := by have := hX.2.1; omega
  have hd : ∀ i, i < K → datF p K m (atT h (K + m)) L i = F i := fun i hi =>
    dat_any hX (fun i hi => (atT_spec (K + m) (by omega)).1) (fun i j hi hj e => atT_inj (by omega) (by omega) e) hF (fun i hi => by have h5 := atT_spec (h := h) (r := i) (K + m) (by omega); exact hL _ h5.1 h5.2.1) hi
  funext j
  unfold rebF
  by_cases e : h r = true
  · rw [if_pos e, hL r hr e]
  · rw [if_neg e]
    unfold shF
    by_cases hrK : r < K
    · rw [if_pos hrK, if_pos hrK, hd r hrK]
    · rw [if_neg hrK, if_neg hrK, parF_rows hK hd]
/-- .. and the data -/
theorem dat_all {p : Int} {K m : Nat} (hX : mayX p K m) {h : Nat → Bool} (hc : K ≤ cntT h (K + m)) {F L : Nat → Nat → Nat} (hF : ∀ r j, F r j < 256) (hL : ∀ r, r < K + m → h r = true → L r = shF p K m F r) {i : Nat} (hi : i < K) : datF p K m (atT h (K + m)) L i = F i :=
  dat_any hX (fun i hi => (atT_spec (K + m) (by omega)).1) (fun i j hi hj e => atT_inj (by omega) (by omega) e) hF (fun i hi => by have h5 := atT_spec (h := h) (r := i) (K + m) (by omega); exact hL _ h5.1 h5.2.1) hi
/-- all shards of whatever data are verified -/
theorem ver_sh {p : Int} {K m S : Nat} {F : Nat → Nat → Nat} (h : mayX p K m) (hS : S % nP p = 0) : verP p K m (K + m) (fun _ => S) (shF p K m F) := by
  have hk : 0 < K := by have := h.2.1; omega
  refine ⟨h, by omega, fun _ _ => ⟨rfl, hS⟩, fun i hi => ⟨rfl, fun j _ => ?_⟩⟩
  rw [Int.toNat_natCast, Int.toNat_natCast]
  have e : shF p K m F (K + i) j = parF p K m F i j := by
    unfold shF
    rw [if_neg (by omega), Nat.add_sub_cancel_left]
  rw [e]
  exact congrFun (parF_rows hk (fun r hr => by unfold shF; funext j; rw [if_pos hr])) j
/-- what is updated is what would have been encoded -/
theorem upd_sh {p : Int} {K m i S r j : Nat} {F : Nat → Nat → Nat} {g : Nat → Nat} (hF : ∀ r j, F r j < 256) (hg : ∀ j, g j < 256) (hi : i < K) (hS : S % nP p = 0) (hj : j < S) : updF p K m (shF p K m F) i g r j = shF p K m (setF F i g) r j := by
  unfold updF
  by_cases e : r = i
  · rw [if_pos e]
    unfold shF setF
    rw [if_pos (by omega), if_pos e]
  · rw [if_neg e]
    by_cases hr : r < K
    · rw [if_pos hr]
      unfold shF setF
      rw [if_pos hr, if_pos hr, if_neg e]
    · rw [if_neg hr]
      have e1 : shF p K m F r j = parF p K m F (r - K) j := by unfold shF; rw [if_neg hr]
      have e2 : shF p K m (setF F i g) r j = parF p K m (setF F i g) (r - K) j := by unfold shF; rw [if_neg hr]
      have e3 : (fun j => shF p K m F i j ^^^ g j) = fun j => F i j ^^^ g j := by funext j; unfold shF; rw [if_pos hi]
      rw [e1, e2, e3, par_set hF hg hi hS hj]
/-- updated back it is as it was -/
theorem upd_back {p : Int} {K m i r j : Nat} {F : Nat → Nat → Nat} {g : Nat → Nat} : updF p K m (updF p K m F i g) i (F i) r j = F r j := by
  have e0 : updF p K m F i g i = g := by funext j; unfold updF; rw [if_pos rfl]
  have e3 : (fun j => updF p K m F i g i j ^^^ F i j) = fun j => F i j ^^^ g j := by funext j; rw [e0, Nat.xor_comm]
  show (if r = i then F i j else if r < K then updF p K m F i g r j else updF p K m F i g r j ^^^ mulB (qP p).p (nP p) (ivs (rowsE p K m) (r - K) i) (fun j => updF p K m F i g i j ^^^ F i j) j) = F r j
  rw [e3]
  by_cases e : r = i
  · rw [if_pos e, e]
  · rw [if_neg e]
    have e1 : updF p K m F i g r j = if r < K then F r j else F r j ^^^ mulB (qP p).p (nP p) (ivs (rowsE p K m) (r - K) i) (fun j => F i j ^^^ g j) j := if_neg e
    rw [e1]
    by_cases hr : r < K
    · rw [if_pos hr, if_pos hr]
    · rw [if_neg hr, if_neg hr, Nat.xor_assoc, Nat.xor_self, Nat.xor_zero]
end Go.Proofs.YtgdgimknnjbieaaGreatDoor
