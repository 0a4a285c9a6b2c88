/- Layer 11: contracts of the document's Even and Parity. Layer 11: the contract of the document's Parity. Layer 11: the contract of the document's Encode. Layer 11: the contract of the document's Verify. -/
import Derived.Test.YtgdgimknnjbieaaGreatDoorGya
import Derived.Test.YtgdgimknnjbieaaGreatDoorPrg
import Derived.Test.YtgdgimknnjbieaaGreatDoorGxy
import Derived.Deep.RegionHeld3
import Derived.BigQuiet
import Derived.Test.YtgdgimknnjbieaaGreatDoorGye

namespace Go.Proofs.YtgdgimknnjbieaaGreatDoor
open Go.RowKit

/-- what the document's Even tells -/
def REvenSaid (p : Int) (N : Nat) (Ls : Nat → Nat) (w : World) (e : Ending) (w' : World) : Prop := ∃ t, e = .returned (.bool t) ∧ (t = true ↔ evenP p N Ls) ∧ Below w.heap.size w w'
/-- in its loop -/
def REvenAt (p : Int) (N : Nat) (Ls : Nat → Nat) (w : World) (s : Value) (wr : World) : Prop := ∃ k : Nat, k ≤ N ∧ s = .int .i64 k ∧ (∀ r, r < k → Ls r = Ls 0 ∧ Ls r % nP p = 0) ∧ Below w.heap.size w wr
theorem bits_mod {p : Int} (n : Nat) : ((8 * (n : Int)) % (wdP p : Int) = 0) ↔ n % nP p = 0 := by
  unfold wdP nP
  split <;> omega

set_option maxRecDepth 100000 in
set_option maxHeartbeats 1000000 in
theorem reven26 (b : Nat) (p k m : Int) (hp : 1 ≤ p ∧ p ≤ 6) (As : Nat → Option Addr) (Ls Cs : Nat → Nat) (A : Option Addr) (N c : Nat) (hN : N ≤ 1000000000) (hL : ∀ r, r < N → Ls r ≤ 1000000000) (w : World) (hr : Rd b w (slis As Ls Cs) A N) :
    Calls Tryz.prog 31 #[.agg (parA p k m), .slice A N c] w (REvenSaid p N Ls w) := by
  have H0 := Lib.hid ((Below.refl _ w).alloc (Nat.le_refl _) (.cells (parA p k m) TPa))
  have HB := Lib.hid (bitsP hp)
  have HR := Lib.hid hr
  have HL := Lib.hid hL
  have HBM := Lib.hid (fun n => bits_mod (p := p) n)
  have HB8 := Lib.hid (show wdP p = 8 ∨ wdP p = 16 by unfold wdP; split; exact Or.inr rfl; exact Or.inl rfl)
  clear hp hr hL
  go_enter Tryz.func31, Tryz.ntmps31
  go_wp2_with fail
  refine (rof9 p _).mono ?_
  rintro e w1 ⟨rfl, hb1⟩
  obtain ⟨B, hB⟩ : ∃ B, wdP p = B := ⟨_, rfl⟩
  rw [hB] at HBM HB8
  have hB8 := HB8.out
  simp only [rowA, HB.out, hB] at ⊢
  obtain ⟨w2, hw2⟩ : ∃ w2, w1.alloc (.cells #[.string (tagI p), .int .i64 (B : Int), .int .u32 (polyI p), .int .u8 (layI p), .int .i64 (maxI p)] TRw) = w2 := ⟨_, rfl⟩
  obtain ⟨_, er, hbr⟩ := one_box hw2
  have ER := Lib.hid er
  have HW := Lib.hid (below_tr (below_tr H0.out hb1) hbr)
  have hw2z := HW.out.size
  clear hb1 H0 HB hB HB8 er hbr
  have HBZ := Lib.hid (show ¬ B = 0 by omega)
  go_wp2_with fail
  go_loopw [7] (fun s wr => REvenAt p N Ls w2 s wr) (fun s _ => N - (intOf s).toNat)
  case atStart => exact ⟨0, Nat.zero_le _, rfl, fun r hr => absurd hr (by omega), Below.refl _ _⟩
  case round =>
    obtain ⟨i, hiN, rfl, hall, hbl⟩ := hrel
    have HALL := Lib.hid hall
    have HBL := Lib.hid (below_tr HW.out hbl)
    have HBR := Lib.hid hbl
    have hf := box_at (i := 1) (kept_box ER.out hbl) rfl
    clear hall hbl
    by_cases hlt : i < N
    · obtain ⟨ad, rfl, c1⟩ := (HR.out.below HBL.out).at_ hlt
      obtain ⟨ad', e', c0⟩ := (HR.out.below HBL.out).at_ (show 0 < N by omega)
      injection e' with e'
      subst e'
      rw [show ad.add 0 = ad by simp [Addr.add]] at c0
      simp only [slis] at c1 c0
      have hl1 := HL.out i hlt
      have hl0 := HL.out 0 (by omega)
      by_cases hLe : Ls i = Ls 0
      · have hd : ((Ls i : Int) != (Ls 0 : Int)) = false := by simp [hLe]
        by_cases hz : Ls 0 % nP p = 0
        · have hd2 : ((8 * (Ls 0 : Int)) % (B : Int) != 0) = false := by simp [(HBM.out (Ls 0)).2 hz]
          have HQ := Lib.hid (fun q => show REvenAt p N Ls w2 (.int .i64 ((i : Int) + 1)) (wr.drewN q) from ⟨i + 1, hlt, by go_num, fun r hr => (Nat.lt_succ_iff_lt_or_eq.1 hr).elim (HALL.out r) (fun h => by rw [h, hLe]; exact ⟨rfl, hz⟩), HBR.out.trans ((below_drewN' _ _).mono HBR.out.size)⟩)
          go_wp2_with fail
          go_quiet (fail)
          go_wp2_with fail
          exact ⟨HQ.out _, by simp [intOf]; omega⟩
        · have hd2 : ((8 * (Ls 0 : Int)) % (B : Int) != 0) = true := by simp; exact fun h => hz ((HBM.out (Ls 0)).1 h)
          have HQ := Lib.hid (fun q => show REvenSaid p N Ls w (.returned (.bool false)) (wr.drewN q) from ⟨false, rfl, by simp only [Bool.false_eq_true, false_iff]; exact fun h => hz (h 0 (by omega)).2, HBL.out.trans ((below_drewN' _ _).mono HBL.out.size)⟩)
          go_wp2_with fail
          go_quiet (fail)
          go_wp2_with fail
          go_ret
          exact HQ.out _
      · have hd : ((Ls i : Int) != (Ls 0 : Int)) = true := by simp; omega
        have HQ := Lib.hid (fun q => show REvenSaid p N Ls w (.returned (.bool false)) (wr.drewN q) from ⟨false, rfl, by simp only [Bool.false_eq_true, false_iff]; exact fun h => hLe (h i hlt).1, HBL.out.trans ((below_drewN' _ _).mono HBL.out.size)⟩)
        go_wp2_with fail
        go_quiet (fail)
        go_wp2_with fail
        go_ret
        exact HQ.out _
    · obtain rfl : i = N := by omega
      have HE := Lib.hid (show REvenSaid p i Ls w (.returned (.bool true)) wr from ⟨true, rfl, by simp only [true_iff]; exact HALL.out, HBL.out⟩)
      go_wp2_with fail
      go_ret
      exact HE.out
end Go.Proofs.YtgdgimknnjbieaaGreatDoor

namespace Go.Proofs.YtgdgimknnjbieaaGreatDoor
open Go.RowKit

/-- what Parity tells -/
def CParSaid (p k m : Int) (N : Nat) (Ls : Nat → Nat) (F : Nat → Nat → Nat) (w : World) (e : Ending) (w' : World) : Prop :=
  ∃ t v, e = .returned (.tuple #[v, .int .i64 (errOf t)]) ∧ (t = true ↔ parP p k m N Ls) ∧ RowsTold (cond t m.toNat 0) (parF p k.toNat m.toNat F) (fun _ => Ls 0) w v w'
theorem CParSaid.no {p k m : Int} {N : Nat} {Ls : Nat → Nat} {F : Nat → Nat → Nat} {w w' : World} (h : ¬ parP p k m N Ls) (hb : Below w.heap.size w w') : CParSaid p k m N Ls F w (.returned (.tuple #[nilS, .int .i64 1])) w' :=
  ⟨false, _, rfl, by simp [h], RowsTold.nil hb⟩

theorem dot_ok {p : Int} {K m i : Nat} {Ls : Nat → Nat} (k1 : 1 ≤ K) (h : evenP p K Ls) : DotOk (qP p).p (nP p) K K (fun c => ivs (rowsE p K m) i c) Ls :=
  ⟨rfl, by omega, fun r hr => ⟨inB_iff.2 (ivs_in _ i r), (h r hr).2, (h r hr).1⟩⟩

set_option maxRecDepth 100000 in
set_option maxHeartbeats 4000000 in
theorem rpar12 (b : Nat) (p k m : Int) (As : Nat → Option Addr) (Ls Cs : Nat → Nat) (F : Nat → Nat → Nat) (hF : ∀ r j, F r j < 256) (A : Option Addr) (N c : Nat) (hN : N ≤ 1000000000) (hL : ∀ r, r < N → Ls r ≤ 1000) (w : World) (h0 : b < w.heap.size)
    (hr : Rd b w (slis As Ls Cs) A N) (hrs : ∀ r, r < N → Rd b w (u8s (F r)) (As r) (Ls r)) :
    Calls Tryz.prog 43 #[.agg (parA p k m), .slice A N c] w (CParSaid p k m N Ls F w) := by
  obtain ⟨i0, hi, hz0, hz1, hz2⟩ := info_parts infoS
  obtain ⟨v, hv⟩ : ∃ v, w.alloc (.cells #[.int .i64 p, .int .i64 k, .int .i64 m] TPa) = v := ⟨_, rfl⟩
  obtain ⟨_, e0, hbv⟩ := one_box hv
  have E0 := Lib.hid e0
  have HV := Lib.hid hbv
  have HR := Lib.hid hr
  have HRS := Lib.hid hrs
  have HL := Lib.hid hL
  have HFF := Lib.hid hF
  clear e0 hbv hr hrs hL hF
  obtain ⟨d0, d1, d2⟩ := box_three E0.out
  go_enter Tryz.func43, Tryz.ntmps43
  go_wp2_with fail
  refine (rmay16 p k m _).mono ?_
  rintro e w1 ⟨t, rfl, ht, hb1⟩
  have H1 := Lib.hid (below_tr HV.out hb1)
  have E1 := Lib.hid (kept_box E0.out hb1)
  have HM := Lib.hid ht
  clear ht hb1 d0 d1 d2 HV
  obtain ⟨d0, d1, d2⟩ := box_three E1.out
  cases t
  · have HE := Lib.hid (CParSaid.no (F := F) (p := p) (k := k) (m := m) (N := N) (Ls := Ls) (fun h => by have := HM.out.2 h.1; cases this) H1.out)
    go_wp2_with fail
    go_ret2
    exact HE.out
  by_cases hk : (N : Int) = k
  · subst hk
    have hnn : (((N : Nat) : Int) != (N : Int)) = false := by simp
    have HP := Lib.hid (HM.out.1 rfl)
    go_wp2_with fail
    refine (reven26 b p N m HP.out.1 As Ls Cs A N c hN (fun r hr => Nat.le_trans (HL.out r hr) (by omega)) _ (HR.out.below H1.out)).mono ?_
    rintro e w2 ⟨t, rfl, ht, hb2⟩
    have H2 := Lib.hid (below_tr H1.out hb2)
    have E2 := Lib.hid (kept_box E1.out hb2)
    have HT := Lib.hid ht
    clear ht hb2 d0 d1 d2
    obtain ⟨d0, d1, d2⟩ := box_three E2.out
    cases t
    · have HE := Lib.hid (CParSaid.no (F := F) (p := p) (k := N) (m := m) (N := N) (Ls := Ls) (fun h => by have := HT.out.2 h.2.2; cases this) H2.out)
      go_wp2_with fail
      go_ret2
      exact HE.out
    obtain ⟨M, rfl⟩ : ∃ M : Nat, m = M := ⟨m.toNat, by have := HP.out.2.2.1; omega⟩
    have HEV := Lib.hid (HT.out.1 rfl)
    have HK := Lib.hid HP.out.2.1
    have HM4 := Lib.hid (show M ≤ 4 by have := (max_pos HP.out.1).2; have := HP.out.2.2.2; omega)
    have HBI := Lib.hid (bitsP HP.out.1)
    have HPO := Lib.hid (polyP HP.out.1)
    go_wp2_with fail
    refine (rof9 p _).mono ?_
    rintro e w3 ⟨rfl, hb3⟩
    simp only [rowA, HBI.out, HPO.out]
    obtain ⟨w4, hw4⟩ : ∃ w4, w3.alloc (.cells #[.string (tagI p), .int .i64 (wdP p : Nat), .int .u32 ((qP p).p : Nat), .int .u8 (layI p), .int .i64 (maxI p)] TRw) = w4 := ⟨_, rfl⟩
    obtain ⟨_, er, hbr⟩ := one_box hw4
    have ER := Lib.hid er
    have H4 := Lib.hid (below_tr (below_tr H2.out hb3) hbr)
    have E4 := Lib.hid (kept_box (kept_box E2.out hb3) hbr)
    clear hb3 d0 d1 d2 er hbr H1 E1 HBI HPO HT HM
    obtain ⟨d0, d1, d2⟩ := box_three E4.out
    go_wp2_with fail
    refine (rpar13 p N M b _ (Nat.lt_of_lt_of_le h0 H4.out.size)).mono ?_
    rintro e w5 ⟨t, A5, c5, rfl, ht5, hx5, hb5⟩
    obtain rfl : t = true := ht5.2 HP.out
    obtain ⟨As5, Cs5, hx1, hx2⟩ := hx5
    simp only [Int.toNat_natCast, cond_true] at hx1 hx2 ⊢
    have HX1 := Lib.hid hx1
    have HX2 := Lib.hid hx2
    have H5 := Lib.hid (below_tr H4.out hb5)
    have ER5 := Lib.hid (kept_box ER.out hb5)
    have hp0 : 0 < w5.heap.size := Nat.lt_of_lt_of_le (Nat.lt_of_le_of_lt (Nat.zero_le _) h0) H5.out.size
    have hbw5 : b < w5.heap.size := Nat.lt_of_lt_of_le h0 H5.out.size
    clear hb5 d0 d1 d2 ht5 hx1 hx2 ER
    go_wp2_with fail
    go_loopw [10, 11] (fun s10 s11 wr => ∃ i : Nat, i ≤ M ∧ s11 = .int .i64 i ∧ BApp w5 (parF p N M F) (fun _ => Ls 0) i s10 wr) (fun _ s11 _ => M - (intOf s11).toNat)
    case atStart => exact ⟨0, Nat.zero_le _, rfl, BApp.start _ _ _⟩
    case round =>
      obtain ⟨i, hiM, rfl, happ⟩ := hrel
      have HAPP := Lib.hid happ
      have HBI := Lib.hid happ.1
      have hsz := happ.1.size
      clear happ
      by_cases hlt : i < M
      · obtain ⟨ad5, rfl, c1⟩ := (HX1.out.below HBI.out).at_ hlt
        have KEEP := Lib.hid (show ∀ w', Below w5.heap.size w5 w' → w'.cell? ⟨w3.heap.size, 1, none⟩ = some (.int .i64 (wdP p : Nat)) ∧ w'.cell? ⟨w3.heap.size, 2, none⟩ = some (.int .u32 ((qP p).p : Nat)) ∧ w'.cell? (ad5.add i) = some (.slice (As5 i) N (Cs5 i)) from fun w' hb' => by
          obtain ⟨a1, e1, h1⟩ := (HX1.out.below hb').at_ hlt
          injection e1 with e1
          subst e1
          exact ⟨box_at (i := 1) (kept_box ER5.out hb') rfl, box_at (i := 2) (kept_box ER5.out hb') rfl, h1⟩)
        have hB5 := below_tr H5.out HBI.out.drew
        have HC := Lib.hid (rdot20 (qP p).p b (wdP p) (nP p) (goodP p) (wideP p) (fun c => ivs (rowsE p N M) i c) F HFF.out (As5 i) N N (Cs5 i) c (by have := HK.out; omega) As Ls Cs A HL.out wr.drew (Nat.lt_of_lt_of_le h0 hB5.size)
          ((HX2.out i hlt).below HBI.out.drew) (HR.out.below hB5) (fun r hr => (HRS.out r hr).below hB5))
        obtain ⟨f1, f2, f3⟩ := KEEP.out wr HBI.out
        simp only [slis] at c1
        clear hB5 c1
        go_wp2_with fail
        go_region_held3 (fun w' => w'.cell? ⟨w3.heap.size, 1, none⟩ = some (.int .i64 (wdP p : Nat)) ∧ w'.cell? ⟨w3.heap.size, 2, none⟩ = some (.int .u32 ((qP p).p : Nat)) ∧ w'.cell? (ad5.add i) = some (.slice (As5 i) N (Cs5 i)))
          (first | exact ⟨f1, f2, f3⟩ | exact KEEP.out _ (below_tr HBI.out.drew hb6) | assumption)
          ((go_at_call 38; refine HC.out.mono ?_; rintro e w6 ⟨t, v6, rfl, ht, A6, c6, rfl, hc6, hr6, hb6⟩))
        obtain rfl : t = true := ht.2 (dot_ok (by have := HK.out; omega) HEV.out)
        have HAP6 := Lib.hid (HAPP.out.below (show Below wr.heap.size wr w6 from below_tr (Below.refl wr.heap.size wr).drew hb6))
        have HRY := Lib.hid (show ∀ g, (g < w5.heap.size ∨ u10.ownBlock = some g) → Rd g w6 (u8s (parF p N M F i)) A6 (Ls 0) from fun g hg => hc6.2 g (by
          show g < wr.heap.size
          rcases hg with hg | hg
          · exact Nat.lt_of_lt_of_le hg hsz
          · obtain ⟨_, _, _, hown, _⟩ := HAPP.out
            exact (hown.lt g hg).2))
        simp only [cond_true]
        clear ht hc6 hr6 hb6 f1 f2 f3 KEEP HC HAPP HBI
        obtain ⟨hb0, As0, Cs0, hown0, hrow0⟩ := HAP6.out
        have HBB := Lib.hid hb0
        have HOWN := Lib.hid hown0
        have HROW := Lib.hid hrow0
        have hsz3 := hb0.size
        clear hb0 hown0 hrow0
        have hi4 := HM4.out
        go_wp2_with (at_builtin; refine wpList_append_lies _ rfl _ _ TRs rfl w5.heap.size TBs i0 nilS 1 24 Tryz.underlying24 hi hz0 hz1 hz2 rfl (by decide) _ i _ rfl (HOWN.out.alloc _) ⟨w6.heap.size, 0, none⟩ 1 1 [.slice A6 (Ls 0) c6] rfl rfl (news_one rfl) (one_slice' _ _ _) (by omega) (by unfold maxLen; omega) (by omega) (by simp; omega) _ rfl ?_)
        intro g' cap' w7 hown2 hgr2 hg2 _
        have HS := Lib.hid (BApp.step (F := parF p N M F) (Ls := fun _ => Ls 0) hp0 HBB.out HOWN.out HROW.out rfl HRY.out hown2 hgr2 hg2)
        clear hown2 hgr2 hg2
        go_wp2_with fail
        exact ⟨⟨i + 1, hlt, by go_num, HS.out⟩, by simp [intOf]; omega⟩
      · obtain rfl : i = M := by omega
        have HQ := Lib.hid (fun v (h : BApp w5 (parF p N i F) (fun _ => Ls 0) i v wr) => show CParSaid p N i N Ls F w (.returned (.tuple #[v, .int .i64 0])) wr from
          ⟨true, v, rfl, by simp only [true_iff]; exact ⟨HP.out, rfl, HEV.out⟩, by simp only [cond_true, Int.toNat_natCast]; exact (h.told hp0).from H5.out⟩)
        go_wp2_with fail
        go_ret2
        exact HQ.out _ HAPP.out
  · have hne : (((N : Nat) : Int) != k) = true := by simp [hk]
    have HE := Lib.hid (CParSaid.no (F := F) (p := p) (k := k) (m := m) (N := N) (Ls := Ls) (fun h => hk h.2.1) H1.out)
    go_wp2_with fail
    go_ret2
    exact HE.out
end Go.Proofs.YtgdgimknnjbieaaGreatDoor

namespace Go.Proofs.YtgdgimknnjbieaaGreatDoor
open Go.RowKit

/-- how many shards are told -/
def encN (p k m : Int) (n : Nat) : Nat := if szE p k m n = 0 then k.toNat + m.toNat else 0
/-- what Encode tells -/
def EncSaid (p k m : Int) (n : Nat) (f : Nat → Nat) (w : World) (e : Ending) (w' : World) : Prop :=
  ∃ v, e = .returned (.tuple #[v, .int .i64 (szE p k m n)]) ∧ RowsTold (encN p k m n) (encF p k.toNat m.toNat (szN p k m n) n f) (fun _ => szN p k m n) w v w'

/-- rows of two kinds, one behind the other -/
def catC {α : Type} (K : Nat) (X Y : Nat → α) : Nat → α := fun r => if r < K then X r else Y (r - K)
theorem catC_lt {α : Type} {K : Nat} {X Y : Nat → α} {r : Nat} (h : r < K) : catC K X Y r = X r := if_pos h
theorem catC_ge {α : Type} {K : Nat} {X Y : Nat → α} (r : Nat) : catC K X Y (K + r) = Y r := by unfold catC; rw [if_neg (by omega), Nat.add_sub_cancel_left]
theorem slis_cat (K M S : Nat) (As Bs : Nat → Option Addr) (Cs Ds : Nat → Nat) : (List.range K).map (slis As (fun _ => S) Cs) ++ (List.range M).map (slis Bs (fun _ => S) Ds) = (List.range (K + M)).map (slis (catC K As Bs) (fun _ => S) (catC K Cs Ds)) := by
  rw [range_cat]
  congr 1
  · exact range_congr (fun j hj => by simp only [slis]; rw [catC_lt hj, catC_lt hj])
  · exact range_congr (fun j hj => by simp only [slis]; rw [catC_ge, catC_ge])
theorem some_of {b : Nat} {w : World} {k : Nat → Value} {A : Option Addr} {n c : Nat} (h : Rd b w k A n) (hn : 0 < n) : A = none → c = 0 := fun e => by
  obtain ⟨_, e', _⟩ := h hn
  rw [e] at e'
  cases e'
/-- where rows lie that are told: apart from all that lay there -/
theorem rows_at {H n : Nat} {F : Nat → Nat → Nat} {Ls : Nat → Nat} {w : World} {A : Option Addr} (h : ∀ b, b < H → Bx b w F Ls A n) (h0 : 0 < H) :
    ∃ (As : Nat → Option Addr) (Cs : Nat → Nat), ∀ g, g < H → Rd g w (slis As Ls Cs) A n ∧ ∀ r, r < n → Rd g w (u8s (F r)) (As r) (Ls r) := by
  obtain ⟨As, Cs, h1, h2⟩ := h 0 h0
  refine ⟨As, Cs, fun g hg => ?_⟩
  obtain ⟨As', Cs', h3, h4⟩ := h g hg
  have e : ∀ r, r < n → slis As' Ls Cs' r = slis As Ls Cs r := fun r hr => by
    obtain ⟨a1, e1, c1⟩ := h1.at_ hr
    obtain ⟨a3, e3, c3⟩ := h3.at_ hr
    rw [e1] at e3
    injection e3 with e3
    subst e3
    rw [c1] at c3
    injection c3 with c3
    exact c3.symm
  refine ⟨h3.congr e, fun r hr => ?_⟩
  have e2 := e r hr
  simp only [slis] at e2
  injection e2 with e2
  rw [← e2]
  exact h4 r hr
/-- rows of two kinds that were appended behind nothing -/
theorem rows_cat {K M S : Nat} {p : Int} {n : Nat} {f : Nat → Nat} {w w3 w4 : World} {v : Value} {As Bs : Nat → Option Addr} {Cs Ds : Nat → Nat} (h3 : Below w.heap.size w w3)
    (hown : w4.ownsRow w3.heap.size TBs 1 v (K + M) ((List.range K).map (slis As (fun _ => S) Cs) ++ (List.range M).map (slis Bs (fun _ => S) Ds))) (hb : Below w3.heap.size w3 w4) (h0 : 0 < w.heap.size)
    (hA : ∀ g, g < w.heap.size → ∀ r, r < K → Rd g w3 (u8s (splF p S n f r)) (As r) S) (hB : ∀ g, g < w.heap.size → ∀ r, r < M → Rd g w3 (u8s (parF p K M (splF p S n f) r)) (Bs r) S) :
    RowsTold (K + M) (encF p K M S n f) (fun _ => S) w v w4 := by
  rw [slis_cat] at hown
  have hz := h3.size
  obtain ⟨A, c, e, hc, _⟩ := Rd.of_own hown (show 0 < w3.heap.size by omega)
  refine ⟨A, c, e, hc, fun g hg => ⟨catC K As Bs, catC K Cs Ds, ?_, fun r hr => ?_⟩, below_tr h3 hb⟩
  · obtain ⟨A2, c2, e2, _, h5⟩ := Rd.of_own hown (show g < w3.heap.size by omega)
    rw [e] at e2
    injection e2 with e2
    subst e2
    exact h5
  · by_cases hrK : r < K
    · rw [catC_lt hrK]
      exact ((hA g hg r hrK).below hb).congr (fun j _ => by simp only [u8s]; unfold encF; rw [if_pos hrK])
    · obtain ⟨q, rfl⟩ : ∃ q, r = K + q := ⟨r - K, by omega⟩
      rw [catC_ge]
      exact ((hB g hg q (by omega)).below hb).congr (fun j _ => by simp only [u8s]; unfold encF; rw [if_neg (by omega), Nat.add_sub_cancel_left])

set_option maxRecDepth 100000 in
set_option maxHeartbeats 4000000 in
theorem renc17 (b : Nat) (p k m : Int) (f : Nat → Nat) (hf : ∀ j, f j < 256) (B : Option Addr) (n cb : Nat) (hn : n ≤ 900) (hc : B = none → cb = 0) (w : World) (h0 : b < w.heap.size) (hr : Rd b w (u8s f) B n) :
    Calls Tryz.prog 23 #[.agg (parA p k m), .slice B n cb] w (EncSaid p k m n f w) := by
  obtain ⟨i0, hi, hz0, hz1, hz2⟩ := info_parts infoS
  obtain ⟨v, hv⟩ : ∃ v, w.alloc (.cells #[.int .i64 p, .int .i64 k, .int .i64 m] TPa) = v := ⟨_, rfl⟩
  obtain ⟨_, e0, hbv⟩ := one_box hv
  have E0 := Lib.hid e0
  have HV := Lib.hid hbv
  have hp0 : 0 < w.heap.size := by omega
  have HS := Lib.hid (rsplit13 b p k m f hf B n cb hc v (Nat.lt_of_lt_of_le hp0 hbv.size) (hr.below hbv))
  unfold SplitSaid at HS
  clear e0 hbv hr hc
  obtain ⟨d0, d1, d2⟩ := box_three E0.out
  by_cases hE : szE p k m n = 0
  · obtain ⟨K, rfl, k1, k8, hn2, hm⟩ := sz_ok hE
    obtain ⟨M, rfl⟩ : ∃ M : Nat, m = M := ⟨m.toNat, by have := hm.2.2.1; omega⟩
    have HP := Lib.hid hm
    have hM4 : M ≤ 4 := by have := (max_pos hm.1).2; have := hm.2.2.2; omega
    have hM1 : 1 ≤ M := by have := hm.2.2.1; omega
    have hS2 : szN p K M n ≤ 1000 := by
      rw [(szE_ok hm hn2).1]
      have h1 := szU_le (u := unitL (layI p)) (K := K) (m := aheadL (layI p) + n) (unitL_pos _).1 k1
      have h2 := (unitL_pos (layI p)).2
      have h3 := aheadL_le (layI p)
      omega
    have HSE := Lib.hid (sz_even hE)
    have HEE := Lib.hid (show ∀ v w', RowsTold (K + M) (encF p K M (szN p K M n) n f) (fun _ => szN p K M n) w v w' → EncSaid p K M n f w (.returned (.tuple #[v, .int .i64 0])) w' from fun v w' h => ⟨v, by rw [hE], by
      unfold encN
      rw [if_pos hE, Int.toNat_natCast, Int.toNat_natCast]
      exact h⟩)
    have hSN : splN p K M n = K := (if_pos hE).trans (Int.toNat_natCast K)
    rw [hE, hSN] at HS
    obtain ⟨S, hSS⟩ : ∃ S, szN p K M n = S := ⟨_, rfl⟩
    rw [hSS] at HS HSE HEE hS2
    have HFF := Lib.hid (fun r j => splF_lt (p := p) (S := S) (n := n) hf r j)
    obtain ⟨G, hG⟩ : ∃ G, splF p S n f = G := ⟨_, rfl⟩
    have HG := Lib.hid hG
    rw [hG] at HS HFF
    clear hm hE hSN hSS hG hn2 hf
    go_enter Tryz.func23, Tryz.ntmps23
    go_wp2_with fail
    refine HS.out.mono ?_
    rintro e w1 ⟨v1, rfl, A1, c1, rfl, hc1, hx1, hb1⟩
    have H1 := Lib.hid (below_tr HV.out hb1)
    have E1 := Lib.hid (kept_box E0.out hb1)
    have hvz := HV.out.size
    have HX1 := Lib.hid (show ∀ g, g < w.heap.size → Bx g w1 G (fun _ => S) A1 K from fun g hg => hx1 g (by omega))
    obtain ⟨As, Cs, hxx⟩ := rows_at HX1.out hp0
    have HX2 := Lib.hid (hxx b h0).1
    have HX3 := Lib.hid (hxx b h0).2
    have HXA := Lib.hid (fun g hg => (hxx g hg).2)
    have HNA := Lib.hid (show A1 = none → c1 = 0 from some_of (hxx b h0).1 k1)
    clear hb1 d0 d1 d2 hx1 hxx HS E0
    obtain ⟨d0, d1, d2⟩ := box_three E1.out
    go_wp2_with fail
    refine (rpar12 b p K M As (fun _ => S) Cs G HFF.out A1 K c1 (by omega) (fun _ _ => hS2) _ (Nat.lt_of_lt_of_le h0 H1.out.size) HX2.out HX3.out).mono ?_
    rintro e w2 ⟨t, v2, rfl, ht, hr2⟩
    obtain rfl : t = true := ht.2 ⟨HP.out, rfl, fun _ _ => ⟨rfl, HSE.out⟩⟩
    obtain ⟨A2, c2, rfl, hc2, hx2, hb2⟩ := hr2
    simp only [cond_true, Int.toNat_natCast] at hx2 ⊢
    have H2 := Lib.hid (below_tr H1.out hb2)
    have h1z := H1.out.size
    obtain ⟨Bs, Ds, hyy⟩ := rows_at hx2 (show 0 < w1.heap.size by omega)
    have HY2 := Lib.hid (hyy b (by omega)).1
    have HYA := Lib.hid (fun g (hg : g < w.heap.size) => (hyy g (by omega)).2)
    have HNB := Lib.hid (show A2 = none → c2 = 0 from some_of (hyy b (by omega)).1 hM1)
    have HXB := Lib.hid (fun g hg r hr => (HXA.out g hg r hr).below hb2)
    have HX4 := Lib.hid (HX2.out.below hb2)
    clear hb2 hx2 hyy d0 d1 d2 ht H1 HXA HX2 HX3 HX1
    rw [show errOf true = 0 from rfl]
    go_wp2_with (at_builtin; refine append_rd _ rfl (.tmp 26) (.tmp 27) TRs rfl w2.heap.size TBs i0 nilS 24 Tryz.underlying24 hi hz0 hz1 hz2 rfl _ 0 [] rfl (World.ownsRow_lit w2 #[] 0 (Nat.le_refl _) (Nat.zero_le _) rfl) b _ _ _ _ rfl HNA.out (HX4.out.below (below_alloc _ _)) (one_slis _ _ _) (by unfold maxLen; omega) (by omega) (by simp) ?_)
    intro v3 w3 hown3 hgr3
    have hB3 : Below w2.heap.size w2 w3 := (below_alloc w2 (.cells #[] TBs)).grown hgr3 (by simp) (fun q hq => by simp [Value.ownBlock] at hq; omega)
    have H3 := Lib.hid hB3
    have hsz3 := hB3.size
    have HOWN := Lib.hid hown3
    clear hB3 hown3 hgr3
    go_wp2_with (at_builtin; refine append_rd _ rfl (.tmp 29) (.tmp 30) TRs rfl w2.heap.size TBs i0 nilS 24 Tryz.underlying24 hi hz0 hz1 hz2 rfl v3 K _ rfl HOWN.out b _ _ _ _ rfl HNB.out (HY2.out.below H3.out) (one_slis _ _ _) (by unfold maxLen; omega) (by omega) hsz3 ?_)
    intro v4 w4 hown4 hgr4
    have HB4 := Lib.hid (H3.out.grown hgr4 hsz3 (fun q hq => (HOWN.out.lt q hq).1))
    have HQ := Lib.hid (HEE.out v4 w4 (rows_cat H2.out hown4 HB4.out hp0 (by rw [HG.out]; exact HXB.out) (by rw [HG.out]; exact HYA.out)))
    clear hown4 hgr4
    go_wp2_with fail
    go_ret2
    exact HQ.out
  · have HEE := Lib.hid (show ∀ w', Below w.heap.size w w' → EncSaid p k m n f w (.returned (.tuple #[nilS, .int .i64 (szE p k m n)])) w' from fun w' h => ⟨_, rfl, by
      unfold encN
      rw [if_neg hE]
      exact RowsTold.nil h⟩)
    obtain ⟨x, hx⟩ : ∃ x, szE p k m n = x := ⟨_, rfl⟩
    rw [hx] at HEE HS hE
    have hne : (x != 0) = true := by simp [hE]
    clear hx hE
    go_enter Tryz.func23, Tryz.ntmps23
    go_wp2_with fail
    refine HS.out.mono ?_
    rintro e w1 ⟨v1, rfl, A1, c1, rfl, hc1, hx1, hb1⟩
    have H1 := Lib.hid (below_tr HV.out hb1)
    clear hb1 d0 d1 d2 hx1 HS E0
    go_wp2_with fail
    go_ret2
    exact HEE.out _ H1.out
end Go.Proofs.YtgdgimknnjbieaaGreatDoor

namespace Go.Proofs.YtgdgimknnjbieaaGreatDoor
open Go.RowKit

/-- what Verify tells -/
def VerSaid (p k m : Int) (N : Nat) (Ls : Nat → Nat) (F : Nat → Nat → Nat) (w : World) (e : Ending) (w' : World) : Prop := ∃ t, e = .returned (.bool t) ∧ (t = true ↔ verP p k m N Ls F) ∧ Below w.heap.size w w'
theorem VerSaid.no {p k m : Int} {N : Nat} {Ls : Nat → Nat} {F : Nat → Nat → Nat} {w w' : World} (h : ¬ verP p k m N Ls F) (hb : Below w.heap.size w w') : VerSaid p k m N Ls F w (.returned (.bool false)) w' := ⟨false, rfl, by simp [h], hb⟩
theorem run_headS (A : Option Addr) (q c k : Nat) (h : k ≤ c) (w : World) : (Instr.slice TRs (.slice A q c) none (some (.int .i64 (k : Int))) none).run Tryz.prog w = .ok (.slice A k c) w := by
  have hu : Tryz.prog.underlying TRs = some (.slice (Tryz.prog.elem TRs)) := by rw [elemS]; exact Tryz.underlying24
  rw [run_slice_h w TRs A q c hu .i64 (k : Int) (by omega) (by omega), elemS, sizeS]
  cases A <;> simp [Result.andThen, sliced, Addr.add]
theorem run_headAtS (A : Option Addr) (q c k : Nat) (h : k ≤ c) (w : World) : (Instr.sliceAt TRs (.slice A q c) none (some (.int .i64 (k : Int))) none).run Tryz.prog w = .ok (.slice A k c) w := by
  have hu : Tryz.prog.underlying TRs = some (.slice (Tryz.prog.elem TRs)) := by rw [elemS]; exact Tryz.underlying24
  rw [run_sliceAt_slice w TRs _ _ _ _ hu, run_headS A q c k h]
end Go.Proofs.YtgdgimknnjbieaaGreatDoor
