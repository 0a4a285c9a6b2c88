/- The contract of package region's Dot. -/
import Derived.Test.YtgbipbcejjlpiaaGreatDoorRgu
import Derived.Test.YtgbipbcejjlpiaaGreatDoorRgl
import Derived.Test.YtgbipbcejjlpiaaGreatDoorRgx
import Derived.BigQuiet
import Derived.Deep.QuietTactic
import Derived.Deep.RegionHeld3
namespace Go.Proofs.YtgbipbcejjlpiaaGreatDoor
open Go.RowKit

/-- may these be a sum? -/
def DotOk (p n N N' : Nat) (cs : Nat → Int) (Ls : Nat → Nat) : Prop := N = N' ∧ 0 < N ∧ ∀ r, r < N → inB (M.ord p) (cs r) = true ∧ Ls r % n = 0 ∧ Ls r = Ls 0
/-- the sum -/
def dotB (p n : Nat) (cs : Nat → Int) (F : Nat → Nat → Nat) (N : Nat) : Nat → Nat := sumB (mulB p n (cs 0) (F 0)) (fun r => mulB p n (cs (1 + r)) (F (1 + r))) (N - 1)


set_option maxRecDepth 100000 in
theorem dot_unlike (fv : Value) (Ac Ar : Option Addr) (N N' cc cr : Nat) (hne : N ≠ N') (w : World) :
    Calls Tryz.prog 22 #[fv, .slice Ac N cc, .slice Ar N' cr] w fun e w' => e = .returned (.tuple #[nilS, .int .i64 1]) ∧ Below w.heap.size w w' := by
  have h1 : (((N : Nat) : Int) != ((N' : Nat) : Int)) = true := by simp; omega
  go_enter Tryz.func22, Tryz.ntmps22
  go_wp2_with fail
  go_quiet (fail)
  go_wp2_with fail
  go_ret2
  exact ⟨rfl, below_drewN' _ _⟩

set_option maxRecDepth 100000 in
theorem dot_none (fv : Value) (Ac Ar : Option Addr) (cc cr : Nat) (w : World) :
    Calls Tryz.prog 22 #[fv, .slice Ac 0 cc, .slice Ar 0 cr] w fun e w' => e = .returned (.tuple #[nilS, .int .i64 1]) ∧ Below w.heap.size w w' := by
  go_enter Tryz.func22, Tryz.ntmps22
  go_wp2_with fail
  go_quiet (fail)
  go_wp2_with fail
  go_ret2
  exact ⟨rfl, below_drewN' _ _⟩

set_option maxRecDepth 100000 in
set_option maxHeartbeats 4000000 in
theorem dot_odd (b : Nat) (fv : Value) (Ac : Option Addr) (N cc cr : Nat) (hN : 0 < N) (hN1 : N ≤ 1000) (As : Nat → Option Addr) (Ls Cs : Nat → Nat) (Ar : Option Addr) (w : World) (hr : Rd b w (slis As Ls Cs) Ar N) (hcr : N ≤ cr) (hno : alike (Ls 0) (fun j => Ls (1 + j)) (N - 1) = false) :
    Calls Tryz.prog 22 #[fv, .slice Ac N cc, .slice Ar N cr] w fun e w' => e = .returned (.tuple #[nilS, .int .i64 1]) ∧ Below w.heap.size w w' := by
  have h1 : (((N : Nat) : Int) != ((N : Nat) : Int)) = false := by simp
  have h2 : (((N : Nat) : Int) == 0) = false := by simp; omega
  obtain ⟨ad, rfl, hcell⟩ := hr.at_ hN
  have hcell0 : w.cell? ad = some (.slice (As 0) (Ls 0) (Cs 0)) := by simpa [Addr.add] using hcell
  have hs1 := run_tailAtS (some ad) N cr (by omega)
  have hs2 := run_tailS (some ad) N cr (by omega)
  have hcut := hr.cut (i := 1) hN hcr
  obtain ⟨A1, hA1⟩ : ∃ A1, (if cr = 1 then some ad else (some ad).map (·.add 1)) = A1 := ⟨_, rfl⟩
  rw [hA1] at hs1 hs2 hcut
  clear hA1
  have HC := Lib.hid hcut
  have HNO := Lib.hid hno
  clear hcut hr hno hcell
  go_enter Tryz.func22, Tryz.ntmps22
  go_wp2_with fail
  go_region_held3 (fun w' => w'.cell? ad = some (.slice (As 0) (Ls 0) (Cs 0)))
    (first | exact hcell0 | assumption)
    ((go_at_call 45; refine (alike32 b (As 0) (Ls 0) (Cs 0) (fun j => As (1 + j)) (fun j => Ls (1 + j)) (fun j => Cs (1 + j)) A1 (N - 1) (cr - 1) (by omega) w.drew HC.out.drew).mono ?_; rintro e w' ⟨rfl, rfl⟩; rw [HNO.out]))
  go_wp2_with fail
  go_ret2
  exact ⟨rfl, (Below.refl _ _).drew⟩

theorem Rd.setOther {b n G i : Nat} {w : World} {k : Nat → Value} {g : Nat} (h : Rd b w k (some ⟨g, 0, none⟩) n) (hg : g ≠ G) (v : Value) : Rd b (w.setCell ⟨G, i, none⟩ v) k (some ⟨g, 0, none⟩) n := fun hn => by
  obtain ⟨ad, e, h1, h2, hc⟩ := h hn
  injection e with e
  subst e
  refine ⟨_, rfl, h1, by simpa [World.setCell] using h2, fun j hj => ?_⟩
  rw [World.cell?_setCell_other]
  · exact hc j hj
  · intro he
    have := congrArg Addr.block he
    rw [block_of_add] at this
    exact hg this.symm

/-- the products, as they lie -/
def prodCells (k L : Nat) (g : Nat → Nat) (j : Nat) : Value := if j < k then .slice (some ⟨g j, 0, none⟩) L L else nilS
/-- in Dot's loop -/
def RegDotAt (p b wd n N L : Nat) (cs : Nat → Int) (F : Nat → Nat → Nat) (w : World) (s37 : Value) (wr : World) : Prop :=
  ∃ (k : Nat) (g : Nat → Nat), k ≤ N ∧ s37 = .int .i64 k ∧ (∀ j, j < k → inB (M.ord p) (cs j) = true ∧ L % n = 0) ∧ wr.rowIs w.heap.size TBs N (prodCells k L g) ∧
    (∀ j, j < k → g j ≠ w.heap.size ∧ Rd b wr (u8s (mulB p n (cs j) (F j))) (some ⟨g j, 0, none⟩) L) ∧ Fld p b wd wr ∧ Turned b w wr
/-- what Dot tells of rows that are all as long -/
def DotGo (p b wd n N L : Nat) (cs : Nat → Int) (F : Nat → Nat → Nat) (w : World) (e : Ending) (w' : World) : Prop :=
  Fld p b wd w' ∧ Turned b w w' ∧ (((∀ j, j < N → inB (M.ord p) (cs j) = true ∧ L % n = 0) ∧ ∃ A c, e = .returned (.tuple #[.slice A L c, .int .i64 0]) ∧ L ≤ c ∧ (∀ g, g < w.heap.size → Rd g w' (u8s (dotB p n cs F N)) A L) ∧ Rd b w' (u8s (dotB p n cs F N)) A L) ∨
    (¬ (∀ j, j < N → inB (M.ord p) (cs j) = true ∧ L % n = 0) ∧ e = .returned (.tuple #[nilS, .int .i64 1])))

theorem dotAt_step {p b wd n N L k gk : Nat} {cs : Nat → Int} {F : Nat → Nat → Nat} {g : Nat → Nat} {w wr w2 : World} (hk : k < N) (hb : b < w.heap.size) (hin : inB (M.ord p) (cs k) = true ∧ L % n = 0) (hall : ∀ j, j < k → inB (M.ord p) (cs j) = true ∧ L % n = 0)
    (hrow : wr.rowIs w.heap.size TBs N (prodCells k L g)) (hrd : ∀ j, j < k → g j ≠ w.heap.size ∧ Rd b wr (u8s (mulB p n (cs j) (F j))) (some ⟨g j, 0, none⟩) L) (ht : Turned b w wr)
    (hf2 : Fld p b wd w2) (ht2 : Turned b wr w2) (hgk : wr.heap.size ≤ gk) (hrk : Rd b w2 (u8s (mulB p n (cs k) (F k))) (some ⟨gk, 0, none⟩) L) {v : Value} (hv : v = .slice (some ⟨gk, 0, none⟩) L L) :
    RegDotAt p b wd n N L cs F w (.int .i64 (k + 1 : Nat)) (w2.setCell ⟨w.heap.size, k, none⟩ v) := by
  subst hv
  have hlt := hrow.lt
  have hrow2 := ht2.row hrow (show w.heap.size ≠ b by omega)
  obtain ⟨g', hg1, hg2⟩ : ∃ g' : Nat → Nat, (∀ j, j ≠ k → g' j = g j) ∧ g' k = gk := ⟨fun j => if j = k then gk else g j, fun j hj => if_neg hj, if_pos rfl⟩
  refine ⟨k + 1, g', hk, rfl, fun j hj => (Nat.lt_succ_iff_lt_or_eq.1 hj).elim (hall j) (fun h => h ▸ hin), (hrow2.set k _).congr (fun j _ => ?_), fun j hj => ?_, hf2.setInt hrow2 (by decide) (by decide) _, (ht.trans ht2).setNew (Nat.le_refl _) _⟩
  · unfold prodCells
    rcases Nat.lt_trichotomy j k with h | h | h
    · rw [if_neg (by omega), if_pos h, if_pos (by omega), hg1 j (by omega)]
    · rw [if_pos h, if_pos (by omega), h, hg2]
    · rw [if_neg (by omega), if_neg (by omega), if_neg (by omega)]
  · by_cases h : j = k
    · subst h
      rw [hg2]
      exact ⟨by omega, hrk.setOther (by omega) _⟩
    · rw [hg1 j h]
      have := hrd j (by omega)
      exact ⟨this.1, (this.2.turned ht2).setOther this.1 _⟩

set_option maxRecDepth 100000 in
set_option maxHeartbeats 4000000 in
theorem dot_go (p b wd n : Nat) (hw : Wide wd n (M.ord p)) (cs : Nat → Int) (F : Nat → Nat → Nat) (hF : ∀ r j, F r j < 256) (Ac : Option Addr) (N cc cr : Nat) (hN : 0 < N) (hN1 : N ≤ 1000) (As : Nat → Option Addr) (Ls Cs : Nat → Nat) (Ar : Option Addr) (L : Nat) (hL : L ≤ 1000) (w : World) (hfl : Fld p b wd w)
    (hc : Rd b w (i64s cs) Ac N) (hr : Rd b w (slis As Ls Cs) Ar N) (hcr : N ≤ cr) (hall : ∀ r, r < N → Ls r = L) (hrs : ∀ r, r < N → Rd b w (u8s (F r)) (As r) L) :
    Calls Tryz.prog 22 #[.pointer (some ⟨b, 0, none⟩), .slice Ac N cc, .slice Ar N cr] w (DotGo p b wd n N L cs F w) := by
  have h1 : (((N : Nat) : Int) != ((N : Nat) : Int)) = false := by simp
  have h2 : (((N : Nat) : Int) == 0) = false := by simp; omega
  have hbl := hfl.lt
  obtain ⟨ad, rfl, hcell⟩ := hr.at_ hN
  have hcell0 : w.cell? ad = some (.slice (As 0) (Ls 0) (Cs 0)) := by simpa [Addr.add] using hcell
  have hs1 := run_tailAtS (some ad) N cr (by omega)
  have hs2 := run_tailS (some ad) N cr (by omega)
  have hcut := hr.cut (i := 1) hN hcr
  obtain ⟨A1, hA1⟩ : ∃ A1, (if cr = 1 then some ad else (some ad).map (·.add 1)) = A1 := ⟨_, rfl⟩
  rw [hA1] at hs1 hs2 hcut
  clear hA1
  have HC := Lib.hid hcut
  have HYES := Lib.hid (show alike (Ls 0) (fun j => Ls (1 + j)) (N - 1) = true from alike_iff.2 (fun j hj => by rw [hall 0 hN, hall (1 + j) (by omega)]))
  have HR := Lib.hid hr
  have HCS := Lib.hid hc
  have HALL := Lib.hid hall
  have HRS := Lib.hid hrs
  have HFL := Lib.hid hfl
  clear hcut hr hcell hc hall hrs hfl
  have hmk := run_make_row' (P := Tryz.prog) TRs TBs nilS 24 Tryz.underlying24 infoS rfl .i64 .i64 N (by omega) (by omega)
  go_enter Tryz.func22, Tryz.ntmps22
  go_wp2_with fail
  go_region_held3 (fun w' => w'.cell? ad = some (.slice (As 0) (Ls 0) (Cs 0)))
    (first | exact hcell0 | assumption)
    ((go_at_call 45; refine (alike32 b (As 0) (Ls 0) (Cs 0) (fun j => As (1 + j)) (fun j => Ls (1 + j)) (fun j => Cs (1 + j)) A1 (N - 1) (cr - 1) (by omega) w.drew HC.out.drew).mono ?_; rintro e w' ⟨rfl, rfl⟩; rw [HYES.out]))
  clear hs1 hs2 hcell0 HC HYES
  rename_i hHeld
  clear hHeld
  have HST := Lib.hid (show RegDotAt p b wd n N L cs F w (.int .i64 0) (w.drew.alloc (.cells (madeCells #[nilS] N) TBs)) from
    ⟨0, fun _ => 0, Nat.zero_le _, rfl, fun j hj => absurd hj (by omega), (World.rowIs_made w.drew nilS N TBs).congr (fun j _ => by unfold prodCells; rw [if_neg (by omega)]), fun j hj => absurd hj (by omega),
      (HFL.out.drew).of_below (below_alloc _ _), ((Turned.refl b w).drew).trans (Turned.of_below (below_alloc _ _))⟩)
  go_wp2_with fail
  go_loopw [37] (fun s37 wr => RegDotAt p b wd n N L cs F w s37 wr) (fun s37 _ => N - (intOf s37).toNat)
  case atStart => exact HST.out
  case round =>
    clear HST hmk
    obtain ⟨k, g, hk, rfl, hall, hrow, hrd, hf, ht⟩ := hrel
    by_cases hlt : k < N
    · obtain ⟨ad', e', hcell⟩ := (HR.out.turned ht).at_ hlt
      injection e' with e'
      subst e'
      obtain ⟨adc, rfl, hcellc⟩ := (HCS.out.turned ht).at_ hlt
      simp only [slis, i64s] at hcell hcellc
      rw [HALL.out k hlt] at hcell
      have RK := Lib.hid ((HRS.out k hlt).turned ht)
      have HF' := Lib.hid hf
      have HT := Lib.hid ht
      have HROW := Lib.hid hrow
      have HRD := Lib.hid hrd
      have HIN := Lib.hid hall
      have hpc := hrow.cell (i := k) hlt
      clear hall hrow hrd hf ht hpc
      obtain ⟨x, hx⟩ : ∃ x, cs k = x := ⟨_, rfl⟩
      rw [hx] at hcellc
      have HX := Lib.hid hx
      clear hx
      by_cases hin : inB (M.ord p) x = true
      · by_cases hLn : L % n = 0
        · have HLn := Lib.hid (show L = n * (L / n) ∧ L / n ≤ 100000 from ⟨(Nat.mul_div_cancel' (Nat.dvd_of_mod_eq_zero hLn)).symm, by have := Nat.div_le_self L n; omega⟩)
          have HB := Lib.hid (inB_iff.1 hin)
          have HOK := Lib.hid (And.intro hin hLn)
          clear hin hLn
          go_wp2_with fail
          refine (mul_yes p b wd n hw x HB.out.1 HB.out.2 (F k) (hF k) (As k) (L / n) L (Cs k) HLn.out.1 HLn.out.2 _ HF'.out RK.out).mono ?_
          rintro e w2 ⟨gk, rfl, hgk, hrk, hf2, ht2⟩
          have hrow2 := ht2.row HROW.out (show w.heap.size ≠ b by omega)
          have g2 := hrow2.cell (i := k) hlt
          have f2 := hrow2.frozen k
          rw [show prodCells k L g k = nilS by unfold prodCells; rw [if_neg (by omega)]] at g2
          have HS := Lib.hid (dotAt_step (v := .slice (some ⟨gk, 0, none⟩) L L) hlt hbl (by rw [HX.out]; exact HOK.out) HIN.out HROW.out HRD.out HT.out hf2 ht2 hgk (by rw [HX.out]; exact hrk) rfl)
          clear hrow2 hf2 ht2 hgk hrk HROW HRD HT HF' RK HIN
          go_wp2_with fail
          exact ⟨HS.out, by simp [intOf]; omega⟩
        · have HI := Lib.hid hin
          have HE := Lib.hid (show DotGo p b wd n N L cs F w (.returned (.tuple #[nilS, .int .i64 1])) wr from ⟨HF'.out, HT.out, Or.inr ⟨fun h => hLn (h k hlt).2, rfl⟩⟩)
          have HLn := Lib.hid hLn
          clear hin hLn
          go_wp2_with fail
          refine (mul_odd p b wd n hw x HI.out (As k) L (Cs k) HLn.out (by omega) _ HF'.out).mono ?_
          rintro e w' ⟨rfl, rfl⟩
          go_wp2_with fail
          go_ret2
          exact HE.out
      · have HI := Lib.hid (show inB (M.ord p) x = false by simpa using hin)
        have HE := Lib.hid (show DotGo p b wd n N L cs F w (.returned (.tuple #[nilS, .int .i64 1])) wr from ⟨HF'.out, HT.out, Or.inr ⟨fun h => hin (by rw [← HX.out]; exact (h k hlt).1), rfl⟩⟩)
        clear hin
        go_wp2_with fail
        refine (mul_out p b wd x HI.out _ _ HF'.out).mono ?_
        rintro e w' ⟨rfl, rfl⟩
        go_wp2_with fail
        go_ret2
        exact HE.out
    · obtain rfl : k = N := by omega
      have hs1 := run_tailAtS (some ⟨w.heap.size, 0, none⟩) k k (by omega)
      have hs2 := run_tailS (some ⟨w.heap.size, 0, none⟩) k k (by omega)
      have hrr := Rd.of_row (b := b) (n := k) hrow (by omega) (Nat.le_refl _)
      have hcut := hrr.cut (i := 1) (cap := k) (by omega) (Nat.le_refl _)
      obtain ⟨A1, hA1⟩ : ∃ A1, (if k = 1 then some (⟨w.heap.size, 0, none⟩ : Addr) else (some (⟨w.heap.size, 0, none⟩ : Addr)).map (·.add 1)) = A1 := ⟨_, rfl⟩
      rw [hA1] at hs1 hs2 hcut
      clear hA1
      have g0 := hrow.cell (i := 0) (by omega)
      rw [show prodCells k L g 0 = .slice (some ⟨g 0, 0, none⟩) L L by unfold prodCells; rw [if_pos hN]] at g0
      have HC := Lib.hid (show Rd b wr.drew (slis (fun j => some ⟨g (1 + j), 0, none⟩) (fun _ => L) (fun _ => L)) A1 (k - 1) from hcut.congr (fun j hj => by unfold prodCells; rw [if_pos (by omega)]))
      have HR0 := Lib.hid (show Rd b wr.drew (u8s (mulB p n (cs 0) (F 0))) (some ⟨g 0, 0, none⟩) L from (hrd 0 hN).2)
      have HRR := Lib.hid (show ∀ r, r < k - 1 → Rd b wr.drew (u8s (mulB p n (cs (1 + r)) (F (1 + r)))) (some ⟨g (1 + r), 0, none⟩) L from fun r hr => (hrd (1 + r) (by omega)).2)
      have hszr : w.heap.size < wr.drew.heap.size := hrow.lt
      have hblr : b < wr.drew.heap.size := hf.lt
      have HF' := Lib.hid hf
      have HT := Lib.hid ht
      have HIN := Lib.hid hall
      clear hrow hrr hcut hrd hf ht hall
      go_wp2_with fail
      go_region_held3 (fun w' => w'.cell? ⟨w.heap.size, 0, none⟩ = some (.slice (some ⟨g 0, 0, none⟩) L L))
        (first | exact g0 | exact (hb2.cell (p := ⟨w.heap.size, 0, none⟩) hszr).trans g0 | assumption)
        ((go_at_call 47; refine (sum33 b (mulB p n (cs 0) (F 0)) (fun j => byt_lt _ _ _) (fun r => mulB p n (cs (1 + r)) (F (1 + r))) (fun r j => byt_lt _ _ _) (some ⟨g 0, 0, none⟩) L L (by omega) (fun j => some ⟨g (1 + j), 0, none⟩) (fun _ => L) (fun _ => L) A1 (k - 1) (k - 1) (by omega) wr.drew hblr HR0.out HC.out (fun r hr => ⟨rfl, HRR.out r hr⟩)).mono ?_; rintro e w2 ⟨v2, rfl, A2, c2, rfl, hc2, hrd2, hb2⟩))
      have HE := Lib.hid (show DotGo p b wd n k L cs F w (.returned (.tuple #[.slice A2 L c2, .int .i64 0])) w2 from ⟨(HF'.out.drew).of_below hb2, HT.out.drew.trans (Turned.of_below hb2), Or.inl ⟨HIN.out, A2, c2, rfl, hc2.1, fun g hg => hc2.2 g (Nat.lt_trans hg hszr), hrd2⟩⟩)
      clear hrd2 hb2 hs1 hs2 hc2
      go_wp2_with fail
      go_ret2
      exact HE.out
end Go.Proofs.YtgbipbcejjlpiaaGreatDoor
