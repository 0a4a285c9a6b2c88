/- The contracts of gambrelref06's Fits, Raw, Isal and System, and of the law's was. Package vander's functions, and the document's, of any numbers, in one form. -/
import Derived.Test.YtgdgimknnjbieaaGreatDoorGxp
import Derived.Test.YtgdgimknnjbieaaGreatDoorGxn

namespace Go.Proofs.YtgdgimknnjbieaaGreatDoor
open Go.RowKit

theorem isalE_ex {q : FP} (h2 : (2 : Int) ≤ M.ord q.p) (i j : Nat) : ivs (isalE q) i j = (M.ex q.p ((i : Int) * (j : Int)) : Nat) := by
  have e : M.ex q.p ((i : Int) * (j : Int)) = M.pw 2 q.p (i * j) := by rw [← Int.natCast_mul, M.ex_nat q.prim]
  rw [e, ← two_pow h2]
  unfold ivs isalE
  rw [ep_mul]

set_option maxRecDepth 100000 in
set_option maxHeartbeats 1000000 in
theorem rfits24 (k m : Int) (w : World) : Calls Tryz.prog 108 #[.int .i64 k, .int .i64 m] w (SaidB (fitsI k m) w) := by
  by_cases h1 : 1 ≤ k
  · have d1 : decide (1 ≤ k) = true := by simp; omega
    by_cases h2 : k ≤ 20
    · have d2 : decide (k ≤ 20) = true := by simp; omega
      by_cases h3 : 1 ≤ m
      · have d3 : decide (1 ≤ m) = true := by simp; omega
        by_cases h4 : m ≤ 20
        · have d4 : decide (m ≤ 20) = true := by simp; omega
          by_cases h5 : k + m ≤ 20
          · have d5 : decide (k + m ≤ 20) = true := by simp; omega
            have HE := Lib.hid (SaidB.yes (w := w) (show fitsI k m from ⟨⟨h1, h2⟩, ⟨h3, h4⟩, h5⟩))
            go_enter Tryz.func108, Tryz.ntmps108
            go_wp2_with fail
            go_ret
            exact HE.out
          · have d5 : decide (k + m ≤ 20) = false := by simp; omega
            have HE := Lib.hid (SaidB.no (w := w) (show ¬ fitsI k m from fun h => h5 h.2.2))
            go_enter Tryz.func108, Tryz.ntmps108
            go_wp2_with fail
            go_ret
            exact HE.out
        · have d4 : decide (m ≤ 20) = false := by simp; omega
          have HE := Lib.hid (SaidB.no (w := w) (show ¬ fitsI k m from fun h => h4 h.2.1.2))
          go_enter Tryz.func108, Tryz.ntmps108
          go_wp2_with fail
          go_ret
          exact HE.out
      · have d3 : decide (1 ≤ m) = false := by simp; omega
        have HE := Lib.hid (SaidB.no (w := w) (show ¬ fitsI k m from fun h => h3 h.2.1.1))
        go_enter Tryz.func108, Tryz.ntmps108
        go_wp2_with fail
        go_ret
        exact HE.out
    · have d2 : decide (k ≤ 20) = false := by simp; omega
      have HE := Lib.hid (SaidB.no (w := w) (show ¬ fitsI k m from fun h => h2 h.1.2))
      go_enter Tryz.func108, Tryz.ntmps108
      go_wp2_with fail
      go_ret
      exact HE.out
  · have d1 : decide (1 ≤ k) = false := by simp; omega
    have HE := Lib.hid (SaidB.no (w := w) (show ¬ fitsI k m from fun h => h1 h.1.1))
    go_enter Tryz.func108, Tryz.ntmps108
    go_wp2_with fail
    go_ret
    exact HE.out

/-- in the inner loops -/
def RowIn (m : Nat) (l : Nat → Int) (wi : World) (s12 s13 : Value) (wr : World) : Prop := ∃ j : Nat, j ≤ m ∧ s13 = .int .i64 j ∧ App wi TI (i64s l) j s12 wr
/-- a matrix of the document's -/
def RVSaid (q : FP) (b n m : Nat) (E : Nat → Nat → El q) (w : World) (e : Ending) (w' : World) : Prop := ∃ v, e = .returned (.tuple #[v, .bool true]) ∧ MTold b n (ivs E) (fun _ => m) w v w'

/-- the same, as its rows lie in memory: they are the call's own -/
def RVSaidO (q : FP) (b n m : Nat) (E : Nat → Nat → El q) (w : World) (e : Ending) (w' : World) : Prop := ∃ v, e = .returned (.tuple #[v, .bool true]) ∧ MApp b w (ivs E) (fun _ => m) n v w'

set_option maxRecDepth 100000 in
set_option maxHeartbeats 2000000 in
theorem rraw_app (q : FP) (b wd n m : Nat) (hg : Good q.p wd) (hn : side n) (hm : side m) (w : World) (hbw : b < w.heap.size) :
    Calls Tryz.prog 112 #[.int .i64 wd, .int .u32 q.p, .int .i64 n, .int .i64 m] w (RVSaidO q b n m (rawE q) w) := by
  obtain ⟨i0, hi, hz0, hz1, hz2⟩ := info_parts infoRow
  obtain ⟨j0, hj, hy0, hy1, hy2⟩ := info_parts infoI
  have hkb := hg.kind.bounds
  have hn1 := hn.1
  have hn2 := hn.2
  have hm1 := hm.1
  have hm2 := hm.2
  have d1 : decide ((n : Int) < 1) = false := by simp; omega
  have d2 : decide (20 < (n : Int)) = false := by simp; omega
  have d3 : decide ((m : Int) < 1) = false := by simp; omega
  have d4 : decide (20 < (m : Int)) = false := by simp; omega
  clear hn hm
  go_enter Tryz.func112, Tryz.ntmps112
  go_wp2_with fail
  go_loopw [10, 11] (fun s10 s11 wr => ∃ i : Nat, i ≤ n ∧ s11 = .int .i64 i ∧ MApp b w (ivs (rawE q)) (fun _ => m) i s10 wr) (fun _ s11 _ => n - (intOf s11).toNat)
  case atStart => exact ⟨0, Nat.zero_le _, rfl, MApp.start _ _ _ _⟩
  case round =>
    obtain ⟨i, hin, rfl, happ⟩ := hrel
    obtain ⟨wi, hwi⟩ : ∃ wi, wi = wr := ⟨_, rfl⟩
    subst hwi
    have HAPP := Lib.hid happ
    have hsz := happ.1.size
    clear happ
    by_cases hlt : i < n
    · go_wp2_with fail
      go_loopw [12, 13] (fun s12 s13 wr => RowIn m (ivs (rawE q) i) wi s12 s13 wr) (fun _ s13 _ => m - (intOf s13).toNat)
      case atStart => exact ⟨0, Nat.zero_le _, rfl, App.start _ _ _⟩
      case round =>
        obtain ⟨j, hjn, rfl, ha⟩ := hrel
        have HA := Lib.hid ha
        have hsz2 := ha.2.size
        clear ha
        by_cases hlt2 : j < m
        · have HV := Lib.hid (show i64s (ivs (rawE q) i) j = .int .i64 (fpow q.p i j) from by simp only [i64s]; rw [rawE_val (by omega)])
          go_wp2_with fail
          refine (rpow22g q.p wd hg i j (by omega) _).mono ?_
          rintro e w' ⟨rfl, rfl⟩
          obtain ⟨y, hy⟩ : ∃ y, fpow q.p i j = y := ⟨_, rfl⟩
          rw [hy] at HV ⊢
          clear hy
          go_wp2_with (at_builtin; refine wpList_append_own _ rfl _ _ TIs rfl wi.heap.size TI j0 (.int .i64 0) 1 8 underI hj hy0 hy1 hy2 rfl (by decide) _ _ _ rfl (HA.out.1.alloc _) ⟨wr.heap.size, 0, none⟩ 1 1 [i64s (ivs (rawE q) i) j] rfl rfl (news_one HV.out.symm) (one_i64 _) (by unfold maxLen; omega) (by omega) (by simp; omega) ?_)
          intro v' w1 hown' hgrow _
          have HS := Lib.hid (HA.out.step hown' hgrow)
          clear hown' hgrow
          go_wp2_with fail
          exact ⟨⟨j + 1, hlt2, by go_num, HS.out⟩, by simp [intOf]; omega⟩
        · obtain rfl : j = m := by omega
          obtain ⟨hb0, As0, Cs0, hown0, hrow0⟩ := HAPP.out.below HA.out.2
          have hlo := HAPP.out.2
          obtain ⟨A', c', e', _, _⟩ := HA.out.rd (show b < wi.heap.size by omega)
          subst e'
          have HRY := Lib.hid (show ∀ g, (g = b ∨ u10.ownBlock = some g) → Rd g wr (i64s (ivs (rawE q) i)) A' j from fun g hg => by
            have hgl : g < wi.heap.size := by
              rcases hg with rfl | hg
              · omega
              · obtain ⟨_, _, ho, _⟩ := hlo
                exact (ho.lt g hg).2
            obtain ⟨A2, c2, e2, _, h2⟩ := HA.out.rd hgl
            injection e2 with e2
            subst e2
            exact h2)
          have HB0 := Lib.hid hb0
          have HOWN := Lib.hid hown0
          have HROW := Lib.hid hrow0
          have hsz3 := hb0.size
          clear hb0 hown0 hrow0 hlo
          go_wp2_with (at_builtin; refine wpList_append_lies _ rfl _ _ TRI rfl w.heap.size TIs i0 nilS 1 24 underRI hi hz0 hz1 hz2 rfl (by decide) _ i _ rfl (HOWN.out.alloc _) ⟨wr.heap.size, 0, none⟩ 1 1 [.slice A' j c'] rfl rfl (news_one rfl) (one_slice _ _ _) (by omega) (by unfold maxLen; omega) (by omega) (by simp; omega) _ rfl ?_)
          intro g' cap' w2 hown2 hgr2 hg2 _
          have HS := Lib.hid (MApp.step (F := ivs (rawE q)) (Ls := fun _ => j) HB0.out HOWN.out HROW.out rfl HRY.out hown2 hgr2 hg2)
          clear hown2 hgr2 hg2
          go_wp2_with fail
          exact ⟨⟨i + 1, hlt, by go_num, HS.out⟩, by simp [intOf]; omega⟩
    · obtain rfl : i = n := by omega
      go_wp2_with fail
      go_ret2
      exact ⟨_, rfl, HAPP.out⟩

theorem rraw_yes (q : FP) (b wd n m : Nat) (hg : Good q.p wd) (hn : side n) (hm : side m) (w : World) (hbw : b < w.heap.size) :
    Calls Tryz.prog 112 #[.int .i64 wd, .int .u32 q.p, .int .i64 n, .int .i64 m] w (RVSaid q b n m (rawE q) w) :=
  (rraw_app q b wd n m hg hn hm w hbw).mono fun _ _ ⟨v, he, h⟩ => ⟨v, he, h.told hbw⟩

set_option maxRecDepth 100000 in
set_option maxHeartbeats 2000000 in
theorem risal_yes (q : FP) (b wd n m : Nat) (hg : Good q.p wd) (hn : side n) (hm : side m) (hnm : m + n ≤ 20) (w : World) (hbw : b < w.heap.size) :
    Calls Tryz.prog 68 #[.int .i64 wd, .int .u32 q.p, .int .i64 m, .int .i64 n] w (RVSaid q b n m (isalE q) w) := by
  obtain ⟨i0, hi, hz0, hz1, hz2⟩ := info_parts infoRow
  obtain ⟨j0, hj, hy0, hy1, hy2⟩ := info_parts infoI
  have hkb := hg.kind.bounds
  have hn1 := hn.1
  have hn2 := hn.2
  have hm1 := hm.1
  have hm2 := hm.2
  have HF := Lib.hid (show fitsI (m : Int) (n : Int) from ⟨⟨by omega, by omega⟩, ⟨by omega, by omega⟩, by omega⟩)
  clear hn hm
  go_enter Tryz.func68, Tryz.ntmps68
  go_wp2_with fail
  refine (rfits24 m n _).mono ?_
  rintro e w' ⟨t, rfl, ht, rfl⟩
  obtain rfl : t = true := ht.2 HF.out
  clear ht
  go_wp2_with fail
  go_loopw [10, 11] (fun s10 s11 wr => ∃ i : Nat, i ≤ n ∧ s11 = .int .i64 i ∧ MApp b w (ivs (isalE q)) (fun _ => m) i s10 wr) (fun _ s11 _ => n - (intOf s11).toNat)
  case atStart => exact ⟨0, Nat.zero_le _, rfl, MApp.start _ _ _ _⟩
  case round =>
    obtain ⟨i, hin, rfl, happ⟩ := hrel
    obtain ⟨wi, hwi⟩ : ∃ wi, wi = wr := ⟨_, rfl⟩
    subst hwi
    have HAPP := Lib.hid happ
    have hsz := happ.1.size
    clear happ
    by_cases hlt : i < n
    · go_wp2_with fail
      go_loopw [12, 13] (fun s12 s13 wr => RowIn m (ivs (isalE q) i) wi s12 s13 wr) (fun _ s13 _ => m - (intOf s13).toNat)
      case atStart => exact ⟨0, Nat.zero_le _, rfl, App.start _ _ _⟩
      case round =>
        obtain ⟨j, hjn, rfl, ha⟩ := hrel
        have HA := Lib.hid ha
        have hsz2 := ha.2.size
        clear ha
        by_cases hlt2 : j < m
        · have HV := Lib.hid (show i64s (ivs (isalE q) i) j = .int .i64 (M.ex q.p ((i : Int) * (j : Int)) : Nat) from by simp only [i64s]; rw [isalE_ex (by omega)])
          have hij0 : 0 ≤ (i : Int) * (j : Int) := Int.mul_nonneg (by omega) (by omega)
          have hij : (i : Int) * (j : Int) ≤ 20 * 20 := Int.mul_le_mul (by omega) (by omega) (by omega) (by omega)
          go_wp2_with fail
          refine (rexp26 q.p wd hg _ _).mono ?_
          rintro e w' ⟨rfl, rfl⟩
          obtain ⟨y, hy⟩ : ∃ y, M.ex q.p ((i : Int) * (j : Int)) = y := ⟨_, rfl⟩
          rw [hy] at HV ⊢
          clear hy
          go_wp2_with (at_builtin; refine wpList_append_own _ rfl _ _ TIs rfl wi.heap.size TI j0 (.int .i64 0) 1 8 underI hj hy0 hy1 hy2 rfl (by decide) _ _ _ rfl (HA.out.1.alloc _) ⟨wr.heap.size, 0, none⟩ 1 1 [i64s (ivs (isalE q) i) j] rfl rfl (news_one HV.out.symm) (one_i64 _) (by unfold maxLen; omega) (by omega) (by simp; omega) ?_)
          intro v' w1 hown' hgrow _
          have HS := Lib.hid (HA.out.step hown' hgrow)
          clear hown' hgrow
          go_wp2_with fail
          exact ⟨⟨j + 1, hlt2, by go_num, HS.out⟩, by simp [intOf]; omega⟩
        · obtain rfl : j = m := by omega
          obtain ⟨hb0, As0, Cs0, hown0, hrow0⟩ := HAPP.out.below HA.out.2
          have hlo := HAPP.out.2
          obtain ⟨A', c', e', _, _⟩ := HA.out.rd (show b < wi.heap.size by omega)
          subst e'
          have HRY := Lib.hid (show ∀ g, (g = b ∨ u10.ownBlock = some g) → Rd g wr (i64s (ivs (isalE q) i)) A' j from fun g hg => by
            have hgl : g < wi.heap.size := by
              rcases hg with rfl | hg
              · omega
              · obtain ⟨_, _, ho, _⟩ := hlo
                exact (ho.lt g hg).2
            obtain ⟨A2, c2, e2, _, h2⟩ := HA.out.rd hgl
            injection e2 with e2
            subst e2
            exact h2)
          have HB0 := Lib.hid hb0
          have HOWN := Lib.hid hown0
          have HROW := Lib.hid hrow0
          have hsz3 := hb0.size
          clear hb0 hown0 hrow0 hlo
          go_wp2_with (at_builtin; refine wpList_append_lies _ rfl _ _ TRI rfl w.heap.size TIs i0 nilS 1 24 underRI hi hz0 hz1 hz2 rfl (by decide) _ i _ rfl (HOWN.out.alloc _) ⟨wr.heap.size, 0, none⟩ 1 1 [.slice A' j c'] rfl rfl (news_one rfl) (one_slice _ _ _) (by omega) (by unfold maxLen; omega) (by omega) (by simp; omega) _ rfl ?_)
          intro g' cap' w2 hown2 hgr2 hg2 _
          have HS := Lib.hid (MApp.step (F := ivs (isalE q)) (Ls := fun _ => j) HB0.out HOWN.out HROW.out rfl HRY.out hown2 hgr2 hg2)
          clear hown2 hgr2 hg2
          go_wp2_with fail
          exact ⟨⟨i + 1, hlt, by go_num, HS.out⟩, by simp [intOf]; omega⟩
    · obtain rfl : i = n := by omega
      go_wp2_with fail
      go_ret2
      exact ⟨_, rfl, HAPP.out.told hbw⟩

set_option maxRecDepth 100000 in
set_option maxHeartbeats 2000000 in
theorem rsys_yes (q : FP) (b wd k m : Nat) (hg : Good q.p wd) (hk : side k) (hm : side m) (hkm : k + m ≤ 20) (w : World) (hbw : b < w.heap.size) :
    Calls Tryz.prog 70 #[.int .i64 wd, .int .u32 q.p, .int .i64 k, .int .i64 m] w (RVSaid q b (k + m) k (sysE q k) w) := by
  have hkb := hg.kind.bounds
  have hn1 := hk.1
  have hn2 := hk.2
  have hm1 := hm.1
  have hm2 := hm.2
  have HN := Lib.hid (show fitsI (k : Int) (m : Int) from ⟨⟨by omega, by omega⟩, ⟨by omega, by omega⟩, by omega⟩)
  have HR := Lib.hid (rraw_yes q b wd (k + m) k hg ⟨by omega, hkm⟩ hk w hbw)
  rw [show (((k + m : Nat) : Int)) = (k : Int) + (m : Int) by omega] at HR
  have HFU := Lib.hid (raw_full (q := q) (k := k) (by omega))
  have HSD := Lib.hid hk
  have HSM := Lib.hid (show side (k + m) from ⟨by omega, hkm⟩)
  clear hk hm
  go_enter Tryz.func70, Tryz.ntmps70
  go_wp2_with fail
  refine (rfits24 k m _).mono ?_
  rintro e w' ⟨t, rfl, ht, rfl⟩
  obtain rfl : t = true := ht.2 HN.out
  clear ht
  go_wp2_with fail
  refine HR.out.mono ?_
  rintro e w2 ⟨v2, rfl, A, c, rfl, hc, hx, hb2⟩
  have HX := Lib.hid hx
  have HB2 := Lib.hid hb2
  have hkc : k ≤ c := by omega
  have hsz2 := hb2.size
  have HI := Lib.hid (rinverse13 q b wd k hg (fun _ => k) (ivs (rawE q)) A c w2 (by omega) (hx.take (by omega)))
  clear hx hb2 HR
  go_wp2_with fail
  refine HI.out.mono ?_
  rintro e w3 ⟨s, t, v3, rfl, hs, ht, hx3⟩
  obtain rfl : s = true := hs.2 ⟨ivs_may _ HSD.out HSD.out, rfl⟩
  rw [elM_ivs] at ht hx3
  obtain rfl : t = true := (ht rfl).2 HFU.out
  rw [show err2 true true = 0 from rfl]
  simp only [Bool.and_self, cond] at hx3 ⊢
  obtain ⟨A3, c3, rfl, _, hx3, hb3⟩ := hx3
  have HB3 := Lib.hid (below_tr HB2.out hb3)
  have hsz3 := hb3.size
  have HMU := Lib.hid (rmmul21 q.p b wd hg (ivs (rawE q)) (ivs (ivm k (rawE q))) (fun _ => k) (fun _ => k) A A3 (k + m) k c c3 w3 (by omega) (HX.out.below hb3) hx3)
  clear hs ht hx3 hb3 HI HB2 HX
  go_wp2_with fail
  refine HMU.out.mono ?_
  rintro e w4 ⟨t, v4, rfl, ht, hx4⟩
  obtain rfl : t = true := ht.2 ⟨ivs_may _ HSM.out HSD.out, ivs_may _ HSD.out HSD.out, rfl⟩
  simp only [cond] at hx4
  rw [mulF_ivs] at hx4
  have HE := Lib.hid (show RVSaid q b (k + m) k (sysE q k) w (.returned (.tuple #[v4, .bool true])) w4 from ⟨v4, rfl, MTold.from HB3.out hx4⟩)
  clear hx4 ht HMU
  go_wp2_with fail
  go_ret2
  exact HE.out
end Go.Proofs.YtgdgimknnjbieaaGreatDoor

namespace Go.Proofs.YtgdgimknnjbieaaGreatDoor
open Go.RowKit

/-- a matrix, if t; else an error -/
def VAny (q : FP) (b wd : Nat) (t : Bool) (n m : Nat) (E : Nat → Nat → El q) (w : World) (e : Ending) (w' : World) : Prop :=
  ∃ A c, e = .returned (.tuple #[.slice A (cond t n 0) c, .int .i64 (errOf t)]) ∧ Mx b w' (ivs E) (fun _ => m) A (cond t n 0) ∧ Fld q.p b wd w' ∧ Turned b w w'
theorem VAny.yes {q : FP} {b wd n m : Nat} {E : Nat → Nat → El q} {w : World} {e : Ending} {w' : World} (h : VSaid q b wd n m E w e w') : VAny q b wd true n m E w e w' := by
  obtain ⟨A, c, he, _, h1, h2, h3⟩ := h
  exact ⟨A, c, he, h1, h2, h3⟩
theorem VAny.no {q : FP} {b wd n m : Nat} {E : Nat → Nat → El q} {w : World} {e : Ending} {w' : World} (hf : Fld q.p b wd w) (h : e = .returned (.tuple #[nilS, .int .i64 1]) ∧ Below w.heap.size w w') : VAny q b wd false n m E w e w' :=
  ⟨none, 0, h.1, Mx.zero, hf.of_below h.2, Turned.of_below h.2⟩
/-- the document's -/
def RVAny (q : FP) (b : Nat) (t : Bool) (n m : Nat) (E : Nat → Nat → El q) (w : World) (e : Ending) (w' : World) : Prop :=
  ∃ A c, e = .returned (.tuple #[.slice A (cond t n 0) c, .bool t]) ∧ Mx b w' (ivs E) (fun _ => m) A (cond t n 0) ∧ Below w.heap.size w w'
theorem RVAny.yes {q : FP} {b n m : Nat} {E : Nat → Nat → El q} {w : World} {e : Ending} {w' : World} (h : RVSaid q b n m E w e w') : RVAny q b true n m E w e w' := by
  obtain ⟨v, he, A, c, rfl, _, h1, h2⟩ := h
  exact ⟨A, c, he, h1, h2⟩
theorem RVAny.no {q : FP} {b n m : Nat} {E : Nat → Nat → El q} {w : World} {e : Ending} {w' : World} (h : e = .returned (.tuple #[nilS, .bool false]) ∧ w = w') : RVAny q b false n m E w e w' := by
  obtain ⟨rfl, rfl⟩ := h
  exact ⟨none, 0, rfl, Mx.zero, Below.refl _ _⟩

section
variable (q : FP) (b wd : Nat) (k m : Int) (t : Bool) (w : World)
end
end Go.Proofs.YtgdgimknnjbieaaGreatDoor
