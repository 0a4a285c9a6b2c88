/- The contracts of package jvan: mayCode, powers, highest and Extended. -/
import Derived.Test.YtgcochamjicjiaaGreatJva
import Derived.Deep.AppendLies
namespace Go.Proofs.YtgcochamjicjiaaGreat
open Go.RowKit

set_option maxRecDepth 100000 in
theorem jcode_nil (k m : Int) (w : World) :
    Calls Tryz.prog 55 #[.pointer none, .int .i64 k, .int .i64 m] w fun e w' => e = .returned (.bool false) ∧ w = w' := by
  go_enter Tryz.func55, Tryz.ntmps55
  go_wp2_with fail
  refine (size_nil _).mono ?_
  rintro e w' ⟨rfl, rfl⟩
  go_wp2_with fail
  go_ret
  exact ⟨rfl, rfl⟩

set_option maxRecDepth 100000 in
set_option maxHeartbeats 1000000 in
theorem jcode31 (b wd c : Nat) (hk : Kind wd c) (k m : Int) (hb : k ≤ 9223372036854775807) (w : World) (hc : w.cell? ⟨b, 0, none⟩ = some (.int .i64 wd)) :
    Calls Tryz.prog 55 #[.pointer (some ⟨b, 0, none⟩), .int .i64 k, .int .i64 m] w (SaidB (fitsI k m) w) := by
  have hbd := hk.bounds
  have hd : (((c : Int) + 1) != 0) = true := by simp; omega
  by_cases h1 : 1 ≤ k
  · have d1 : decide (1 ≤ k) = true := by simp; omega
    by_cases h2 : 1 ≤ m
    · have d2 : decide (1 ≤ m) = true := by simp; omega
      by_cases h3 : m ≤ 20 - k
      · have d3 : decide (m ≤ 20 - k) = true := by simp; omega
        have HE := Lib.hid (SaidB.yes (w := w) (show fitsI k m from ⟨⟨h1, by omega⟩, ⟨h2, by omega⟩, by omega⟩))
        go_enter Tryz.func55, Tryz.ntmps55
        go_wp2_with fail
        refine (size13 b wd c hk _ hc).mono ?_
        rintro e w' ⟨rfl, rfl⟩
        go_wp2_with fail
        go_ret
        exact HE.out
      · have d3 : decide (m ≤ 20 - k) = false := by simp; omega
        have HE := Lib.hid (SaidB.no (w := w) (show ¬ fitsI k m from fun h => by have := h.2.2; omega))
        go_enter Tryz.func55, Tryz.ntmps55
        go_wp2_with fail
        refine (size13 b wd c hk _ hc).mono ?_
        rintro e w' ⟨rfl, rfl⟩
        go_wp2_with fail
        go_ret
        exact HE.out
    · have d2 : decide (1 ≤ m) = false := by simp; omega
      have HE := Lib.hid (SaidB.no (w := w) (show ¬ fitsI k m from fun h => h2 h.2.1.1))
      go_enter Tryz.func55, Tryz.ntmps55
      go_wp2_with fail
      refine (size13 b wd c hk _ hc).mono ?_
      rintro e w' ⟨rfl, rfl⟩
      go_wp2_with fail
      go_ret
      exact HE.out
  · have d1 : decide (1 ≤ k) = false := by simp; omega
    have HE := Lib.hid (SaidB.no (w := w) (show ¬ fitsI k m from fun h => h1 h.1.1))
    go_enter Tryz.func55, Tryz.ntmps55
    go_wp2_with fail
    refine (size13 b wd c hk _ hc).mono ?_
    rintro e w' ⟨rfl, rfl⟩
    go_wp2_with fail
    go_ret
    exact HE.out

/-- a row of numbers that is made while the field may turn -/
def RowNew (p b wd n : Nat) (l : Nat → Int) (w : World) (e : Ending) (w' : World) : Prop :=
  ∃ g, e = .returned (.slice (some ⟨g, 0, none⟩) n n) ∧ w'.rowIs g TI n (i64s l) ∧ w.heap.size ≤ g ∧ Fld p b wd w' ∧ Turned b w w'
def PowAt (p b wd n : Nat) (l : Nat → Int) (w : World) (s13 : Value) (W : World) : Prop :=
  ∃ j : Nat, j ≤ n ∧ s13 = .int .i64 j ∧ W.rowIs w.heap.size TI n (fun x => .int .i64 (if x < j then l x else 0)) ∧ Fld p b wd W ∧ Turned b w W
theorem powAt_step {p b wd n j : Nat} {l : Nat → Int} {w W : World} (hj : j < n) (h1 : W.rowIs w.heap.size TI n (fun x => .int .i64 (if x < j then l x else 0))) (hf : Fld p b wd W) (ht : Turned b w W) :
    PowAt p b wd n l w (.int .i64 ((j + 1 : Nat) : Int)) (W.setCell ⟨w.heap.size, j, none⟩ (.int .i64 (l j))) := by
  refine ⟨j + 1, hj, rfl, (h1.set j _).congr (fun x _ => ?_), hf.setRow h1 (by decide) (by decide) _, ht.set_new (Nat.le_refl _) _⟩
  rcases Nat.lt_trichotomy x j with e | e | e
  · rw [if_neg (by omega), if_pos e, if_pos (by omega)]
  · rw [if_pos e, if_pos (by omega), e]
  · rw [if_neg (by omega), if_neg (by omega), if_neg (by omega)]

set_option maxRecDepth 100000 in
set_option maxHeartbeats 1000000 in
theorem powers32 (p b wd n : Nat) (a : Int) (hn : n ≤ 100) (w : World) (hf : Fld p b wd w) :
    Calls Tryz.prog 56 #[.pointer (some ⟨b, 0, none⟩), .int .i64 a, .int .i64 n] w (RowNew p b wd n (fun j => fpow p a j) w) := by
  have hmk := run_make_row' (P := Tryz.prog) TIs TI (.int .i64 0) 8 underI infoI rfl .i64 .i64 n (by omega) (by omega)
  have HS := Lib.hid (show PowAt p b wd n (fun j => fpow p a j) w (.int .i64 ((0 : Nat) : Int)) (w.alloc (.cells (madeCells #[.int .i64 0] n) TI)) from
    ⟨0, Nat.zero_le _, rfl, (World.rowIs_made w (.int .i64 0) n TI).congr (fun x _ => by rw [if_neg (by omega)]), hf.of_below (below_alloc _ _), Turned.of_below (below_alloc _ _)⟩)
  have hbl := hf.lt
  clear hf
  go_enter Tryz.func56, Tryz.ntmps56
  go_wp2_with fail
  go_loopw [13] (fun s13 wr => PowAt p b wd n (fun j => fpow p a j) w s13 wr) (fun s13 _ => n - (intOf s13).toNat)
  case atStart => exact HS.out
  case round =>
    clear HS
    obtain ⟨j, hj, rfl, h1, h2, h3⟩ := hrel
    have H1 := Lib.hid h1
    have H2 := Lib.hid h2
    have H3 := Lib.hid h3
    clear h1 h2 h3
    by_cases hlt : j < n
    · go_wp2_with fail
      refine (fpow21 p b wd a j (by omega) _ H2.out).mono ?_
      rintro e w3 ⟨rfl, hf3, ht3⟩
      have h4 := ht3.row H1.out (by omega)
      have HP := Lib.hid (powAt_step hlt h4 hf3 (H3.out.trans ht3))
      have c1 := h4.cell hlt
      have f1 := h4.frozen j
      rw [if_neg (by omega)] at c1
      obtain ⟨y, hy⟩ : ∃ y, fpow p a j = y := ⟨_, rfl⟩
      rw [hy] at HP ⊢
      clear h4 hf3 ht3 H1 H2 H3 hy
      go_wp2_with fail
      exact ⟨HP.out, by simp [intOf]; omega⟩
    · obtain rfl : j = n := by omega
      have HE := Lib.hid (show RowNew p b wd j (fun j => fpow p a j) w (.returned (.slice (some ⟨w.heap.size, 0, none⟩) j j)) wr from ⟨_, rfl, H1.out.congr (fun x hx => by rw [if_pos hx]), Nat.le_refl _, H2.out, H3.out⟩)
      clear H1 H2 H3
      go_wp2_with fail
      go_ret
      exact HE.out

set_option maxRecDepth 100000 in
theorem highest33 (n : Nat) (hn : n ≤ 100) (w : World) :
    Calls Tryz.prog 57 #[.int .i64 ((n + 1 : Nat) : Int)] w fun e w' => e = .returned (.slice (some ⟨w.heap.size, 0, none⟩) (n + 1) (n + 1)) ∧ w'.rowIs w.heap.size TI (n + 1) (i64s (idF n)) ∧ Below w.heap.size w w' := by
  have hmk := run_make_row' (P := Tryz.prog) TIs TI (.int .i64 0) 8 underI infoI rfl .i64 .i64 (n + 1) (by omega) (by omega)
  have h1 := World.rowIs_made w (.int .i64 0) (n + 1) TI
  have c1 := h1.cell (show n < n + 1 by omega)
  have f1 := h1.frozen n
  have HE := Lib.hid (show ((w.alloc (.cells (madeCells #[.int .i64 0] (n + 1)) TI)).setCell ⟨w.heap.size, n, none⟩ (.int .i64 1)).rowIs w.heap.size TI (n + 1) (i64s (idF n)) ∧ Below w.heap.size w ((w.alloc (.cells (madeCells #[.int .i64 0] (n + 1)) TI)).setCell ⟨w.heap.size, n, none⟩ (.int .i64 1)) from
    ⟨(h1.set n _).congr (fun x _ => by
      simp only [i64s, idF]
      by_cases e : x = n
      · rw [if_pos e, if_pos e.symm]
      · rw [if_neg e, if_neg (fun h => e h.symm)]), (below_alloc w _).setCell (p := ⟨w.heap.size, n, none⟩) (Nat.le_refl _) _⟩)
  obtain ⟨N, hN⟩ : ∃ N : Nat, n + 1 = N := ⟨_, rfl⟩
  rw [hN] at hmk c1 HE ⊢
  rw [World.setCell_alloc_new] at HE
  have hsub : ((N : Int) - 1) = (n : Int) := by omega
  have hNn : n < N := by omega
  clear h1 hN
  go_enter Tryz.func57, Tryz.ntmps57
  go_wp2_with fail
  go_ret
  exact ⟨rfl, HE.out⟩

/-- in Extended's loop: i rows are there -/
def ExtAt (q : FP) (b wd k n : Nat) (F : Nat → Nat → Int) (w : World) (s9 s25 : Value) (wr : World) : Prop := ∃ i : Nat, i ≤ n ∧ s25 = .int .i64 i ∧ Van q b wd k (fun _ => 0) F w 0 i nilS s9 wr

theorem van_room {q : FP} {b wd k N : Nat} {F : Nat → Nat → Int} {w : World} (hf : Fld q.p b wd w) (hN : N ≤ 100) :
    Van q b wd k (fun _ => 0) F w 0 0 nilS (.slice (some ⟨w.heap.size, 0, none⟩) 0 N) (w.alloc (.cells (madeCells #[nilS] N) TIs)) :=
  ⟨⟨hf.of_below (below_alloc _ _), Turned.of_below (below_alloc _ _), World.ownsRow_nil _ _ _ _⟩, fun _ => none, fun _ => 0, World.ownsRow_made w _ N (Nat.le_refl _) (by unfold maxLen; omega) (by rw [size_madeCells, Nat.mul_one]), fun r hr => absurd hr (by omega)⟩
/-- a new row is appended -/
theorem van_new {q : FP} {b wd n : Nat} {l : Nat → Int} {F : Nat → Nat → Int} {w wr w1 : World} {j g g' cap : Nat} {va : Value} {o : Obj} {As : Nat → Option Addr} {Cs : Nat → Nat} (hb : b < w.heap.size)
    (hv : AppT q b wd w TI (i64s l) 0 nilS wr) (h1 : wr.ownsRow w.heap.size TIs 1 va j ((List.range j).map (slis As (fun _ => n) Cs))) (h2 : ∀ r, r < j → ∀ g, (g = b ∨ nilS.ownBlock = some g ∨ va.ownBlock = some g) → Rd g wr (i64s (F r)) (As r) n)
    (hr : wr.rowIs g TI n (i64s (F j))) (hg : w.heap.size ≤ g)
    (ho : w1.ownsRow w.heap.size TIs 1 (.slice (some ⟨g', 0, none⟩) (j + 1) cap) (j + 1) ((List.range j).map (slis As (fun _ => n) Cs) ++ [.slice (some ⟨g, 0, none⟩) n n])) (hgr : (wr.alloc o).grownBy w1 va.ownBlock) (hg' : va.ownBlock = some g' ∨ g' = wr.heap.size + 1) :
    Van q b wd n l F w 0 (j + 1) nilS (.slice (some ⟨g', 0, none⟩) (j + 1) cap) w1 := by
  refine Van.row hv h1 h2 (fun x hx => Rd.of_row hr ?_ (Nat.le_refl _)) ho hgr hg'
  rcases hx with rfl | hx | hx
  · omega
  · cases hx
  · rintro rfl
    exact absurd (own_kind h1 hx hr) (by decide)
/-- all rows are there -/
theorem Van.said {q : FP} {b wd n N : Nat} {l : Nat → Int} {E : Nat → Nat → El q} {w wr : World} {va : Value} (h : Van q b wd n l (ivs E) w 0 N nilS va wr) (hb : b < w.heap.size) : VSaid q b wd N n E w (.returned (.tuple #[va, .int .i64 0])) wr := by
  obtain ⟨As, Cs, h1, h2⟩ := h.rows
  obtain ⟨A, c, rfl, hc, hrd⟩ := Rd.of_own h1 hb
  exact ⟨A, c, rfl, hc, ⟨As, Cs, hrd, fun r hr => h2 r hr b (Or.inl rfl)⟩, h.pts.fld, h.pts.turned⟩

theorem make_room (n : Nat) (hn : n ≤ 100) (w : World) : (Instr.makeSlice TM (.int .i64 0) (.int .i64 (n : Int))).run Tryz.prog w = .ok (.slice (some ⟨w.heap.size, 0, none⟩) 0 n) (w.alloc (.cells (madeCells #[nilS] n) TIs)) := by
  obtain ⟨i0, hi, hz0, hz1, hz2⟩ := info_parts infoRow
  have h := run_makeSlice (P := Tryz.prog) w TM TIs i0 nilS underM' hi hz0 .i64 .i64 0 (n : Int) (by omega) (by omega) (by rw [hz1]; omega) (by rw [hz2]; omega) (by omega)
  rw [hz1, Nat.mul_one, Int.toNat_natCast] at h
  exact h

set_option maxRecDepth 100000 in
set_option maxHeartbeats 2000000 in
theorem jext_yes (q : FP) (b wd k m : Nat) (hk : side k) (hm : side m) (hkm : k + m ≤ 20) (w : World) (hf : Fld q.p b wd w) :
    Calls Tryz.prog 31 #[.pointer (some ⟨b, 0, none⟩), .int .i64 k, .int .i64 m] w (VSaid q b wd (k + m) k (extE q k (k + m)) w) := by
  obtain ⟨i0, hi, hz0, hz1, hz2⟩ := info_parts infoRow
  have hkd := hf.1.kind
  have hkb := hkd.bounds
  have hc0 := hf.c0
  have hbl := hf.lt
  have hn1 := hk.1
  have hn2 := hk.2
  have hm1 := hm.1
  have hm2 := hm.2
  obtain ⟨n, hn⟩ : ∃ n, k + m = n + 1 := ⟨k + m - 1, by omega⟩
  obtain ⟨k1, hk1⟩ : ∃ k1, k = k1 + 1 := ⟨k - 1, by omega⟩
  have hnI : (k : Int) + (m : Int) = (n : Int) + 1 := by omega
  have HN := Lib.hid (show fitsI (k : Int) (m : Int) from ⟨⟨by omega, by omega⟩, ⟨by omega, by omega⟩, by omega⟩)
  have hmk := make_room (n + 1) (by omega)
  rw [show (((n + 1 : Nat) : Int)) = (n : Int) + 1 by omega] at hmk
  have HS := Lib.hid (van_room (F := ivs (extE q k (k + m))) (k := k) hf (show n + 1 ≤ 100 by omega))
  have HR := Lib.hid (show ∀ i, i < n → ∀ j, i64s (fun j => fpow q.p (i : Int) (j : Nat)) j = i64s (ivs (extE q k (k + m)) i) j from fun i hi j => by
    simp only [i64s, ivs]
    rw [ext_raw (by omega), ← rawE_val (by omega)])
  have HL := Lib.hid (show ∀ j, i64s (idF k1) j = i64s (ivs (extE q k (k + m)) n) j from fun j => by
    simp only [i64s, ivs]
    rw [ext_last (by omega), show k - 1 = k1 by omega, idF_el (q := q)])
  rw [hn] at HS HR HL
  rw [hn]
  have hn19 : n ≤ 19 := by omega
  have HH := Lib.hid (highest33 k1 (by omega))
  rw [← hk1] at HH
  clear hf hk hm hn hk1 hkm
  go_enter Tryz.func31, Tryz.ntmps31
  go_wp2_with fail
  refine (jcode31 b wd _ hkd k m (by omega) _ hc0).mono ?_
  rintro e w' ⟨t, rfl, ht, rfl⟩
  obtain rfl : t = true := ht.2 HN.out
  clear ht HN hc0
  go_wp2_with fail
  go_loopw [9, 25] (fun s9 s25 wr => ExtAt q b wd k n (ivs (extE q k (n + 1))) w s9 s25 wr) (fun _ s25 _ => n - (intOf s25).toNat)
  case atStart => exact ⟨0, Nat.zero_le _, rfl, HS.out⟩
  case round =>
    clear HS
    obtain ⟨i, hin, rfl, hV⟩ := hrel
    have HV := Lib.hid hV
    clear hV
    by_cases hlt : i < n
    · go_wp2_with fail
      refine (powers32 q.p b wd k i (by omega) _ HV.out.pts.fld).mono ?_
      rintro e w2 ⟨g, rfl, hr, hgl, hf2, ht2⟩
      have hV2 := HV.out.turn hbl hf2 ht2
      have HRW := Lib.hid (hr.congr (fun j _ => HR.out i hlt j))
      have hsz := HV.out.pts.turned.size
      have hsz2 := ht2.size
      obtain ⟨hp, As, Cs, ho, hrows⟩ := hV2
      have HP := Lib.hid hp
      have HO := Lib.hid ho
      have HRS := Lib.hid hrows
      clear hr hf2 ht2 hp ho hrows HV
      go_wp2_with (at_builtin; refine wpList_append_lies _ rfl _ _ TM rfl w.heap.size TIs i0 nilS 1 24 underM' hi hz0 hz1 hz2 rfl (by decide) _ i _ rfl (HO.out.alloc _) ⟨w2.heap.size, 0, none⟩ 1 1 [.slice (some ⟨g, 0, none⟩) k k] rfl rfl (news_one rfl) (one_slice _ _ _) (by omega) (by unfold maxLen; omega) (by omega) (by simp; omega) _ rfl ?_)
      intro g' cap' w3 hown3 hgr3 hg3 _
      have HX := Lib.hid (van_new hbl HP.out HO.out HRS.out HRW.out (by omega) hown3 hgr3 hg3)
      clear hown3 hgr3 hg3 HP HO HRS HRW
      go_wp2_with fail
      exact ⟨⟨i + 1, hlt, by go_num, HX.out⟩, by simp [intOf]; omega⟩
    · obtain rfl : i = n := by omega
      go_wp2_with fail
      refine (HH.out _).mono ?_
      rintro e w2 ⟨rfl, hr, hb2⟩
      have hV2 := HV.out.turn hbl (HV.out.pts.fld.of_below hb2) (Turned.of_below hb2)
      have HRW := Lib.hid (hr.congr (fun j _ => HL.out j))
      have hsz := HV.out.pts.turned.size
      have hsz2 := hb2.size
      obtain ⟨hp, As, Cs, ho, hrows⟩ := hV2
      have HP := Lib.hid hp
      have HO := Lib.hid ho
      have HRS := Lib.hid hrows
      clear hr hb2 hp ho hrows HV HH
      go_wp2_with (at_builtin; refine wpList_append_lies _ rfl _ _ TM rfl w.heap.size TIs i0 nilS 1 24 underM' hi hz0 hz1 hz2 rfl (by decide) _ i _ rfl (HO.out.alloc _) ⟨w2.heap.size, 0, none⟩ 1 1 [.slice (some ⟨wr.heap.size, 0, none⟩) k k] rfl rfl (news_one rfl) (one_slice _ _ _) (by omega) (by unfold maxLen; omega) (by omega) (by simp; omega) _ rfl ?_)
      intro g' cap' w3 hown3 hgr3 hg3 _
      have HX := Lib.hid (Van.said (van_new hbl HP.out HO.out HRS.out HRW.out (by omega) hown3 hgr3 hg3) hbl)
      clear hown3 hgr3 hg3 HP HO HRS HRW
      go_wp2_with fail
      go_ret2
      exact HX.out

set_option maxRecDepth 100000 in
theorem jext_nil (k m : Int) (w : World) :
    Calls Tryz.prog 31 #[.pointer none, .int .i64 k, .int .i64 m] w fun e w' => e = .returned (.tuple #[nilS, .int .i64 1]) ∧ Below w.heap.size w w' := by
  have HB := Lib.hid (Below.refl w.heap.size w)
  go_enter Tryz.func31, Tryz.ntmps31
  go_wp2_with fail
  refine (jcode_nil k m _).mono ?_
  rintro e w' ⟨rfl, rfl⟩
  go_wp2_with fail
  go_ret2
  exact ⟨rfl, HB.out⟩

set_option maxRecDepth 100000 in
set_option maxHeartbeats 1000000 in
theorem jext_no (p b wd : Nat) (k m : Int) (hk63 : k ≤ 9223372036854775807) (hno : ¬ fitsI k m) (w : World) (hf : Fld p b wd w) :
    Calls Tryz.prog 31 #[.pointer (some ⟨b, 0, none⟩), .int .i64 k, .int .i64 m] w fun e w' => e = .returned (.tuple #[nilS, .int .i64 1]) ∧ Below w.heap.size w w' := by
  have hkd := hf.1.kind
  have hc0 := hf.c0
  have HB := Lib.hid (Below.refl w.heap.size w)
  have HN := Lib.hid hno
  clear hf hno
  go_enter Tryz.func31, Tryz.ntmps31
  go_wp2_with fail
  refine (jcode31 b wd _ hkd k m hk63 _ hc0).mono ?_
  rintro e w' ⟨t, rfl, ht, rfl⟩
  obtain rfl : t = false := by
    cases t
    · rfl
    · exact absurd (ht.1 rfl) HN.out
  clear ht
  go_wp2_with fail
  go_ret2
  exact ⟨rfl, HB.out⟩
end Go.Proofs.YtgcochamjicjiaaGreat
