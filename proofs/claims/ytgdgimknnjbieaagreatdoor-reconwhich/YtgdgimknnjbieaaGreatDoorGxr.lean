/- Jerasure's rows of powers: any k have an inverse; rows and columns that are scaled still have: plain mathematics. The contracts of package jvan: mayCode, powers, highest and Extended. Rows that are divided where they stand: the contracts of package jvan's divideColumn, divideRow, and each, of either step. The contract of package jvan's Parity. -/
import Derived.Test.YtgdgimknnjbieaaGreatDoorGxp
import Derived.Deep.AppendLies
import Derived.Deep.RegionHeld3

namespace Go.Proofs.YtgdgimknnjbieaaGreatDoor
open Go.RowKit

section
variable {q : FP}
/-- Jerasure's rows of powers, N of them, of k numbers each: the last one is that of infinity -/
def extE (q : FP) (k N i j : Nat) : El q := if i + 1 = N then dl (k - 1) j else rawE q i j
theorem ext_raw {k N i : Nat} (h : i + 1 ≠ N) (j : Nat) : extE q k N i j = rawE q i j := if_neg h
theorem ext_last {k N i : Nat} (h : i + 1 = N) (j : Nat) : extE q k N i j = dl (k - 1) j := if_pos h

theorem ext_any {k N : Nat} {l : Nat → Nat} (hN : (N : Int) ≤ M.ord q.p) (hl : ∀ i, i < k → l i < N) (hu : ∀ i j, i < k → j < k → l i = l j → i = j) : rk k (fun i j => extE q k N (l i) j) k = k := by
  by_cases hx : ∃ i0, i0 < k ∧ l i0 + 1 = N
  · obtain ⟨i0, hi0, e0⟩ := hx
    obtain ⟨n, rfl⟩ : ∃ n, k = n + 1 := ⟨k - 1, by omega⟩
    refine full_tr (full_of_free (fun c hc => ?_))
    have h0 : c n = 0 := by
      have h := hc i0 hi0
      rw [su_one (fun i => c i * extE q (n + 1) N (l i0) i) (show n < n + 1 by omega) (fun i _ hne => by rw [ext_last e0, Nat.add_sub_cancel, dl_ne (fun e => hne e.symm), El.mul_zero])] at h
      rw [ext_last e0, Nat.add_sub_cancel, dl_self, El.mul_one] at h
      exact h
    have hz := ev_roots n (fun i => toEl q ((l (if i = i0 then n else i) : Nat) : Int)) (fun i j hi hj h => by
      have hle : ∀ x, x < n + 1 → ((l x : Nat) : Int) ≤ M.ord q.p := fun x hx => by have := hl x hx; omega
      have h1 : (if i = i0 then n else i) < n + 1 := by split <;> omega
      have h2 : (if j = i0 then n else j) < n + 1 := by split <;> omega
      have h3 := toEl_inj ⟨by omega, hle _ h1⟩ ⟨by omega, hle _ h2⟩ h
      have h4 := hu _ _ h1 h2 (by omega)
      split at h4 <;> split at h4 <;> omega) c (fun i hi => by
      have h1 : (if i = i0 then n else i) < n + 1 := by split <;> omega
      have h2 := hc _ h1
      have h3 : (if i = i0 then n else i) ≠ i0 := by split <;> omega
      have h4 : l (if i = i0 then n else i) + 1 ≠ N := fun e => h3 (hu _ _ h1 hi0 (by omega))
      rw [su, h0, El.zero_mul, El.add_zero] at h2
      unfold ev
      rw [← h2]
      exact su_congr (fun j _ => by rw [ext_raw h4]; rfl))
    intro j hj
    by_cases e : j = n
    · rw [e]; exact h0
    · exact hz j (by omega)
  · rw [rk_congr (F := fun i j => rawE q (l i) j) (fun r hr j _ => ext_raw (fun e => hx ⟨r, hr, e⟩) j)]
    exact pick_full (fun i hi => by have := hl i hi; omega) hu

/-- rows and columns that are scaled by numbers but 0 -/
theorem scale_full {k : Nat} {F : Nat → Nat → El q} {s t : Nat → El q} (h : rk k F k = k) (hs : ∀ i, i < k → s i ≠ 0) (ht : ∀ j, j < k → t j ≠ 0) : rk k (fun i j => s i * (F i j * t j)) k = k := by
  refine full_of_free (fun c hc i hi => ?_)
  have h1 := free_of_full h (fun i => c i * s i) (fun j hj => by
    have e := hc j hj
    have e2 : su k (fun i => c i * (s i * (F i j * t j))) = t j * su k (fun i => c i * s i * F i j) := by
      rw [mul_su]
      exact su_congr (fun i _ => by ac_rfl)
    rw [e2] at e
    exact El.cancel (ht j hj) e) i hi
  exact El.cancel (hs i hi) (by rw [El.mul_comm]; exact h1)
theorem El.inv_ne {a : El q} (h : a ≠ 0) : a.inv ≠ 0 := fun e => by
  have h1 := El.mul_inv h
  rw [e, El.mul_zero] at h1
  exact El.one_ne h1.symm
theorem El.inv_one : (1 : El q).inv = 1 := by
  have h1 := El.mul_inv (El.one_ne (q := q))
  rwa [El.one_mul] at h1

/-- rows of powers, times the inverse of the first ones -/
def sysJ (q : FP) (k N : Nat) : Nat → Nat → El q := mm k (extE q k N) (ivm k (extE q k N))
theorem ext_full {k N : Nat} (hN : (N : Int) ≤ M.ord q.p) (hk : k ≤ N) : rk k (extE q k N) k = k := ext_any (l := fun i => i) hN (fun i hi => by omega) (fun i j _ _ h => h)
theorem sysJ_id {k N : Nat} (hN : (N : Int) ≤ M.ord q.p) (hk : k ≤ N) {r c : Nat} (hr : r < k) (hc : c < k) : sysJ q k N r c = dl r c := (ivm_inv (ext_full hN hk)).2 r hr c hc
theorem sysJ_any {k N : Nat} {l : Nat → Nat} (hN : (N : Int) ≤ M.ord q.p) (hk : k ≤ N) (hl : ∀ i, i < k → l i < N) (hu : ∀ i j, i < k → j < k → l i = l j → i = j) : rk k (fun i j => sysJ q k N (l i) j) k = k := by
  have e : (fun i j => sysJ q k N (l i) j) = mm k (fun i j => extE q k N (l i) j) (ivm k (extE q k N)) := rfl
  rw [e]
  exact full_mm.2 ⟨ext_any hN hl hu, full_of_right (ivm_inv (ext_full hN hk)).1⟩
theorem sysJ_ne {k N : Nat} (hN : (N : Int) ≤ M.ord q.p) {i j : Nat} (hi : k ≤ i) (hi2 : i < N) (hj : j < k) : sysJ q k N i j ≠ 0 := fun h0 => by
  have hf := sysJ_any (q := q) (k := k) (l := fun r => if r = j then i else r) hN (by omega) (fun r hr => by split <;> omega) (fun r s hr hs e => by
    split at e <;> split at e <;> omega)
  have h1 := (ivm_inv hf).1 j hj j hj
  rw [dl_self] at h1
  refine El.one_ne (h1.symm.trans (su_none (fun r hr => ?_)))
  dsimp only
  by_cases e : r = j
  · rw [if_pos e, h0, El.mul_zero]
  · rw [if_neg e, sysJ_id hN (by omega) hr hj, dl_ne e, El.mul_zero]

/-- the parity rows ahead of any division -/
def jG (q : FP) (k N i j : Nat) : El q := sysJ q k N (k + i) j
/-- each column divided by its number in the first row -/
def colE (G : Nat → Nat → El q) (i j : Nat) : El q := G i j * (G 0 j).inv
/-- and then each row by its number in the first column -/
def rowE (C : Nat → Nat → El q) (i j : Nat) : El q := C i j * (C i 0).inv
/-- the parity rows -/
def parE (q : FP) (k N : Nat) : Nat → Nat → El q := rowE (colE (jG q k N))

section
variable {G : Nat → Nat → El q} {i j : Nat}
theorem col_first (h : G 0 j ≠ 0) : colE G 0 j = 1 := El.mul_inv h
theorem col_ne (h : G i j ≠ 0) (h0 : G 0 j ≠ 0) : colE G i j ≠ 0 := El.mul_ne h (El.inv_ne h0)
theorem row_same (h : G 0 0 ≠ 0) : rowE (colE G) 0 j = colE G 0 j := by unfold rowE; rw [col_first h, El.inv_one, El.mul_one]
end

/-- any k rows of the identity and parity behind it -/
theorem par_any {k m : Nat} (hm : 1 ≤ m) (hN : ((k + m : Nat) : Int) ≤ M.ord q.p) (f : Nat → Nat) (hf : ∀ i, i < k → f i < k + m) (hu : ∀ i j, i < k → j < k → f i = f j → i = j) :
    rk k (fun i j => joinE k dl (parE q k (k + m)) (f i) j) k = k := by
  have hG : ∀ i, i < m → ∀ j, j < k → jG q k (k + m) i j ≠ 0 := fun i hi j hj => sysJ_ne hN (by omega) (by omega) hj
  have hs := scale_full (F := fun i j => sysJ q k (k + m) (f i) j) (s := fun i => if f i < k then jG q k (k + m) 0 (f i) else (colE (jG q k (k + m)) (f i - k) 0).inv) (t := fun j => (jG q k (k + m) 0 j).inv)
    (sysJ_any hN (by omega) hf hu) (fun i hi => by
      have h1 := hf i hi
      split
      · exact hG 0 (by omega) _ (by omega)
      · exact El.inv_ne (col_ne (hG _ (by omega) 0 (by omega)) (hG 0 (by omega) 0 (by omega)))) (fun j hj => El.inv_ne (hG 0 (by omega) j hj))
  refine Eq.trans (rk_congr (fun i hi j hj => ?_)) hs
  have h1 := hf i hi
  unfold joinE
  by_cases e : f i < k
  · rw [if_pos e, if_pos e, sysJ_id hN (by omega) e hj]
    by_cases e2 : f i = j
    · rw [e2, dl_self, El.one_mul, El.mul_inv (hG 0 (by omega) j hj)]
    · rw [dl_ne e2, El.zero_mul, El.mul_zero]
  · rw [if_neg e, if_neg e]
    show colE (jG q k (k + m)) (f i - k) j * (colE (jG q k (k + m)) (f i - k) 0).inv = _
    rw [El.mul_comm]
    congr 1
    unfold colE jG
    rw [show k + (f i - k) = f i by omega]
end
end Go.Proofs.YtgdgimknnjbieaaGreatDoor

namespace Go.Proofs.YtgdgimknnjbieaaGreatDoor
open Go.RowKit

set_option maxRecDepth 100000 in
set_option maxHeartbeats 1000000 in
theorem jcode31 (b wd c : Nat) (hk : Kind wd c) (k m : Int) (hb : k ≤ 9223372036854775807) (w : World) (hc : w.cell? ⟨b, 0, none⟩ = some (.int .i64 wd)) :
    Calls Tryz.prog 156 #[.pointer (some ⟨b, 0, none⟩), .int .i64 k, .int .i64 m] w (SaidB (fitsI k m) w) := by
  have hbd := hk.bounds
  have hd : (((c : Int) + 1) != 0) = true := by simp; omega
  by_cases h1 : 1 ≤ k
  · have d1 : decide (1 ≤ k) = true := by simp; omega
    by_cases h2 : 1 ≤ m
    · have d2 : decide (1 ≤ m) = true := by simp; omega
      by_cases h3 : m ≤ 20 - k
      · have d3 : decide (m ≤ 20 - k) = true := by simp; omega
        have HE := Lib.hid (SaidB.yes (w := w) (show fitsI k m from ⟨⟨h1, by omega⟩, ⟨h2, by omega⟩, by omega⟩))
        go_enter Tryz.func156, Tryz.ntmps156
        go_wp2_with fail
        refine (size13 b wd c hk _ hc).mono ?_
        rintro e w' ⟨rfl, rfl⟩
        go_wp2_with fail
        go_ret
        exact HE.out
      · have d3 : decide (m ≤ 20 - k) = false := by simp; omega
        have HE := Lib.hid (SaidB.no (w := w) (show ¬ fitsI k m from fun h => by have := h.2.2; omega))
        go_enter Tryz.func156, Tryz.ntmps156
        go_wp2_with fail
        refine (size13 b wd c hk _ hc).mono ?_
        rintro e w' ⟨rfl, rfl⟩
        go_wp2_with fail
        go_ret
        exact HE.out
    · have d2 : decide (1 ≤ m) = false := by simp; omega
      have HE := Lib.hid (SaidB.no (w := w) (show ¬ fitsI k m from fun h => h2 h.2.1.1))
      go_enter Tryz.func156, Tryz.ntmps156
      go_wp2_with fail
      refine (size13 b wd c hk _ hc).mono ?_
      rintro e w' ⟨rfl, rfl⟩
      go_wp2_with fail
      go_ret
      exact HE.out
  · have d1 : decide (1 ≤ k) = false := by simp; omega
    have HE := Lib.hid (SaidB.no (w := w) (show ¬ fitsI k m from fun h => h1 h.1.1))
    go_enter Tryz.func156, Tryz.ntmps156
    go_wp2_with fail
    refine (size13 b wd c hk _ hc).mono ?_
    rintro e w' ⟨rfl, rfl⟩
    go_wp2_with fail
    go_ret
    exact HE.out

/-- a row of numbers that is made while the field may turn -/
def RowNew (p b wd n : Nat) (l : Nat → Int) (w : World) (e : Ending) (w' : World) : Prop :=
  ∃ g, e = .returned (.slice (some ⟨g, 0, none⟩) n n) ∧ w'.rowIs g TI n (i64s l) ∧ w.heap.size ≤ g ∧ Fld p b wd w' ∧ Turned b w w'
def PowAt (p b wd n : Nat) (l : Nat → Int) (w : World) (s13 : Value) (W : World) : Prop :=
  ∃ j : Nat, j ≤ n ∧ s13 = .int .i64 j ∧ W.rowIs w.heap.size TI n (fun x => .int .i64 (if x < j then l x else 0)) ∧ Fld p b wd W ∧ Turned b w W
theorem powAt_step {p b wd n j : Nat} {l : Nat → Int} {w W : World} (hj : j < n) (h1 : W.rowIs w.heap.size TI n (fun x => .int .i64 (if x < j then l x else 0))) (hf : Fld p b wd W) (ht : Turned b w W) :
    PowAt p b wd n l w (.int .i64 ((j + 1 : Nat) : Int)) (W.setCell ⟨w.heap.size, j, none⟩ (.int .i64 (l j))) := by
  refine ⟨j + 1, hj, rfl, (h1.set j _).congr (fun x _ => ?_), hf.setRow h1 (by decide) (by decide) _, ht.set_new (Nat.le_refl _) _⟩
  rcases Nat.lt_trichotomy x j with e | e | e
  · rw [if_neg (by omega), if_pos e, if_pos (by omega)]
  · rw [if_pos e, if_pos (by omega), e]
  · rw [if_neg (by omega), if_neg (by omega), if_neg (by omega)]

set_option maxRecDepth 100000 in
set_option maxHeartbeats 1000000 in
theorem powers32 (p b wd n : Nat) (a : Int) (hn : n ≤ 100) (w : World) (hf : Fld p b wd w) :
    Calls Tryz.prog 157 #[.pointer (some ⟨b, 0, none⟩), .int .i64 a, .int .i64 n] w (RowNew p b wd n (fun j => fpow p a j) w) := by
  have hmk := run_make_row' (P := Tryz.prog) TIs TI (.int .i64 0) 8 underI infoI rfl .i64 .i64 n (by omega) (by omega)
  have HS := Lib.hid (show PowAt p b wd n (fun j => fpow p a j) w (.int .i64 ((0 : Nat) : Int)) (w.alloc (.cells (madeCells #[.int .i64 0] n) TI)) from
    ⟨0, Nat.zero_le _, rfl, (World.rowIs_made w (.int .i64 0) n TI).congr (fun x _ => by rw [if_neg (by omega)]), hf.of_below (below_alloc _ _), Turned.of_below (below_alloc _ _)⟩)
  have hbl := hf.lt
  clear hf
  go_enter Tryz.func157, Tryz.ntmps157
  go_wp2_with fail
  go_loopw [13] (fun s13 wr => PowAt p b wd n (fun j => fpow p a j) w s13 wr) (fun s13 _ => n - (intOf s13).toNat)
  case atStart => exact HS.out
  case round =>
    clear HS
    obtain ⟨j, hj, rfl, h1, h2, h3⟩ := hrel
    have H1 := Lib.hid h1
    have H2 := Lib.hid h2
    have H3 := Lib.hid h3
    clear h1 h2 h3
    by_cases hlt : j < n
    · go_wp2_with fail
      refine (fpow21 p b wd a j (by omega) _ H2.out).mono ?_
      rintro e w3 ⟨rfl, hf3, ht3⟩
      have h4 := ht3.row H1.out (by omega)
      have HP := Lib.hid (powAt_step hlt h4 hf3 (H3.out.trans ht3))
      have c1 := h4.cell hlt
      have f1 := h4.frozen j
      rw [if_neg (by omega)] at c1
      obtain ⟨y, hy⟩ : ∃ y, fpow p a j = y := ⟨_, rfl⟩
      rw [hy] at HP ⊢
      clear h4 hf3 ht3 H1 H2 H3 hy
      go_wp2_with fail
      exact ⟨HP.out, by simp [intOf]; omega⟩
    · obtain rfl : j = n := by omega
      have HE := Lib.hid (show RowNew p b wd j (fun j => fpow p a j) w (.returned (.slice (some ⟨w.heap.size, 0, none⟩) j j)) wr from ⟨_, rfl, H1.out.congr (fun x hx => by rw [if_pos hx]), Nat.le_refl _, H2.out, H3.out⟩)
      clear H1 H2 H3
      go_wp2_with fail
      go_ret
      exact HE.out

set_option maxRecDepth 100000 in
theorem highest33 (n : Nat) (hn : n ≤ 100) (w : World) :
    Calls Tryz.prog 158 #[.int .i64 ((n + 1 : Nat) : Int)] w fun e w' => e = .returned (.slice (some ⟨w.heap.size, 0, none⟩) (n + 1) (n + 1)) ∧ w'.rowIs w.heap.size TI (n + 1) (i64s (idF n)) ∧ Below w.heap.size w w' := by
  have hmk := run_make_row' (P := Tryz.prog) TIs TI (.int .i64 0) 8 underI infoI rfl .i64 .i64 (n + 1) (by omega) (by omega)
  have h1 := World.rowIs_made w (.int .i64 0) (n + 1) TI
  have c1 := h1.cell (show n < n + 1 by omega)
  have f1 := h1.frozen n
  have HE := Lib.hid (show ((w.alloc (.cells (madeCells #[.int .i64 0] (n + 1)) TI)).setCell ⟨w.heap.size, n, none⟩ (.int .i64 1)).rowIs w.heap.size TI (n + 1) (i64s (idF n)) ∧ Below w.heap.size w ((w.alloc (.cells (madeCells #[.int .i64 0] (n + 1)) TI)).setCell ⟨w.heap.size, n, none⟩ (.int .i64 1)) from
    ⟨(h1.set n _).congr (fun x _ => by
      simp only [i64s, idF]
      by_cases e : x = n
      · rw [if_pos e, if_pos e.symm]
      · rw [if_neg e, if_neg (fun h => e h.symm)]), (below_alloc w _).setCell (p := ⟨w.heap.size, n, none⟩) (Nat.le_refl _) _⟩)
  obtain ⟨N, hN⟩ : ∃ N : Nat, n + 1 = N := ⟨_, rfl⟩
  rw [hN] at hmk c1 HE ⊢
  rw [World.setCell_alloc_new] at HE
  have hsub : ((N : Int) - 1) = (n : Int) := by omega
  have hNn : n < N := by omega
  clear h1 hN
  go_enter Tryz.func158, Tryz.ntmps158
  go_wp2_with fail
  go_ret
  exact ⟨rfl, HE.out⟩

/-- in Extended's loop: i rows are there -/
def ExtAt (q : FP) (b wd k n : Nat) (F : Nat → Nat → Int) (w : World) (s9 s25 : Value) (wr : World) : Prop := ∃ i : Nat, i ≤ n ∧ s25 = .int .i64 i ∧ Van q b wd k (fun _ => 0) F w 0 i nilS s9 wr

theorem van_room {q : FP} {b wd k N : Nat} {F : Nat → Nat → Int} {w : World} (hf : Fld q.p b wd w) (hN : N ≤ 100) :
    Van q b wd k (fun _ => 0) F w 0 0 nilS (.slice (some ⟨w.heap.size, 0, none⟩) 0 N) (w.alloc (.cells (madeCells #[nilS] N) TIs)) :=
  ⟨⟨hf.of_below (below_alloc _ _), Turned.of_below (below_alloc _ _), World.ownsRow_nil _ _ _ _⟩, fun _ => none, fun _ => 0, World.ownsRow_made w _ N (Nat.le_refl _) (by unfold maxLen; omega) (by rw [size_madeCells, Nat.mul_one]), fun r hr => absurd hr (by omega)⟩
/-- a new row is appended -/
theorem van_new {q : FP} {b wd n : Nat} {l : Nat → Int} {F : Nat → Nat → Int} {w wr w1 : World} {j g g' cap : Nat} {va : Value} {o : Obj} {As : Nat → Option Addr} {Cs : Nat → Nat} (hb : b < w.heap.size)
    (hv : AppT q b wd w TI (i64s l) 0 nilS wr) (h1 : wr.ownsRow w.heap.size TIs 1 va j ((List.range j).map (slis As (fun _ => n) Cs))) (h2 : ∀ r, r < j → ∀ g, (g = b ∨ nilS.ownBlock = some g ∨ va.ownBlock = some g) → Rd g wr (i64s (F r)) (As r) n)
    (hr : wr.rowIs g TI n (i64s (F j))) (hg : w.heap.size ≤ g)
    (ho : w1.ownsRow w.heap.size TIs 1 (.slice (some ⟨g', 0, none⟩) (j + 1) cap) (j + 1) ((List.range j).map (slis As (fun _ => n) Cs) ++ [.slice (some ⟨g, 0, none⟩) n n])) (hgr : (wr.alloc o).grownBy w1 va.ownBlock) (hg' : va.ownBlock = some g' ∨ g' = wr.heap.size + 1) :
    Van q b wd n l F w 0 (j + 1) nilS (.slice (some ⟨g', 0, none⟩) (j + 1) cap) w1 := by
  refine Van.row hv h1 h2 (fun x hx => Rd.of_row hr ?_ (Nat.le_refl _)) ho hgr hg'
  rcases hx with rfl | hx | hx
  · omega
  · cases hx
  · rintro rfl
    exact absurd (own_kind h1 hx hr) (by decide)
/-- all rows are there -/
theorem Van.said {q : FP} {b wd n N : Nat} {l : Nat → Int} {E : Nat → Nat → El q} {w wr : World} {va : Value} (h : Van q b wd n l (ivs E) w 0 N nilS va wr) (hb : b < w.heap.size) : VSaid q b wd N n E w (.returned (.tuple #[va, .int .i64 0])) wr := by
  obtain ⟨As, Cs, h1, h2⟩ := h.rows
  obtain ⟨A, c, rfl, hc, hrd⟩ := Rd.of_own h1 hb
  exact ⟨A, c, rfl, hc, ⟨As, Cs, hrd, fun r hr => h2 r hr b (Or.inl rfl)⟩, h.pts.fld, h.pts.turned⟩

theorem make_room (n : Nat) (hn : n ≤ 100) (w : World) : (Instr.makeSlice TM (.int .i64 0) (.int .i64 (n : Int))).run Tryz.prog w = .ok (.slice (some ⟨w.heap.size, 0, none⟩) 0 n) (w.alloc (.cells (madeCells #[nilS] n) TIs)) := by
  obtain ⟨i0, hi, hz0, hz1, hz2⟩ := info_parts infoRow
  have h := run_makeSlice (P := Tryz.prog) w TM TIs i0 nilS underM' hi hz0 .i64 .i64 0 (n : Int) (by omega) (by omega) (by rw [hz1]; omega) (by rw [hz2]; omega) (by omega)
  rw [hz1, Nat.mul_one, Int.toNat_natCast] at h
  exact h

set_option maxRecDepth 100000 in
set_option maxHeartbeats 2000000 in
theorem jext_yes (q : FP) (b wd k m : Nat) (hk : side k) (hm : side m) (hkm : k + m ≤ 20) (w : World) (hf : Fld q.p b wd w) :
    Calls Tryz.prog 119 #[.pointer (some ⟨b, 0, none⟩), .int .i64 k, .int .i64 m] w (VSaid q b wd (k + m) k (extE q k (k + m)) w) := by
  obtain ⟨i0, hi, hz0, hz1, hz2⟩ := info_parts infoRow
  have hkd := hf.1.kind
  have hkb := hkd.bounds
  have hc0 := hf.c0
  have hbl := hf.lt
  have hn1 := hk.1
  have hn2 := hk.2
  have hm1 := hm.1
  have hm2 := hm.2
  obtain ⟨n, hn⟩ : ∃ n, k + m = n + 1 := ⟨k + m - 1, by omega⟩
  obtain ⟨k1, hk1⟩ : ∃ k1, k = k1 + 1 := ⟨k - 1, by omega⟩
  have hnI : (k : Int) + (m : Int) = (n : Int) + 1 := by omega
  have HN := Lib.hid (show fitsI (k : Int) (m : Int) from ⟨⟨by omega, by omega⟩, ⟨by omega, by omega⟩, by omega⟩)
  have hmk := make_room (n + 1) (by omega)
  rw [show (((n + 1 : Nat) : Int)) = (n : Int) + 1 by omega] at hmk
  have HS := Lib.hid (van_room (F := ivs (extE q k (k + m))) (k := k) hf (show n + 1 ≤ 100 by omega))
  have HR := Lib.hid (show ∀ i, i < n → ∀ j, i64s (fun j => fpow q.p (i : Int) (j : Nat)) j = i64s (ivs (extE q k (k + m)) i) j from fun i hi j => by
    simp only [i64s, ivs]
    rw [ext_raw (by omega), ← rawE_val (by omega)])
  have HL := Lib.hid (show ∀ j, i64s (idF k1) j = i64s (ivs (extE q k (k + m)) n) j from fun j => by
    simp only [i64s, ivs]
    rw [ext_last (by omega), show k - 1 = k1 by omega, idF_el (q := q)])
  rw [hn] at HS HR HL
  rw [hn]
  have hn19 : n ≤ 19 := by omega
  have HH := Lib.hid (highest33 k1 (by omega))
  rw [← hk1] at HH
  clear hf hk hm hn hk1 hkm
  go_enter Tryz.func119, Tryz.ntmps119
  go_wp2_with fail
  refine (jcode31 b wd _ hkd k m (by omega) _ hc0).mono ?_
  rintro e w' ⟨t, rfl, ht, rfl⟩
  obtain rfl : t = true := ht.2 HN.out
  clear ht HN hc0
  go_wp2_with fail
  go_loopw [9, 25] (fun s9 s25 wr => ExtAt q b wd k n (ivs (extE q k (n + 1))) w s9 s25 wr) (fun _ s25 _ => n - (intOf s25).toNat)
  case atStart => exact ⟨0, Nat.zero_le _, rfl, HS.out⟩
  case round =>
    clear HS
    obtain ⟨i, hin, rfl, hV⟩ := hrel
    have HV := Lib.hid hV
    clear hV
    by_cases hlt : i < n
    · go_wp2_with fail
      refine (powers32 q.p b wd k i (by omega) _ HV.out.pts.fld).mono ?_
      rintro e w2 ⟨g, rfl, hr, hgl, hf2, ht2⟩
      have hV2 := HV.out.turn hbl hf2 ht2
      have HRW := Lib.hid (hr.congr (fun j _ => HR.out i hlt j))
      have hsz := HV.out.pts.turned.size
      have hsz2 := ht2.size
      obtain ⟨hp, As, Cs, ho, hrows⟩ := hV2
      have HP := Lib.hid hp
      have HO := Lib.hid ho
      have HRS := Lib.hid hrows
      clear hr hf2 ht2 hp ho hrows HV
      go_wp2_with (at_builtin; refine wpList_append_lies _ rfl _ _ TM rfl w.heap.size TIs i0 nilS 1 24 underM' hi hz0 hz1 hz2 rfl (by decide) _ i _ rfl (HO.out.alloc _) ⟨w2.heap.size, 0, none⟩ 1 1 [.slice (some ⟨g, 0, none⟩) k k] rfl rfl (news_one rfl) (one_slice _ _ _) (by omega) (by unfold maxLen; omega) (by omega) (by simp; omega) _ rfl ?_)
      intro g' cap' w3 hown3 hgr3 hg3 _
      have HX := Lib.hid (van_new hbl HP.out HO.out HRS.out HRW.out (by omega) hown3 hgr3 hg3)
      clear hown3 hgr3 hg3 HP HO HRS HRW
      go_wp2_with fail
      exact ⟨⟨i + 1, hlt, by go_num, HX.out⟩, by simp [intOf]; omega⟩
    · obtain rfl : i = n := by omega
      go_wp2_with fail
      refine (HH.out _).mono ?_
      rintro e w2 ⟨rfl, hr, hb2⟩
      have hV2 := HV.out.turn hbl (HV.out.pts.fld.of_below hb2) (Turned.of_below hb2)
      have HRW := Lib.hid (hr.congr (fun j _ => HL.out j))
      have hsz := HV.out.pts.turned.size
      have hsz2 := hb2.size
      obtain ⟨hp, As, Cs, ho, hrows⟩ := hV2
      have HP := Lib.hid hp
      have HO := Lib.hid ho
      have HRS := Lib.hid hrows
      clear hr hb2 hp ho hrows HV HH
      go_wp2_with (at_builtin; refine wpList_append_lies _ rfl _ _ TM rfl w.heap.size TIs i0 nilS 1 24 underM' hi hz0 hz1 hz2 rfl (by decide) _ i _ rfl (HO.out.alloc _) ⟨w2.heap.size, 0, none⟩ 1 1 [.slice (some ⟨wr.heap.size, 0, none⟩) k k] rfl rfl (news_one rfl) (one_slice _ _ _) (by omega) (by unfold maxLen; omega) (by omega) (by simp; omega) _ rfl ?_)
      intro g' cap' w3 hown3 hgr3 hg3 _
      have HX := Lib.hid (Van.said (van_new hbl HP.out HO.out HRS.out HRW.out (by omega) hown3 hgr3 hg3) hbl)
      clear hown3 hgr3 hg3 HP HO HRS HRW
      go_wp2_with fail
      go_ret2
      exact HX.out

end Go.Proofs.YtgdgimknnjbieaaGreatDoor

namespace Go.Proofs.YtgdgimknnjbieaaGreatDoor
open Go.RowKit

abbrev TD : Nat := 173

theorem fdiv_el {q : FP} {a c : El q} (h : c ≠ 0) : fdiv q.p (a.val : Int) (c.val : Int) = .tuple #[.int .i64 ((a * c.inv).val : Nat), .bool true] := by
  have h1 := a.le
  have h2 := c.le
  have h0 : c.val ≠ 0 := fun e => h (El.eq_zero.2 e)
  rw [fdiv_yes (by omega) (by omega) (by omega) (by omega), Int.toNat_natCast, Int.toNat_natCast]
  rfl

section
variable {q : FP}

/-- the rows and the field, while the rows are divided -/
structure Dvd (q : FP) (b wd n m g bx : Nat) (bv : Nat → Value) (gs Cs : Nat → Nat) (X : Nat → Nat → El q) (w0 W : World) : Prop where
  fld : Fld q.p b wd W
  turned : Turned b w0 W
  bl : b < w0.heap.size
  grid : Grid n m g gs Cs X W
  glow : w0.heap.size ≤ g
  low : ∀ r, r < n → w0.heap.size ≤ gs r
  box : W.rowIs bx TD 2 bv
  bne : bx ≠ b

variable {b wd n m g bx : Nat} {bv : Nat → Value} {gs Cs : Nat → Nat} {X : Nat → Nat → El q} {w0 W W' : World}

theorem Dvd.turn (h : Dvd q b wd n m g bx bv gs Cs X w0 W) (hf : Fld q.p b wd W') (ht : Turned b W W') : Dvd q b wd n m g bx bv gs Cs X w0 W' := by
  have hb := h.bl
  have h1 := h.glow
  refine ⟨hf, h.turned.trans ht, h.bl, h.grid.of_blocks (ht.block g h.grid.out.lt (by omega)) (fun r hr => ?_), h.glow, h.low, ht.row h.box h.bne, h.bne⟩
  obtain ⟨T, t1, _⟩ := h.grid.row r hr
  have := h.low r hr
  exact ht.block _ t1.lt (by omega)
theorem Dvd.below (h : Dvd q b wd n m g bx bv gs Cs X w0 W) (hb : Below W.heap.size W W') : Dvd q b wd n m g bx bv gs Cs X w0 W' := h.turn (h.fld.of_below hb) (Turned.of_below hb)
theorem Dvd.drew (h : Dvd q b wd n m g bx bv gs Cs X w0 W) : Dvd q b wd n m g bx bv gs Cs X w0 W.drew := h.below (Below.refl _ _).drew
theorem Dvd.congr {X' : Nat → Nat → El q} (h : Dvd q b wd n m g bx bv gs Cs X w0 W) (he : ∀ r, r < n → ∀ j, j < m → X r j = X' r j) : Dvd q b wd n m g bx bv gs Cs X' w0 W :=
  ⟨h.fld, h.turned, h.bl, h.grid.congr he, h.glow, h.low, h.box, h.bne⟩
theorem Dvd.set (h : Dvd q b wd n m g bx bv gs Cs X w0 W) {r j : Nat} (hr : r < n) (v : El q) : Dvd q b wd n m g bx bv gs Cs (put X r j v) w0 (W.setCell ⟨gs r, j, none⟩ (.int .i64 (v.val : Nat))) := by
  obtain ⟨T, t1, _⟩ := h.grid.row r hr
  refine ⟨h.fld.setRow t1 (by decide) (by decide) _, h.turned.set_new (h.low r hr) _, h.bl, h.grid.set hr v, h.glow, h.low, h.box.setOther (a := ⟨gs r, j, none⟩) (fun e => ?_) _, h.bne⟩
  have h1 := h.box
  rw [show bx = gs r from e] at h1
  exact absurd (rowIs_kind t1 h1) (by decide)
theorem Dvd.told (h : Dvd q b wd n m g bx bv gs Cs X w0 W) : Mx b W (ivs X) (fun _ => m) (some ⟨g, 0, none⟩) n := by
  have hb := h.bl
  have h1 := h.glow
  refine ⟨fun r => some ⟨gs r, 0, none⟩, Cs, Rd.of_row h.grid.out (by omega) (Nat.le_refl _), fun r hr => ?_⟩
  obtain ⟨T, t1, t2⟩ := h.grid.row r hr
  have := h.low r hr
  exact (Rd.of_row t1 (by omega) (h.grid.cap r hr)).congr (fun j hj => t2 j hj)
/-- what lies in a box of the call's own stays -/
theorem box_set {by' r j : Nat} {v u : Value} (hc : W.cell? ⟨by', 0, none⟩ = some v) (hne : gs r ≠ by') : (W.setCell ⟨gs r, j, none⟩ u).cell? ⟨by', 0, none⟩ = some v :=
  (World.cell?_of_block (Below.heap_setCell _ _ _ _ (fun e => hne e.symm))).trans hc

/-- column j, of which i rows are divided -/
def cdv (X : Nat → Nat → El q) (j i r c : Nat) : El q := if c = j ∧ r < i then X r j * (X 0 j).inv else X r c
theorem cdv_step (j i r c : Nat) : put (cdv X j i) i j (X i j * (X 0 j).inv) r c = cdv X j (i + 1) r c := by
  unfold put cdv
  by_cases e : c = j
  · by_cases e2 : r = i
    · rw [if_pos ⟨e2, e⟩, if_pos ⟨e, by omega⟩, e2]
    · rw [if_neg (fun h => e2 h.1)]
      by_cases e3 : r < i
      · rw [if_pos ⟨e, e3⟩, if_pos ⟨e, by omega⟩]
      · rw [if_neg (by omega), if_neg (by omega)]
  · rw [if_neg (fun h => e h.2), if_neg (fun h => e h.1), if_neg (fun h => e h.1)]
theorem cdv_row {j i c : Nat} : cdv X j i i c = X i c := by unfold cdv; rw [if_neg (by omega)]
/-- j columns are divided -/
def cup (X : Nat → Nat → El q) (j r c : Nat) : El q := if c < j then colE X r c else X r c
theorem cup_step {j n : Nat} (r c : Nat) (hr : r < n) : cdv (cup X j) j n r c = cup X (j + 1) r c := by
  unfold cdv cup colE
  by_cases e : c = j
  · rw [if_pos ⟨e, hr⟩, if_neg (by omega), if_neg (by omega), if_pos (by omega), e]
  · rw [if_neg (fun h => e h.1)]
    by_cases e3 : c < j
    · rw [if_pos e3, if_pos (by omega)]
    · rw [if_neg e3, if_neg (by omega)]
/-- row i, of which j numbers are divided -/
def rdv (X : Nat → Nat → El q) (i j r c : Nat) : El q := if r = i ∧ c < j then X i c * (X i 0).inv else X r c
theorem rdv_step (j i r c : Nat) : put (rdv X i j) i j (X i j * (X i 0).inv) r c = rdv X i (j + 1) r c := by
  unfold put rdv
  by_cases e : r = i
  · by_cases e2 : c = j
    · rw [if_pos ⟨e, e2⟩, if_pos ⟨e, by omega⟩, e2]
    · rw [if_neg (fun h => e2 h.2)]
      by_cases e3 : c < j
      · rw [if_pos ⟨e, e3⟩, if_pos ⟨e, by omega⟩]
      · rw [if_neg (by omega), if_neg (by omega)]
  · rw [if_neg (fun h => e h.1), if_neg (fun h => e h.1), if_neg (fun h => e h.1)]
theorem rdv_row {j i : Nat} : rdv X i j i j = X i j := by unfold rdv; rw [if_neg (by omega)]
/-- the rows from 1 to below i are divided -/
def rup (X : Nat → Nat → El q) (i r c : Nat) : El q := if 1 ≤ r ∧ r < i then rowE X r c else X r c
theorem rup_step {i m : Nat} (r c : Nat) (hi : 1 ≤ i) (hc : c < m) : rdv (rup X i) i m r c = rup X (i + 1) r c := by
  unfold rdv rup rowE
  by_cases e : r = i
  · rw [if_pos ⟨e, hc⟩, if_neg (by omega), if_neg (by omega), if_pos (by omega), e]
  · rw [if_neg (fun h => e h.1)]
    by_cases e3 : 1 ≤ r ∧ r < i
    · rw [if_pos e3, if_pos (by omega)]
    · rw [if_neg e3, if_neg (by omega)]
end

/-- the loops of divideColumn and divideRow: what lies in box by' is the field -/
def ColAt (q : FP) (b wd n m g bx : Nat) (bv : Nat → Value) (gs Cs : Nat → Nat) (X : Nat → Nat → El q) (j by' : Nat) (w0 : World) (s17 : Value) (W : World) : Prop :=
  ∃ i : Nat, i ≤ n ∧ s17 = .int .i64 i ∧ Dvd q b wd n m g bx bv gs Cs (cdv X j i) w0 W ∧ W.cell? ⟨by', 0, none⟩ = some (.pointer (some ⟨b, 0, none⟩))
def RwAt (q : FP) (b wd n m g bx : Nat) (bv : Nat → Value) (gs Cs : Nat → Nat) (X : Nat → Nat → El q) (i by' : Nat) (w0 : World) (s18 : Value) (W : World) : Prop :=
  ∃ j : Nat, j ≤ m ∧ s18 = .int .i64 j ∧ Dvd q b wd n m g bx bv gs Cs (rdv X i j) w0 W ∧ W.cell? ⟨by', 0, none⟩ = some (.pointer (some ⟨b, 0, none⟩))

set_option maxRecDepth 100000 in
set_option maxHeartbeats 2000000 in
theorem dcol22 (q : FP) (b wd n m g cn bx : Nat) (bv : Nat → Value) (gs Cs : Nat → Nat) (X : Nat → Nat → El q) (j : Nat) (w0 w : World) (hn0 : 0 < n) (hj : j < m) (hn : n ≤ 100) (h0 : X 0 j ≠ 0) (h : Dvd q b wd n m g bx bv gs Cs X w0 w) :
    Calls Tryz.prog 122 #[.agg #[.pointer (some ⟨b, 0, none⟩), .slice (some ⟨g, 0, none⟩) n cn], .int .i64 j] w
      fun e w' => e = .returned (.tuple #[]) ∧ Dvd q b wd n m g bx bv gs Cs (cdv X j n) w0 w' := by
  have hlow : ∀ r, r < n → gs r ≠ w.heap.size := fun r hr => by
    obtain ⟨T, t1, _⟩ := h.grid.row r hr
    have := t1.lt
    omega
  have HLOW := Lib.hid hlow
  have hbl := h.fld.lt
  have hbw := below_alloc w (.cells #[.pointer (some ⟨b, 0, none⟩), .slice (some ⟨g, 0, none⟩) n cn] TD)
  have hb0 : (w.alloc (.cells #[.pointer (some ⟨b, 0, none⟩), .slice (some ⟨g, 0, none⟩) n cn] TD)).cell? ⟨w.heap.size, 0, none⟩ = some (.pointer (some ⟨b, 0, none⟩)) := by simp
  have hb1 : (w.alloc (.cells #[.pointer (some ⟨b, 0, none⟩), .slice (some ⟨g, 0, none⟩) n cn] TD)).cell? ⟨w.heap.size, 1, none⟩ = some (.slice (some ⟨g, 0, none⟩) n cn) := by simp
  obtain ⟨w1, hw1⟩ : ∃ w1, w.alloc (.cells #[.pointer (some ⟨b, 0, none⟩), .slice (some ⟨g, 0, none⟩) n cn] TD) = w1 := ⟨_, rfl⟩
  rw [hw1] at hbw hb0 hb1
  have h1 := h.below hbw
  have HX := Lib.hid h1
  have c1 := h1.grid.out.cell (i := 0) hn0
  have c2 := (h1.grid.cell hn0 hj).1
  have HD := Lib.hid (fun i => fdiv_el (a := X i j) h0)
  have HB0 := Lib.hid hb0
  clear h h1 hbw hlow
  go_enter Tryz.func122, Tryz.ntmps122
  go_wp2_with fail
  go_loopw [17] (fun s17 wr => ColAt q b wd n m g bx bv gs Cs X j w.heap.size w0 s17 wr) (fun s17 _ => n - (intOf s17).toNat)
  case atStart => exact ⟨0, Nat.zero_le _, rfl, HX.out.congr (fun r _ c _ => by unfold cdv; rw [if_neg (by omega)]), HB0.out⟩
  case round =>
    clear HX HB0 c1 c2 hb0 hb1 hw1
    obtain ⟨i, hi, rfl, hR, d3⟩ := hrel
    have HR := Lib.hid hR
    have HB := Lib.hid d3
    by_cases hlt : i < n
    · have d1 := hR.grid.out.cell (i := i) hlt
      obtain ⟨d2, f2⟩ := hR.grid.cell hlt hj
      rw [cdv_row] at d2
      have KEEP := Lib.hid (show ∀ w', Turned b wr w' → Fld q.p b wd w' → w'.cell? ⟨w.heap.size, 0, none⟩ = some (.pointer (some ⟨b, 0, none⟩)) ∧ w'.cell? ⟨gs i, j, none⟩ = some (.int .i64 ((X i j).val : Nat)) ∧ w'.frozen? ⟨gs i, j, none⟩ = false from fun w' ht hf => by
        obtain ⟨e1, e2⟩ := (HR.out.turn hf ht).grid.cell hlt hj
        rw [cdv_row] at e1
        exact ⟨(ht.cell (World.block_lt_of_cell? _ _ HB.out) (show w.heap.size ≠ b by omega)).trans HB.out, e1, e2⟩)
      clear hR
      go_wp2_with fail
      go_region_with (go_at_call 161; refine (fdiv16 q.p b wd _ _ wr.drew HR.out.drew.fld).mono ?_; rintro e w5 ⟨rfl, hf2, ht2⟩; rw [HD.out]; obtain ⟨e1, e2, e3⟩ := KEEP.out _ ((Turned.refl b wr).drew.trans ht2) hf2)
      all_goals
        have H5 := Lib.hid (Dvd.congr ((HR.out.drew.turn hf2 ht2).set (j := j) hlt (X i j * (X 0 j).inv)) (fun r _ c _ => cdv_step j i r c))
        have B5 := Lib.hid (box_set (gs := gs) (r := i) (j := j) (u := .int .i64 ((X i j * (X 0 j).inv).val : Nat)) e1 (HLOW.out i hlt))
        clear d1 d2 f2 d3 KEEP hf2 ht2 e1 e2 e3 HR HB
        go_wp2_with fail
        exact ⟨⟨i + 1, hlt, by go_num, H5.out, B5.out⟩, by simp [intOf]; omega⟩
    · obtain rfl : i = n := by omega
      clear hR
      go_wp2_with fail
      go_end0
      exact ⟨rfl, HR.out⟩

set_option maxRecDepth 100000 in
set_option maxHeartbeats 2000000 in
theorem drow23 (q : FP) (b wd n m g cn bx : Nat) (bv : Nat → Value) (gs Cs : Nat → Nat) (X : Nat → Nat → El q) (i : Nat) (w0 w : World) (hm0 : 0 < m) (hi : i < n) (hm : m ≤ 100) (h0 : X i 0 ≠ 0) (h : Dvd q b wd n m g bx bv gs Cs X w0 w) :
    Calls Tryz.prog 123 #[.agg #[.pointer (some ⟨b, 0, none⟩), .slice (some ⟨g, 0, none⟩) n cn], .int .i64 i] w
      fun e w' => e = .returned (.tuple #[]) ∧ Dvd q b wd n m g bx bv gs Cs (rdv X i m) w0 w' := by
  have hlow : gs i ≠ w.heap.size := by
    obtain ⟨T, t1, _⟩ := h.grid.row i hi
    have := t1.lt
    omega
  have HLOW := Lib.hid hlow
  have hbl := h.fld.lt
  have hbw := below_alloc w (.cells #[.pointer (some ⟨b, 0, none⟩), .slice (some ⟨g, 0, none⟩) n cn] TD)
  have hb0 : (w.alloc (.cells #[.pointer (some ⟨b, 0, none⟩), .slice (some ⟨g, 0, none⟩) n cn] TD)).cell? ⟨w.heap.size, 0, none⟩ = some (.pointer (some ⟨b, 0, none⟩)) := by simp
  have hb1 : (w.alloc (.cells #[.pointer (some ⟨b, 0, none⟩), .slice (some ⟨g, 0, none⟩) n cn] TD)).cell? ⟨w.heap.size, 1, none⟩ = some (.slice (some ⟨g, 0, none⟩) n cn) := by simp
  obtain ⟨w1, hw1⟩ : ∃ w1, w.alloc (.cells #[.pointer (some ⟨b, 0, none⟩), .slice (some ⟨g, 0, none⟩) n cn] TD) = w1 := ⟨_, rfl⟩
  rw [hw1] at hbw hb0 hb1
  have h1 := h.below hbw
  have HX := Lib.hid h1
  have c1 := h1.grid.out.cell (i := i) hi
  have c2 := (h1.grid.cell hi hm0).1
  have HD := Lib.hid (fun j => fdiv_el (a := X i j) h0)
  have HB0 := Lib.hid hb0
  clear h h1 hbw hlow
  go_enter Tryz.func123, Tryz.ntmps123
  go_wp2_with fail
  go_loopw [18] (fun s18 wr => RwAt q b wd n m g bx bv gs Cs X i w.heap.size w0 s18 wr) (fun s18 _ => m - (intOf s18).toNat)
  case atStart => exact ⟨0, Nat.zero_le _, rfl, HX.out.congr (fun r _ c _ => by unfold rdv; rw [if_neg (by omega)]), HB0.out⟩
  case round =>
    clear HX HB0 c1 c2 hb0 hb1 hw1
    obtain ⟨j, hj, rfl, hR, d3⟩ := hrel
    have HR := Lib.hid hR
    have HB := Lib.hid d3
    by_cases hlt : j < m
    · obtain ⟨d2, f2⟩ := hR.grid.cell hi hlt
      rw [rdv_row] at d2
      clear hR
      go_wp2_with fail
      refine (fdiv16 q.p b wd _ _ _ HR.out.fld).mono ?_
      rintro e w5 ⟨rfl, hf2, ht2⟩
      rw [HD.out]
      obtain ⟨e2, e3⟩ := (HR.out.turn hf2 ht2).grid.cell hi hlt
      have e1 := (ht2.cell (World.block_lt_of_cell? _ _ HB.out) (show w.heap.size ≠ b by omega)).trans HB.out
      have H5 := Lib.hid (Dvd.congr ((HR.out.turn hf2 ht2).set (j := j) hi (X i j * (X i 0).inv)) (fun r _ c _ => rdv_step j i r c))
      have B5 := Lib.hid (box_set (gs := gs) (r := i) (j := j) (u := .int .i64 ((X i j * (X i 0).inv).val : Nat)) e1 HLOW.out)
      clear d2 f2 d3 hf2 ht2 e1 HR HB
      go_wp2_with fail
      exact ⟨⟨j + 1, hlt, by go_num, H5.out, B5.out⟩, by simp [intOf]; omega⟩
    · obtain rfl : j = m := by omega
      clear hR
      go_wp2_with fail
      go_end0
      exact ⟨rfl, HR.out⟩

/-- in each's loop, of either step -/
def EaC (q : FP) (b wd n m g bx : Nat) (bv : Nat → Value) (gs Cs : Nat → Nat) (X : Nat → Nat → El q) (w0 : World) (s6 : Value) (W : World) : Prop := ∃ j : Nat, j ≤ m ∧ s6 = .int .i64 j ∧ Dvd q b wd n m g bx bv gs Cs (cup X j) w0 W
def EaR (q : FP) (b wd n m g bx : Nat) (bv : Nat → Value) (gs Cs : Nat → Nat) (X : Nat → Nat → El q) (w0 : World) (s6 : Value) (W : World) : Prop := ∃ i : Nat, 1 ≤ i ∧ i ≤ n ∧ s6 = .int .i64 i ∧ Dvd q b wd n m g bx bv gs Cs (rup X i) w0 W

set_option maxRecDepth 100000 in
set_option maxHeartbeats 2000000 in
theorem each_col (q : FP) (b wd n m g cn bx : Nat) (bv : Nat → Value) (gs Cs : Nat → Nat) (X : Nat → Nat → El q) (w0 w : World) (hn0 : 0 < n) (hn : n ≤ 100) (hm : m ≤ 100) (h0 : ∀ j, j < m → X 0 j ≠ 0) (h : Dvd q b wd n m g bx bv gs Cs X w0 w) :
    Calls Tryz.prog 121 #[.int .i64 0, .int .i64 m, .func (.func 122) #[.agg #[.pointer (some ⟨b, 0, none⟩), .slice (some ⟨g, 0, none⟩) n cn]] #[]] w
      fun e w' => e = .returned (.tuple #[]) ∧ Dvd q b wd n m g bx bv gs Cs (colE X) w0 w' := by
  have HX := Lib.hid h
  have H0 := Lib.hid h0
  clear h h0
  go_enter Tryz.func121, Tryz.ntmps121
  go_wp2_with fail
  go_loopw [6] (fun s6 wr => EaC q b wd n m g bx bv gs Cs X w0 s6 wr) (fun s6 _ => m - (intOf s6).toNat)
  case atStart => exact ⟨0, Nat.zero_le _, rfl, HX.out.congr (fun r _ c _ => by unfold cup; rw [if_neg (by omega)])⟩
  case round =>
    clear HX
    obtain ⟨j, hj, rfl, hR⟩ := hrel
    have HR := Lib.hid hR
    clear hR
    by_cases hlt : j < m
    · have HZ := Lib.hid (show cup X j 0 j ≠ 0 from by unfold cup; rw [if_neg (by omega)]; exact H0.out j hlt)
      go_wp2_with fail
      refine (dcol22 q b wd n m g cn bx bv gs Cs (cup X j) j w0 _ hn0 hlt hn HZ.out HR.out).mono ?_
      rintro e w2 ⟨rfl, h2⟩
      have H2 := Lib.hid (h2.congr (fun r hr c _ => cup_step r c hr))
      clear h2 HR HZ
      go_wp2_with fail
      exact ⟨⟨j + 1, hlt, by go_num, H2.out⟩, by simp [intOf]; omega⟩
    · obtain rfl : j = m := by omega
      have HE := Lib.hid (HR.out.congr (X' := colE X) (fun r _ c hc => by unfold cup; rw [if_pos hc]))
      go_wp2_with fail
      go_end0
      exact ⟨rfl, HE.out⟩

set_option maxRecDepth 100000 in
set_option maxHeartbeats 2000000 in
theorem each_row (q : FP) (b wd n m g cn bx : Nat) (bv : Nat → Value) (gs Cs : Nat → Nat) (X : Nat → Nat → El q) (w0 w : World) (hn0 : 0 < n) (hm0 : 0 < m) (hn : n ≤ 100) (hm : m ≤ 100) (h0 : ∀ i, i < n → X i 0 ≠ 0) (h1 : ∀ j, j < m → rowE X 0 j = X 0 j) (h : Dvd q b wd n m g bx bv gs Cs X w0 w) :
    Calls Tryz.prog 121 #[.int .i64 1, .int .i64 n, .func (.func 123) #[.agg #[.pointer (some ⟨b, 0, none⟩), .slice (some ⟨g, 0, none⟩) n cn]] #[]] w
      fun e w' => e = .returned (.tuple #[]) ∧ Dvd q b wd n m g bx bv gs Cs (rowE X) w0 w' := by
  have HX := Lib.hid h
  have H0 := Lib.hid h0
  have H1 := Lib.hid h1
  clear h h0 h1
  go_enter Tryz.func121, Tryz.ntmps121
  go_wp2_with fail
  go_loopw [6] (fun s6 wr => EaR q b wd n m g bx bv gs Cs X w0 s6 wr) (fun s6 _ => n - (intOf s6).toNat)
  case atStart => exact ⟨1, Nat.le_refl _, hn0, rfl, HX.out.congr (fun r _ c _ => by unfold rup; rw [if_neg (by omega)])⟩
  case round =>
    clear HX
    obtain ⟨i, hi1, hi, rfl, hR⟩ := hrel
    have HR := Lib.hid hR
    clear hR
    by_cases hlt : i < n
    · have HZ := Lib.hid (show rup X i i 0 ≠ 0 from by unfold rup; rw [if_neg (by omega)]; exact H0.out i hlt)
      go_wp2_with fail
      refine (drow23 q b wd n m g cn bx bv gs Cs (rup X i) i w0 _ hm0 hlt hm HZ.out HR.out).mono ?_
      rintro e w2 ⟨rfl, h2⟩
      have H2 := Lib.hid (h2.congr (fun r hr c hc => rup_step r c hi1 hc))
      clear h2 HR HZ
      go_wp2_with fail
      exact ⟨⟨i + 1, by omega, hlt, by go_num, H2.out⟩, by simp [intOf]; omega⟩
    · obtain rfl : i = n := by omega
      have HE := Lib.hid (HR.out.congr (X' := rowE X) (fun r hr c hc => by
        unfold rup
        by_cases e : 1 ≤ r
        · rw [if_pos ⟨e, hr⟩]
        · obtain rfl : r = 0 := by omega
          rw [if_neg (by omega), H1.out c hc]))
      go_wp2_with fail
      go_end0
      exact ⟨rfl, HE.out⟩
end Go.Proofs.YtgdgimknnjbieaaGreatDoor

namespace Go.Proofs.YtgdgimknnjbieaaGreatDoor
open Go.RowKit

theorem elemM : Tryz.prog.elem TM = TIs := by kernel_rfl
theorem sizeIs (w : World) : (sizeOf TIs).run Tryz.prog w = .ok 1 w := by
  obtain ⟨i0, hi, _, hz1, _⟩ := info_parts infoRow
  simp [sizeOf, typeInfo, hi, hz1]
theorem run_fromM (a : Option Addr) (len cap k : Nat) (hk : k ≤ len) (w : World) : (Instr.slice TM (.slice a len cap) (some (.int .i64 k)) none none).run Tryz.prog w = .ok (.slice (if cap = k then a else a.map (·.add k)) (len - k) (cap - k)) w := by
  have hu : Tryz.prog.underlying TM = some (.slice (Tryz.prog.elem TM)) := by rw [elemM]; exact underM'
  rw [run_slice_l w TM a len cap hu .i64 k (by omega) (by omega), elemM, sizeIs]
  simp [Result.andThen, sliced]
theorem run_atM (a : Option Addr) (len cap k : Nat) (hk : k ≤ len) (w : World) : (Instr.sliceAt TM (.slice a len cap) (some (.int .i64 k)) none none).run Tryz.prog w = .ok (.slice (if cap = k then a else a.map (·.add k)) (len - k) (cap - k)) w := by
  have hu : Tryz.prog.underlying TM = some (.slice (Tryz.prog.elem TM)) := by rw [elemM]; exact underM'
  rw [run_sliceAt_slice w TM _ _ _ _ hu, run_fromM a len cap k hk]
theorem Mx.cut {b : Nat} {w : World} {F : Nat → Nat → Int} {Ls : Nat → Nat} {A : Option Addr} {n k cap : Nat} (h : Mx b w F Ls A n) (hk : k ≤ n) (hc : n ≤ cap) :
    Mx b w (fun r => F (k + r)) (fun r => Ls (k + r)) (if cap = k then A else A.map (·.add k)) (n - k) := by
  obtain ⟨As, Cs, h1, h2⟩ := h
  exact ⟨fun r => As (k + r), fun r => Cs (k + r), h1.cut hk hc, fun r hr => h2 (k + r) (by omega)⟩

/-- the rows that Mul tells may be written -/
theorem mid_grid {q : FP} {b wd n k m : Nat} {A B : Option Addr} {ca cb : Nat} {X Y : Nat → Nat → El q} {w W : World} (h : Mid q.p b wd n k A B ca cb (ivs X) (ivs Y) w (fun _ => m) W) (hm : 0 < m) :
    ∃ gs Cs, Fld q.p b wd W ∧ Turned b w W ∧ Grid n m (w.heap.size + 2) gs Cs (mm k X Y) W ∧ ∀ r, r < n → w.heap.size ≤ gs r := by
  obtain ⟨V, h⟩ := h
  have hv : ∀ r, ∃ g c : Nat, r < n → V r = .slice (some ⟨g, 0, none⟩) m c ∧ w.heap.size + 5 ≤ g ∧ m ≤ c ∧ ∃ T, W.rowIs g TI c T ∧ ∀ j, j < m → T j = .int .i64 ((mm k X Y r j).val : Nat) := fun r => by
    by_cases hr : r < n
    · obtain ⟨g, c, T, e1, e2, e3, e4, e5⟩ := own_row (h.own r hr) hm
      refine ⟨g, c, fun _ => ⟨e1, e2, e3, T, e4, fun j hj => ?_⟩⟩
      rw [e5 j (i64s (mulF q.p (ivs X) (ivs Y) k r) j) (by rw [List.getElem?_map, List.getElem?_range hj]; rfl), mulF_ivs]
    · exact ⟨0, 0, fun h => absurd h hr⟩
  obtain ⟨gs, hgs⟩ : ∃ gs : Nat → Nat, ∀ r, ∃ c : Nat, r < n → V r = .slice (some ⟨gs r, 0, none⟩) m c ∧ w.heap.size + 5 ≤ gs r ∧ m ≤ c ∧ ∃ T, W.rowIs (gs r) TI c T ∧ ∀ j, j < m → T j = .int .i64 ((mm k X Y r j).val : Nat) := ⟨fun r => Classical.choose (hv r), fun r => Classical.choose_spec (hv r)⟩
  obtain ⟨Cs, hCs⟩ : ∃ Cs : Nat → Nat, ∀ r, r < n → V r = .slice (some ⟨gs r, 0, none⟩) m (Cs r) ∧ w.heap.size + 5 ≤ gs r ∧ m ≤ Cs r ∧ ∃ T, W.rowIs (gs r) TI (Cs r) T ∧ ∀ j, j < m → T j = .int .i64 ((mm k X Y r j).val : Nat) := ⟨fun r => Classical.choose (hgs r), fun r => Classical.choose_spec (hgs r)⟩
  refine ⟨gs, Cs, h.fld, h.turned, ⟨h.row.congr (fun r hr => (hCs r hr).1), fun r hr => (hCs r hr).2.2.2, fun r s hr hs e => ?_, fun r hr => (hCs r hr).2.2.1⟩, fun r hr => by have := (hCs r hr).2.1; omega⟩
  by_cases hne : r = s
  · exact hne
  · rcases h.apart r s hr hs hne with h1 | h1
    · rw [(hCs r hr).1] at h1
      cases h1
    · rw [(hCs r hr).1, (hCs s hs).1] at h1
      exact absurd (by simp only [Value.ownBlock]; rw [e]) h1

set_option maxRecDepth 100000 in
set_option maxHeartbeats 4000000 in
theorem jpar_yes (q : FP) (b wd k m : Nat) (hk : side k) (hm : side m) (hkm : k + m ≤ 20) (w : World) (hf : Fld q.p b wd w) :
    Calls Tryz.prog 78 #[.pointer (some ⟨b, 0, none⟩), .int .i64 k, .int .i64 m] w (VSaid q b wd m k (parE q k (k + m)) w) := by
  have hkd := hf.1.kind
  have hkb := hkd.bounds
  have hn1 := hk.1
  have hn2 := hk.2
  have hm1 := hm.1
  have hm2 := hm.2
  have HR := Lib.hid (jext_yes q b wd k m hk hm hkm w hf)
  have HG := Lib.hid (show ∀ i, i < m → ∀ j, j < k → jG q k (k + m) i j ≠ 0 from fun i hi j hj => sysJ_ne (by omega) (by omega) (by omega) hj)
  have HFU := Lib.hid (ext_full (q := q) (k := k) (N := k + m) (by omega) (by omega))
  have HSD := Lib.hid hk
  have HSM := Lib.hid hm
  clear hf hk hm
  go_enter Tryz.func78, Tryz.ntmps78
  go_wp2_with fail
  refine HR.out.mono ?_
  rintro e w2 ⟨A, c, rfl, hc, hx, hf2, ht2⟩
  have HX := Lib.hid hx
  have HT2 := Lib.hid ht2
  have hkc : k ≤ c := by omega
  have HI := Lib.hid (inverse12 q b wd k (fun _ => k) (ivs (extE q k (k + m))) A c w2 hf2 (hx.take (by omega)))
  obtain ⟨N, hN⟩ : ∃ N, k + m = N := ⟨_, rfl⟩
  have HN := Lib.hid hN
  have hkN : k ≤ N := by omega
  have hNc : N ≤ c := by omega
  rw [hN] at HX HI HFU HG ⊢
  clear hx hf2 ht2 HR hc hN
  go_wp2_with fail
  refine HI.out.mono ?_
  rintro e w3 ⟨s, t, A3, c3, rfl, hs, ht, _, hx3, hf3, ht3⟩
  obtain rfl : s = true := hs.2 ⟨ivs_may _ HSD.out HSD.out, rfl⟩
  rw [elM_ivs] at ht hx3
  obtain rfl : t = true := (ht rfl).2 HFU.out
  rw [show err2 true true = 0 from rfl]
  simp only [Bool.and_self, cond] at hx3 ⊢
  have hfr := run_fromM A N c k hkN
  have hat := run_atM A N c k hkN
  have HC := Lib.hid ((HX.out.turned ht3).cut (k := k) (cap := c) hkN hNc)
  obtain ⟨A', hA'⟩ : ∃ A', (if c = k then A else A.map (·.add k)) = A' := ⟨_, rfl⟩
  rw [hA'] at hfr HC
  simp only [hA'] at hat
  have hNk : N - k = m := by have := HN.out; omega
  rw [hNk] at hfr HC
  simp only [hNk] at hat
  have HF3 := Lib.hid hf3
  have HT3 := Lib.hid (HT2.out.trans ht3)
  have HMU := Lib.hid (mmul_mid q.p b wd (ivs (fun r j => extE q k N (k + r) j)) (ivs (ivm k (extE q k N))) A' A3 m k k (c - k) c3 w3 hf3 HC.out hx3 (ivs_may _ HSM.out HSD.out) (ivs_may _ HSD.out HSD.out))
  have hbl := hf3.lt
  clear hs ht hx3 hf3 ht3 HI HT2 HX HC hA' hNk hkc
  go_wp2_with fail
  refine HMU.out.mono ?_
  rintro e w4 ⟨rfl, hM⟩
  obtain ⟨gs, Cs, hf4, ht4, hG4, hl4⟩ := mid_grid hM (show 0 < k by omega)
  have hG4 : Grid m k (w3.heap.size + 2) gs Cs (jG q k N) w4 := hG4
  have hgl : w3.heap.size ≤ w3.heap.size + 2 := by omega
  have HP := Lib.hid (show ∀ w', Turned b w3 w' → Turned b w w' from fun w' h => HT3.out.trans h)
  obtain ⟨g, hg⟩ : ∃ g, w3.heap.size + 2 = g := ⟨_, rfl⟩
  rw [hg] at hG4 hgl ⊢
  have hb5 := below_alloc w4 (.cells #[.pointer (some ⟨b, 0, none⟩), .slice (some ⟨g, 0, none⟩) m m] TD)
  have hr5 := World.rowIs_alloc w4 #[.pointer (some ⟨b, 0, none⟩), .slice (some ⟨g, 0, none⟩) m m] TD (fun x => if x = 0 then .pointer (some ⟨b, 0, none⟩) else .slice (some ⟨g, 0, none⟩) m m) (fun x hx => by
    simp at hx
    match x, hx with
    | 0, _ => rfl
    | 1, _ => rfl)
  obtain ⟨w5, hw5⟩ : ∃ w5, w4.alloc (.cells #[.pointer (some ⟨b, 0, none⟩), .slice (some ⟨g, 0, none⟩) m m] TD) = w5 := ⟨_, rfl⟩
  rw [hw5] at hb5 hr5
  have hD5 : Dvd q b wd m k g w4.heap.size (fun x => if x = 0 then .pointer (some ⟨b, 0, none⟩) else .slice (some ⟨g, 0, none⟩) m m) gs Cs (jG q k N) w3 w5 :=
    ⟨hf4.of_below hb5, ht4.trans (Turned.of_below hb5), hbl, hG4.of_blocks (hb5.block _ hG4.out.lt) (fun r hr => by
      obtain ⟨T, t1, _⟩ := hG4.row r hr
      exact hb5.block _ t1.lt), hgl, hl4, hr5, by have := hf4.lt; omega⟩
  have HD5 := Lib.hid hD5
  have b0 := hr5.cell (i := 0) (by simp)
  have b1 := hr5.cell (i := 1) (by simp)
  rw [if_pos rfl] at b0
  rw [if_neg (by omega)] at b1
  have hmf : ∀ (fn : Fn) (first cap : Array Value) (w : World), (Instr.makeFunc fn first cap).run Tryz.prog w = .ok (.func fn first cap) w := fun _ _ _ _ => rfl
  clear hM hf4 ht4 hG4 hl4 HMU hfr hat hr5 hb5 hD5 hg hgl HT3 HF3
  go_wp2_with fail
  refine (each_col q b wd m k g m w4.heap.size _ gs Cs (jG q k N) w3 _ (by omega) (by omega) (by omega) (fun j hj => HG.out 0 (by omega) j hj) HD5.out).mono ?_
  rintro e w6 ⟨rfl, h6⟩
  have HD6 := Lib.hid h6
  have d0 := h6.box.cell (i := 0) (by omega)
  have d1 := h6.box.cell (i := 1) (by omega)
  rw [if_pos rfl] at d0
  rw [if_neg (by omega)] at d1
  clear h6 b0 b1 HD5 hw5
  go_wp2_with fail
  refine (each_row q b wd m k g m w4.heap.size _ gs Cs (colE (jG q k N)) w3 _ (by omega) (by omega) (by omega) (by omega) (fun i hi => col_ne (HG.out i hi 0 (by omega)) (HG.out 0 (by omega) 0 (by omega))) (fun j hj => row_same (HG.out 0 (by omega) 0 (by omega))) HD6.out).mono ?_
  rintro e w7 ⟨rfl, h7⟩
  have HE := Lib.hid (show VSaid q b wd m k (parE q k (k + m)) w (.returned (.tuple #[.slice (some ⟨g, 0, none⟩) m m, .int .i64 0])) w7 from ⟨_, _, rfl, Nat.le_refl _, by rw [HN.out]; exact h7.told, h7.fld, HP.out _ h7.turned⟩)
  clear h7 HD6 d0 d1
  go_wp2_with fail
  go_ret2
  exact HE.out

end Go.Proofs.YtgdgimknnjbieaaGreatDoor
