/- Rows that are reduced where they stand, as they lie in memory; the contract of the closure that clears a column. The contract of the closure that clears a column. The contract of package invert's reduce. -/
import Derived.Test.YtgdgimknnjbieaaGreatDoorGxl
import Derived.Test.YtgdgimknnjbieaaGreatDoorGxi
import Derived.Deep.RegionHeld3
import Derived.WalkMore

namespace Go.Proofs.YtgdgimknnjbieaaGreatDoor
open Go.RowKit

abbrev TPF : Nat := 60

section
variable {q : FP}
theorem fmul_el (a c : El q) : fmul q.p (a.val : Int) (c.val : Int) = ((a * c).val : Int) := by
  have h1 := a.le
  have h2 := c.le
  rw [fmul_in (by omega) (by omega) (by omega) (by omega), Int.toNat_natCast, Int.toNat_natCast]
  rfl
theorem finv_el {a : El q} (h : a ≠ 0) : finv q.p (a.val : Int) = .tuple #[.int .i64 (a.inv.val : Nat), .bool true] := by
  have h1 := a.le
  have h0 : a.val ≠ 0 := fun e => h (El.eq_zero.2 e)
  rw [finv_yes (by omega) (by omega), Int.toNat_natCast]
  rfl
theorem El.small (a : El q) {wd : Nat} (hg : Good q.p wd) : a.val < 65536 := by
  have := a.le
  have := hg.kind.bounds
  omega

/-- n rows of m numbers, each in a block of its own, that may be written -/
structure Grid (n m g : Nat) (gs Cs : Nat → Nat) (X : Nat → Nat → El q) (W : World) : Prop where
  out : W.rowIs g TIs n (fun r => .slice (some ⟨gs r, 0, none⟩) m (Cs r))
  row : ∀ r, r < n → ∃ T, W.rowIs (gs r) TI (Cs r) T ∧ ∀ j, j < m → T j = .int .i64 ((X r j).val : Nat)
  inj : ∀ r s, r < n → s < n → gs r = gs s → r = s
  cap : ∀ r, r < n → m ≤ Cs r

variable {n m g : Nat} {gs Cs : Nat → Nat} {X : Nat → Nat → El q} {W W' : World}
theorem Grid.of_blocks (h : Grid n m g gs Cs X W) (h1 : W'.heap[g]? = W.heap[g]?) (h2 : ∀ r, r < n → W'.heap[gs r]? = W.heap[gs r]?) : Grid n m g gs Cs X W' :=
  ⟨h.out.of_block h1, fun r hr => by
    obtain ⟨T, t1, t2⟩ := h.row r hr
    exact ⟨T, t1.of_block (h2 r hr), t2⟩, h.inj, h.cap⟩
theorem Grid.congr {X' : Nat → Nat → El q} (h : Grid n m g gs Cs X W) (he : ∀ r, r < n → ∀ j, j < m → X r j = X' r j) : Grid n m g gs Cs X' W :=
  ⟨h.out, fun r hr => by
    obtain ⟨T, t1, t2⟩ := h.row r hr
    exact ⟨T, t1, fun j hj => by rw [t2 j hj, he r hr j hj]⟩, h.inj, h.cap⟩
theorem Grid.cell (h : Grid n m g gs Cs X W) {r j : Nat} (hr : r < n) (hj : j < m) : W.cell? ⟨gs r, j, none⟩ = some (.int .i64 ((X r j).val : Nat)) ∧ W.frozen? ⟨gs r, j, none⟩ = false := by
  obtain ⟨T, t1, t2⟩ := h.row r hr
  have := h.cap r hr
  exact ⟨by rw [t1.cell (i := j) (by omega), t2 j hj], t1.frozen j⟩
theorem Grid.apart (h : Grid n m g gs Cs X W) {r : Nat} (hr : r < n) : gs r ≠ g := fun e => by
  obtain ⟨T, t1, _⟩ := h.row r hr
  rw [e] at t1
  exact absurd (rowIs_kind t1 h.out) (by decide)
/-- a number is written -/
def put (X : Nat → Nat → El q) (r k : Nat) (v : El q) (r' k' : Nat) : El q := if r' = r ∧ k' = k then v else X r' k'
theorem Grid.set (h : Grid n m g gs Cs X W) {r j : Nat} (hr : r < n) (v : El q) : Grid n m g gs Cs (put X r j v) (W.setCell ⟨gs r, j, none⟩ (.int .i64 (v.val : Nat))) := by
  refine ⟨h.out.setOther (a := ⟨gs r, j, none⟩) (h.apart hr).symm _, fun s hs => ?_, h.inj, h.cap⟩
  obtain ⟨T, t1, t2⟩ := h.row s hs
  by_cases e : s = r
  · subst e
    refine ⟨_, t1.set j _, fun i hi => ?_⟩
    by_cases e2 : i = j
    · rw [if_pos e2, put, if_pos ⟨rfl, e2⟩]
    · rw [if_neg e2, put, if_neg (fun h => e2 h.2)]
      exact t2 i hi
  · refine ⟨T, t1.setOther (a := ⟨gs r, j, none⟩) (fun e' => e (h.inj s r hs hr e')) _, fun i hi => ?_⟩
    rw [put, if_neg (fun h => e h.1)]
    exact t2 i hi

/-- the rows, the field and the closure's boxes, while the rows are reduced -/
structure Red (q : FP) (b wd n m g bf br bp cn : Nat) (gs Cs : Nat → Nat) (t : Nat) (X : Nat → Nat → El q) (w0 W : World) : Prop where
  fld : Fld q.p b wd W
  turned : Turned b w0 W
  bl : b < w0.heap.size
  grid : Grid n m g gs Cs X W
  glow : w0.heap.size ≤ g
  low : ∀ r, r < n → w0.heap.size ≤ gs r
  boxf : W.rowIs bf TPF 1 (fun _ => .pointer (some ⟨b, 0, none⟩))
  boxr : W.rowIs br TM 1 (fun _ => .slice (some ⟨g, 0, none⟩) n cn)
  boxp : W.rowIs bp TI 1 (fun _ => .int .i64 (t : Nat))
  pap : ∀ r, r < n → gs r ≠ bp
  flow : w0.heap.size ≤ bf
  rlow : w0.heap.size ≤ br
  plow : w0.heap.size ≤ bp

variable {b wd bf br bp cn t : Nat} {w0 : World}
theorem Red.turn (h : Red q b wd n m g bf br bp cn gs Cs t X w0 W) (hf : Fld q.p b wd W') (ht : Turned b W W') : Red q b wd n m g bf br bp cn gs Cs t X w0 W' := by
  have hb := h.bl
  have h1 := h.glow
  have h2 := h.flow
  have h3 := h.rlow
  have h4 := h.plow
  refine ⟨hf, h.turned.trans ht, h.bl, h.grid.of_blocks (ht.block g h.grid.out.lt (by omega)) (fun r hr => ?_), h.glow, h.low, ht.row h.boxf (by omega), ht.row h.boxr (by omega), ht.row h.boxp (by omega), h.pap, h.flow, h.rlow, h.plow⟩
  obtain ⟨T, t1, _⟩ := h.grid.row r hr
  have := h.low r hr
  exact ht.block _ t1.lt (by omega)
theorem Red.drew (h : Red q b wd n m g bf br bp cn gs Cs t X w0 W) : Red q b wd n m g bf br bp cn gs Cs t X w0 W.drew := h.turn h.fld.drew (Turned.refl b W).drew
theorem Red.congr {X' : Nat → Nat → El q} (h : Red q b wd n m g bf br bp cn gs Cs t X w0 W) (he : ∀ r, r < n → ∀ j, j < m → X r j = X' r j) : Red q b wd n m g bf br bp cn gs Cs t X' w0 W :=
  ⟨h.fld, h.turned, h.bl, h.grid.congr he, h.glow, h.low, h.boxf, h.boxr, h.boxp, h.pap, h.flow, h.rlow, h.plow⟩
theorem Red.set (h : Red q b wd n m g bf br bp cn gs Cs t X w0 W) {r j : Nat} (hr : r < n) (v : El q) : Red q b wd n m g bf br bp cn gs Cs t (put X r j v) w0 (W.setCell ⟨gs r, j, none⟩ (.int .i64 (v.val : Nat))) := by
  obtain ⟨T, t1, _⟩ := h.grid.row r hr
  refine ⟨h.fld.setRow t1 (by decide) (by decide) _, h.turned.set_new (h.low r hr) _, h.bl, h.grid.set hr v, h.glow, h.low, h.boxf.setOther (a := ⟨gs r, j, none⟩) ?_ _, h.boxr.setOther (a := ⟨gs r, j, none⟩) ?_ _, h.boxp.setOther (a := ⟨gs r, j, none⟩) (h.pap r hr).symm _, h.pap, h.flow, h.rlow, h.plow⟩
  · intro e
    have h1 := h.boxf
    rw [show bf = gs r from e] at h1
    exact absurd (rowIs_kind t1 h1) (by decide)
  · intro e
    have h1 := h.boxr
    rw [show br = gs r from e] at h1
    exact absurd (rowIs_kind t1 h1) (by decide)

/-- the pivot's row, of which k numbers are multiplied -/
def scl (X : Nat → Nat → El q) (t : Nat) (u : El q) (k r j : Nat) : El q := if r = t ∧ j < k then u * X t j else X r j
/-- the rows, of which i are cleared, and k numbers of row i -/
def clrd (X : Nat → Nat → El q) (t j0 i k r j : Nat) : El q := if r = t then X t j else if r < i ∨ (r = i ∧ j < k) then X r j + X r j0 * X t j else X r j

theorem scl_step {X : Nat → Nat → El q} {t k : Nat} {u : El q} (r j : Nat) : put (scl X t u k) t k (u * X t k) r j = scl X t u (k + 1) r j := by
  unfold put scl
  by_cases e : r = t
  · by_cases e2 : j = k
    · rw [if_pos ⟨e, e2⟩, if_pos ⟨e, by omega⟩, e2]
    · rw [if_neg (fun h => e2 h.2)]
      by_cases e3 : j < k
      · rw [if_pos ⟨e, e3⟩, if_pos ⟨e, by omega⟩]
      · rw [if_neg (fun h => e3 h.2), if_neg (fun h => e3 (by omega))]
  · rw [if_neg (fun h => e h.1), if_neg (fun h => e h.1), if_neg (fun h => e h.1)]
theorem clrd_step {X : Nat → Nat → El q} {t j0 i k : Nat} (hi : i ≠ t) (r j : Nat) : put (clrd X t j0 i k) i k (X i k + X i j0 * X t k) r j = clrd X t j0 i (k + 1) r j := by
  unfold put clrd
  by_cases e : r = t
  · rw [if_neg (fun h => hi (h.1.symm.trans e)), if_pos e, if_pos e]
  · rw [if_neg e, if_neg e]
    by_cases e1 : r = i
    · by_cases e2 : j = k
      · rw [if_pos ⟨e1, e2⟩, if_pos (Or.inr ⟨e1, by omega⟩), e1, e2]
      · rw [if_neg (fun h => e2 h.2)]
        by_cases e3 : j < k
        · rw [if_pos (Or.inr ⟨e1, e3⟩), if_pos (Or.inr ⟨e1, by omega⟩)]
        · rw [if_neg (by omega), if_neg (by omega)]
    · rw [if_neg (fun h => e1 h.1)]
      by_cases e3 : r < i
      · rw [if_pos (Or.inl e3), if_pos (Or.inl e3)]
      · rw [if_neg (by omega), if_neg (by omega)]
theorem clrd_next {X : Nat → Nat → El q} {t j0 i m : Nat} (r : Nat) {j : Nat} (hj : j < m) : clrd X t j0 i m r j = clrd X t j0 (i + 1) 0 r j := by
  unfold clrd
  by_cases e : r = t
  · rw [if_pos e, if_pos e]
  · rw [if_neg e, if_neg e]
    by_cases e3 : r < i + 1
    · rw [if_pos (by omega), if_pos (Or.inl e3)]
    · rw [if_neg (by omega), if_neg (by omega)]
theorem clrd_skip {X : Nat → Nat → El q} {t j0 : Nat} (r j : Nat) : clrd X t j0 t 0 r j = clrd X t j0 (t + 1) 0 r j := by
  unfold clrd
  by_cases e : r = t
  · rw [if_pos e, if_pos e]
  · rw [if_neg e, if_neg e]
    by_cases e3 : r < t
    · rw [if_pos (Or.inl e3), if_pos (Or.inl (by omega))]
    · rw [if_neg (by omega), if_neg (by omega)]
theorem clrd_start {X : Nat → Nat → El q} {t j0 : Nat} (r j : Nat) : X r j = clrd X t j0 0 0 r j := by
  unfold clrd
  by_cases e : r = t
  · rw [if_pos e, e]
  · rw [if_neg e, if_neg (by omega)]
theorem clrd_row {X : Nat → Nat → El q} {t j0 i k j : Nat} (h : k ≤ j) : clrd X t j0 i k i j = X i j := by
  unfold clrd
  by_cases e : i = t
  · rw [if_pos e, e]
  · rw [if_neg e, if_neg (by omega)]
theorem clrd_piv {X : Nat → Nat → El q} {t j0 i k : Nat} (j : Nat) : clrd X t j0 i k t j = X t j := by unfold clrd; rw [if_pos rfl]
theorem clr_all {X : Nat → Nat → El q} {t j0 n m r j : Nat} (hr : r < n) (hj : j < m) : clrd (scl X t (X t j0).inv m) t j0 n 0 r j = clr X t j0 r j := by
  unfold clrd clr scl
  by_cases e : r = t
  · rw [if_pos e, if_pos e, if_pos ⟨rfl, hj⟩]
  · rw [if_neg e, if_neg e, if_pos (Or.inl hr), if_neg (fun h => e h.1), if_neg (fun h => e h.1), if_pos ⟨rfl, hj⟩]
theorem i64_xor_el {wd : Nat} (hg : Good q.p wd) (a c : El q) : bits .xor .i64 (a.val : Nat) (c.val : Nat) = (((a + c).val : Nat) : Int) := by
  have h1 := a.small hg
  have h2 := c.small hg
  exact i64_xor_nat _ _ (by omega) (by omega)
end
end Go.Proofs.YtgdgimknnjbieaaGreatDoor

namespace Go.Proofs.YtgdgimknnjbieaaGreatDoor
open Go.RowKit

/-- in the closure's three loops -/
def SclAt (q : FP) (b wd n m g bf br bp cn : Nat) (gs Cs : Nat → Nat) (t : Nat) (X : Nat → Nat → El q) (u : El q) (w0 : World) (s30 : Value) (wr : World) : Prop :=
  ∃ k : Nat, k ≤ m ∧ s30 = .int .i64 k ∧ Red q b wd n m g bf br bp cn gs Cs t (scl X t u k) w0 wr
def ClrAt (q : FP) (b wd n m g bf br bp cn : Nat) (gs Cs : Nat → Nat) (t : Nat) (Y : Nat → Nat → El q) (j0 : Nat) (w0 : World) (s45 : Value) (wr : World) : Prop :=
  ∃ i : Nat, i ≤ n ∧ s45 = .int .i64 i ∧ Red q b wd n m g bf br bp cn gs Cs t (clrd Y t j0 i 0) w0 wr
def ClrIn (q : FP) (b wd n m g bf br bp cn : Nat) (gs Cs : Nat → Nat) (t : Nat) (Y : Nat → Nat → El q) (j0 i : Nat) (w0 : World) (s59 : Value) (wr : World) : Prop :=
  ∃ k : Nat, k ≤ m ∧ s59 = .int .i64 k ∧ Red q b wd n m g bf br bp cn gs Cs t (clrd Y t j0 i k) w0 wr

set_option maxRecDepth 100000 in
set_option maxHeartbeats 4000000 in
theorem clear54 (q : FP) (b wd n m g bf br bp cn : Nat) (gs Cs : Nat → Nat) (t j0 : Nat) (X : Nat → Nat → El q) (w0 w : World) (ht : t < n) (hj : j0 < m) (hn : n ≤ 100) (hm : m ≤ 100) (h0 : X t j0 ≠ 0) (h : Red q b wd n m g bf br bp cn gs Cs t X w0 w) :
    Calls Tryz.prog 152 #[.int .i64 j0, .pointer (some ⟨br, 0, none⟩), .pointer (some ⟨bp, 0, none⟩), .pointer (some ⟨bf, 0, none⟩)] w
      fun e w' => e = .returned (.tuple #[]) ∧ Red q b wd n m g bf br bp cn gs Cs t (clr X t j0) w0 w' := by
  have hg := h.fld.1
  have HX := Lib.hid h
  have c1 := h.boxr.cell (i := 0) (by omega)
  have c2 := h.boxp.cell (i := 0) (by omega)
  have c3 := h.boxf.cell (i := 0) (by omega)
  have c4 := h.grid.out.cell (i := t) ht
  have c5 := (h.grid.cell ht hj).1
  have KEEP := Lib.hid (show ∀ w', Red q b wd n m g bf br bp cn gs Cs t X w0 w' → w'.cell? ⟨bf, 0, none⟩ = some (.pointer (some ⟨b, 0, none⟩)) ∧ w'.cell? ⟨gs t, j0, none⟩ = some (.int .i64 ((X t j0).val : Nat)) from fun w' h => ⟨h.boxf.cell (i := 0) (by omega), (h.grid.cell ht hj).1⟩)
  have HI := Lib.hid (finv_el h0)
  clear h
  go_enter Tryz.func152, Tryz.ntmps152
  go_wp2_with fail
  go_region_held3 (fun w' => w'.cell? ⟨bf, 0, none⟩ = some (.pointer (some ⟨b, 0, none⟩)) ∧ w'.cell? ⟨gs t, j0, none⟩ = some (.int .i64 ((X t j0).val : Nat)))
    (first | exact ⟨c3, c5⟩ | exact KEEP.out _ (HX.out.drew.turn hf2 ht2) | assumption)
    ((go_at_call 153; refine (finv18 q.p b wd _ w.drew HX.out.drew.fld).mono ?_; rintro e w2 ⟨rfl, hf2, ht2⟩; rw [HI.out]))
  have H2 := Lib.hid (HX.out.drew.turn hf2 ht2)
  obtain ⟨u, hu⟩ : ∃ u, (X t j0).inv = u := ⟨_, rfl⟩
  rw [hu]
  have HU := Lib.hid hu
  rename_i hHeld
  clear hHeld hf2 ht2 HX KEEP HI c1 c2 c3 c4 c5 hu
  go_wp2_with fail
  go_loopw [30] (fun s30 wr => SclAt q b wd n m g bf br bp cn gs Cs t X u w0 s30 wr) (fun s30 _ => m - (intOf s30).toNat)
  case atStart => exact ⟨0, Nat.zero_le _, rfl, H2.out.congr (fun r _ j _ => by unfold scl; rw [if_neg (by omega)])⟩
  case round =>
    clear H2
    obtain ⟨k, hk, rfl, hR⟩ := hrel
    have HR := Lib.hid hR
    by_cases hlt : k < m
    · have d1 := (hR.grid.cell ht hlt).1
      rw [show scl X t u k t k = X t k by unfold scl; rw [if_neg (by omega)]] at d1
      have d2 := hR.boxf.cell (i := 0) (by omega)
      clear hR
      go_wp2_with fail
      refine (fmul12 q.p b wd _ _ _ HR.out.fld).mono ?_
      rintro e w3 ⟨rfl, hf3, ht3⟩
      rw [fmul_el]
      have h3 := HR.out.turn hf3 ht3
      have H3 := Lib.hid (Red.congr (h3.set (j := k) ht (u * X t k)) (fun r _ j _ => scl_step r j))
      obtain ⟨d3, f3⟩ := h3.grid.cell ht hlt
      clear hf3 ht3 h3 d1 d2
      go_wp2_with fail
      exact ⟨⟨k + 1, hlt, by go_num, H3.out⟩, by simp [intOf]; omega⟩
    · obtain rfl : k = m := by omega
      have d1 := hR.boxr.cell (i := 0) (by omega)
      obtain ⟨Y, hY⟩ : ∃ Y, scl X t u k = Y := ⟨_, rfl⟩
      rw [hY] at HR
      have HY := Lib.hid hY
      clear hR hY
      obtain ⟨w3, hw3⟩ : ∃ w3, w3 = wr := ⟨_, rfl⟩
      subst hw3
      go_wp2_with fail
      go_loopw [45] (fun s45 wr => ClrAt q b wd n k g bf br bp cn gs Cs t Y j0 w0 s45 wr) (fun s45 _ => n - (intOf s45).toNat)
      case atStart => exact ⟨0, Nat.zero_le _, rfl, HR.out.congr (fun r _ j _ => clrd_start r j)⟩
      case round =>
        clear HR d1
        obtain ⟨i, hi, rfl, hR⟩ := hrel
        have HR := Lib.hid hR
        by_cases hlt : i < n
        · have d1 := hR.grid.out.cell (i := i) hlt
          have d2 := hR.boxp.cell (i := 0) (by omega)
          have d3 := (hR.grid.cell hlt hj).1
          rw [clrd_row (Nat.zero_le _)] at d3
          clear hR
          by_cases hit : i = t
          · subst hit
            have HS := Lib.hid (HR.out.congr (fun r _ j _ => clrd_skip r j))
            go_wp2_with fail
            exact ⟨⟨i + 1, hlt, by go_num, HS.out⟩, by simp [intOf]; omega⟩
          · have hne : (((i : Nat) : Int) == ((t : Nat) : Int)) = false := by simp; omega
            have HNE := Lib.hid hit
            clear hit
            obtain ⟨w4, hw4⟩ : ∃ w4, w4 = wr := ⟨_, rfl⟩
            subst hw4
            go_wp2_with fail
            go_loopw [59] (fun s59 wr => ClrIn q b wd n k g bf br bp cn gs Cs t Y j0 i w0 s59 wr) (fun s59 _ => k - (intOf s59).toNat)
            case atStart => exact ⟨0, Nat.zero_le _, rfl, HR.out⟩
            case round =>
              clear HR d1 d2 d3
              obtain ⟨l, hl, rfl, hR⟩ := hrel
              have HR := Lib.hid hR
              by_cases hlt2 : l < k
              · have d1 := (hR.grid.cell ht hlt2).1
                rw [clrd_piv] at d1
                obtain ⟨d2, f2⟩ := hR.grid.cell hlt hlt2
                rw [clrd_row (Nat.le_refl _)] at d2
                have d3 := hR.boxf.cell (i := 0) (by omega)
                have KEEP := Lib.hid (show ∀ w', Red q b wd n k g bf br bp cn gs Cs t (clrd Y t j0 i l) w0 w' → w'.cell? ⟨bf, 0, none⟩ = some (.pointer (some ⟨b, 0, none⟩)) ∧ w'.cell? ⟨gs i, l, none⟩ = some (.int .i64 ((Y i l).val : Nat)) ∧ w'.frozen? ⟨gs i, l, none⟩ = false from fun w' h => by
                  obtain ⟨e1, e2⟩ := h.grid.cell hlt hlt2
                  rw [clrd_row (Nat.le_refl _)] at e1
                  exact ⟨h.boxf.cell (i := 0) (by omega), e1, e2⟩)
                clear hR
                go_wp2_with fail
                have HXO := Lib.hid (i64_xor_el hg (Y i l) (Y i j0 * Y t l))
                go_region_with (go_at_call 85; refine (fmul12 q.p b wd _ _ wr.drew HR.out.drew.fld).mono ?_; rintro e w5 ⟨rfl, hf2, ht2⟩; rw [fmul_el]; obtain ⟨e1, e2, e3⟩ := KEEP.out _ (HR.out.drew.turn hf2 ht2))
                all_goals
                  rw [HXO.out]
                  have H5 := Lib.hid (Red.congr ((HR.out.drew.turn hf2 ht2).set (j := l) hlt (Y i l + Y i j0 * Y t l)) (fun r _ j _ => clrd_step HNE.out r j))
                  clear d1 d2 f2 d3 KEEP HXO hf2 ht2 e1 e2 e3 HR
                  go_wp2_with fail
                  exact ⟨⟨l + 1, hlt2, by go_num, H5.out⟩, by simp [intOf]; omega⟩
              · obtain rfl : l = k := by omega
                have HS := Lib.hid (HR.out.congr (fun r _ j hj => clrd_next r hj))
                clear hR
                go_wp2_with fail
                exact ⟨⟨i + 1, by omega, by go_num, HS.out⟩, by simp [intOf]; omega⟩
        · obtain rfl : i = n := by omega
          have HE := Lib.hid (Red.congr (X' := clr X t j0) HR.out (fun r hr j hj => by rw [← HY.out, ← HU.out]; exact clr_all hr hj))
          clear hR
          go_wp2_with fail
          go_end0
          exact ⟨rfl, HE.out⟩
end Go.Proofs.YtgdgimknnjbieaaGreatDoor

namespace Go.Proofs.YtgdgimknnjbieaaGreatDoor
open Go.RowKit

section
variable {q : FP} {n m g : Nat} {gs Cs : Nat → Nat} {X : Nat → Nat → El q} {W : World} {b wd bf br bp cn t : Nat} {w0 : World}
/-- two rows change places -/
theorem Grid.swap (h : Grid n m g gs Cs X W) {a c : Nat} (ha : a < n) (hc : c < n) :
    Grid n m g (fun r => gs (sw a c r)) (fun r => Cs (sw a c r)) (fun r => X (sw a c r)) ((W.setCell ⟨g, a, none⟩ (.slice (some ⟨gs c, 0, none⟩) m (Cs c))).setCell ⟨g, c, none⟩ (.slice (some ⟨gs a, 0, none⟩) m (Cs a))) := by
  refine ⟨((h.out.set a _).set c _).congr (fun r _ => ?_), fun r hr => ?_, fun r s hr hs e => ?_, fun r hr => h.cap _ (sw_lt ha hc hr)⟩
  · unfold sw
    by_cases e1 : r = c
    · rw [if_pos e1]
      by_cases e2 : r = a
      · rw [if_pos e2, ← e1, ← e2]
      · rw [if_neg e2, if_pos e1]
    · rw [if_neg e1]
      by_cases e2 : r = a
      · rw [if_pos e2, if_pos e2]
      · rw [if_neg e2, if_neg e2, if_neg e1]
  · obtain ⟨T, t1, t2⟩ := h.row _ (sw_lt ha hc hr)
    exact ⟨T, (t1.setOther (a := ⟨g, a, none⟩) (h.apart (sw_lt ha hc hr)) _).setOther (a := ⟨g, c, none⟩) (h.apart (sw_lt ha hc hr)) _, t2⟩
  · exact sw_eq.1 (h.inj _ _ (sw_lt ha hc hr) (sw_lt ha hc hs) e)
theorem Red.swap (h : Red q b wd n m g bf br bp cn gs Cs t X w0 W) {a c : Nat} (ha : a < n) (hc : c < n) :
    Red q b wd n m g bf br bp cn (fun r => gs (sw a c r)) (fun r => Cs (sw a c r)) t (fun r => X (sw a c r)) w0 ((W.setCell ⟨g, a, none⟩ (.slice (some ⟨gs c, 0, none⟩) m (Cs c))).setCell ⟨g, c, none⟩ (.slice (some ⟨gs a, 0, none⟩) m (Cs a))) := by
  have o1 := h.grid.out.set a (.slice (some ⟨gs c, 0, none⟩) m (Cs c))
  refine ⟨(h.fld.setRow h.grid.out (by decide) (by decide) _).setRow o1 (by decide) (by decide) _, (h.turned.set_new h.glow _).set_new h.glow _, h.bl, h.grid.swap ha hc, h.glow, fun r hr => h.low _ (sw_lt ha hc hr), ?_, ?_, ?_, fun r hr => h.pap _ (sw_lt ha hc hr), h.flow, h.rlow, h.plow⟩
  · have hne : bf ≠ g := fun e => by
      have h1 := h.boxf
      rw [e] at h1
      exact absurd (rowIs_kind h.grid.out h1) (by decide)
    exact (h.boxf.setOther (a := ⟨g, a, none⟩) hne _).setOther (a := ⟨g, c, none⟩) hne _
  · have hne : br ≠ g := fun e => by
      have h1 := h.boxr
      rw [e] at h1
      exact absurd (rowIs_kind h.grid.out h1) (by decide)
    exact (h.boxr.setOther (a := ⟨g, a, none⟩) hne _).setOther (a := ⟨g, c, none⟩) hne _
  · have hne : bp ≠ g := fun e => by
      have h1 := h.boxp
      rw [e] at h1
      exact absurd (rowIs_kind h.grid.out h1) (by decide)
    exact (h.boxp.setOther (a := ⟨g, a, none⟩) hne _).setOther (a := ⟨g, c, none⟩) hne _
theorem Red.half (h : Red q b wd n m g bf br bp cn gs Cs t X w0 W) {a : Nat} {v : Value} : (W.setCell ⟨g, a, none⟩ v).rowIs br TM 1 (fun _ => .slice (some ⟨g, 0, none⟩) n cn) ∧ (W.setCell ⟨g, a, none⟩ v).rowIs bp TI 1 (fun _ => .int .i64 (t : Nat)) := by
  constructor
  · have hne : br ≠ g := fun e => by
      have h1 := h.boxr
      rw [e] at h1
      exact absurd (rowIs_kind h.grid.out h1) (by decide)
    exact h.boxr.setOther (a := ⟨g, a, none⟩) hne _
  · have hne : bp ≠ g := fun e => by
      have h1 := h.boxp
      rw [e] at h1
      exact absurd (rowIs_kind h.grid.out h1) (by decide)
    exact h.boxp.setOther (a := ⟨g, a, none⟩) hne _
theorem Red.next (h : Red q b wd n m g bf br bp cn gs Cs t X w0 W) : Red q b wd n m g bf br bp cn gs Cs (t + 1) X w0 (W.setCell ⟨bp, 0, none⟩ (.int .i64 ((t + 1 : Nat) : Int))) := by
  refine ⟨h.fld.setRow h.boxp (by decide) (by decide) _, h.turned.set_new h.plow _, h.bl, ?_, h.glow, h.low, ?_, ?_, (h.boxp.set 0 _).congr (fun i hi => by rw [if_pos (by omega)]), h.pap, h.flow, h.rlow, h.plow⟩
  · refine h.grid.of_blocks (Below.heap_setCell _ _ _ _ ?_) (fun r hr => Below.heap_setCell _ _ _ _ (h.pap r hr))
    intro e
    have h1 := h.boxp
    rw [← show g = bp from e] at h1
    exact absurd (rowIs_kind h.grid.out h1) (by decide)
  · refine h.boxf.setOther (a := ⟨bp, 0, none⟩) (fun e => ?_) _
    have h1 := h.boxf
    rw [show bf = bp from e] at h1
    exact absurd (rowIs_kind h.boxp h1) (by decide)
  · refine h.boxr.setOther (a := ⟨bp, 0, none⟩) (fun e => ?_) _
    have h1 := h.boxr
    rw [show br = bp from e] at h1
    exact absurd (rowIs_kind h.boxp h1) (by decide)
end

/-- behind c columns -/
def RedAt (q : FP) (b wd n m g bf br bp cn cols : Nat) (X : Nat → Nat → El q) (w0 : World) (s13 : Value) (wr : World) : Prop :=
  ∃ c : Nat, c ≤ cols ∧ s13 = .int .i64 c ∧ ∃ gs Cs : Nat → Nat, Red q b wd n m g bf br bp cn gs Cs (red n X c).2 (red n X c).1 w0 wr
/-- in the search for a pivot -/
def PivAt (q : FP) (n : Nat) (Y : Nat → Nat → El q) (t c : Nat) (s10 : Value) : Prop := ∃ P : Nat, t ≤ P ∧ P ≤ n ∧ s10 = .int .i64 P ∧ ∀ i, t ≤ i → i < P → Y i c = 0

/-- what reduce tells -/
def RedSaid (q : FP) (b wd n m g cols : Nat) (X : Nat → Nat → El q) (w0 : World) (e : Ending) (w' : World) : Prop :=
  e = .returned (.int .i64 (rk n X cols : Nat)) ∧ Fld q.p b wd w' ∧ Turned b w0 w' ∧ ∃ gs Cs : Nat → Nat, Grid n m g gs Cs (red n X cols).1 w' ∧ ∀ r, r < n → w0.heap.size ≤ gs r

theorem red_start {q : FP} {b wd n m g cn : Nat} {gs Cs : Nat → Nat} {X : Nat → Nat → El q} {w0 w : World} (hf : Fld q.p b wd w) (ht : Turned b w0 w) (hb : b < w0.heap.size) (hg : Grid n m g gs Cs X w) (hgl : w0.heap.size ≤ g) (hl : ∀ r, r < n → w0.heap.size ≤ gs r) :
    Red q b wd n m g w.heap.size (w.heap.size + 1) (w.heap.size + 1 + 1) cn gs Cs 0 X w0 (((w.alloc (.cells #[.pointer (some ⟨b, 0, none⟩)] TPF)).alloc (.cells #[.slice (some ⟨g, 0, none⟩) n cn] TM)).alloc (.cells #[.int .i64 0] TI)) := by
  have h1 := World.rowIs_alloc w #[.pointer (some ⟨b, 0, none⟩)] TPF (fun _ => .pointer (some ⟨b, 0, none⟩)) (fun i hi => by
    simp at hi
    subst hi
    rfl)
  have h2 := World.rowIs_alloc (w.alloc (.cells #[.pointer (some ⟨b, 0, none⟩)] TPF)) #[.slice (some ⟨g, 0, none⟩) n cn] TM (fun _ => .slice (some ⟨g, 0, none⟩) n cn) (fun i hi => by
    simp at hi
    subst hi
    rfl)
  have h3 := World.rowIs_alloc ((w.alloc (.cells #[.pointer (some ⟨b, 0, none⟩)] TPF)).alloc (.cells #[.slice (some ⟨g, 0, none⟩) n cn] TM)) #[.int .i64 0] TI (fun _ => .int .i64 ((0 : Nat) : Int)) (fun i hi => by
    simp at hi
    subst hi
    rfl)
  simp only [World.size_alloc] at h2 h3
  have hbel : Below w.heap.size w (((w.alloc (.cells #[.pointer (some ⟨b, 0, none⟩)] TPF)).alloc (.cells #[.slice (some ⟨g, 0, none⟩) n cn] TM)).alloc (.cells #[.int .i64 0] TI)) :=
    (((below_alloc w _).alloc (by simp) _).alloc (by simp; omega) _)
  have hsz := ht.size
  refine ⟨hf.of_below hbel, ht.trans (Turned.of_below hbel), hb, hg.of_blocks (hbel.block g hg.out.lt) (fun r hr => ?_), hgl, hl, (h1.alloc _).alloc _, h2.alloc _, h3, fun r hr => ?_, by omega, by omega, by omega⟩
  · obtain ⟨T, t1, _⟩ := hg.row r hr
    exact hbel.block _ t1.lt
  · obtain ⟨T, t1, _⟩ := hg.row r hr
    have := t1.lt
    omega

set_option maxRecDepth 100000 in
set_option maxHeartbeats 4000000 in
theorem reduce33 (q : FP) (b wd n m g cn cols : Nat) (gs Cs : Nat → Nat) (X : Nat → Nat → El q) (w0 w : World) (hn : n ≤ 100) (hm : m ≤ 100) (hc : cols ≤ m) (hf : Fld q.p b wd w) (ht : Turned b w0 w) (hb : b < w0.heap.size) (hg : Grid n m g gs Cs X w) (hgl : w0.heap.size ≤ g) (hl : ∀ r, r < n → w0.heap.size ≤ gs r) :
    Calls Tryz.prog 104 #[.pointer (some ⟨b, 0, none⟩), .slice (some ⟨g, 0, none⟩) n cn, .int .i64 cols] w (RedSaid q b wd n m g cols X w0) := by
  have hmf : ∀ (fn : Fn) (first cap : Array Value) (w : World), (Instr.makeFunc fn first cap).run Tryz.prog w = .ok (.func fn first cap) w := fun _ _ _ _ => rfl
  have hzv : ∀ w, (zeroValue 3).run Tryz.prog w = .ok (.int .i64 0) w := fun _ => by rfl
  have HST := Lib.hid (red_start (cn := cn) hf ht hb hg hgl hl)
  clear hf ht hb hg hgl hl
  go_enter Tryz.func104, Tryz.ntmps104
  go_wp2_with fail
  go_step3
  go_wp2_with fail
  go_step3
  go_wp2_with fail
  clear hmf hzv
  generalize hbf : w.heap.size = bf at *
  have hbw := Lib.hid hbf
  clear hbf
  go_loopw [13] (fun s13 wr => RedAt q b wd n m g bf (bf + 1) (bf + 1 + 1) cn cols X w0 s13 wr) (fun s13 _ => cols - (intOf s13).toNat)
  case atStart => exact ⟨0, Nat.zero_le _, rfl, gs, Cs, HST.out⟩
  case round =>
    clear HST
    obtain ⟨c, hcc, rfl, gs', Cs', hR⟩ := hrel
    have hle := rk_le n X c
    unfold rk at hle
    obtain ⟨t, ht⟩ : ∃ t, (red n X c).2 = t := ⟨_, rfl⟩
    obtain ⟨Y, hY⟩ : ∃ Y, (red n X c).1 = Y := ⟨_, rfl⟩
    have HRC := Lib.hid (show red n X c = (Y, t) by rw [← ht, ← hY])
    rw [ht, hY] at hR
    rw [ht] at hle
    clear ht hY
    have HR := Lib.hid hR
    have d1 := hR.boxp.cell (i := 0) (by omega)
    have d2 := hR.boxr.cell (i := 0) (by omega)
    clear hR
    by_cases hlt : c < cols
    · have HNO := Lib.hid (show (∀ i, t ≤ i → i < n → Y i c = 0) → red n X (c + 1) = (Y, t) from fun h => by
        rw [red, HRC.out]
        exact stp_no hle.1 h)
      have HYES := Lib.hid (show ∀ P, t ≤ P → P < n → (∀ i, t ≤ i → i < P → Y i c = 0) → Y P c ≠ 0 → red n X (c + 1) = (clr (fun r => Y (sw t P r)) t c, t + 1) from fun P h1 h2 h3 h4 => by
        rw [red, HRC.out]
        exact stp_yes h1 h2 h3 h4)
      go_wp2_with fail
      go_loop [10] (fun s10 => PivAt q n Y t c s10) (fun s10 => n - (intOf s10).toNat)
      case atStart => exact ⟨t, Nat.le_refl _, hle.1, rfl, fun i h1 h2 => absurd h2 (by omega)⟩
      case round =>
        obtain ⟨P, hP1, hP2, rfl, hz⟩ := hrel
        have HZ := Lib.hid hz
        clear hz
        by_cases hPn : P = n
        · subst hPn
          have HS := Lib.hid (show RedAt q b wd P m g bf (bf + 1) (bf + 1 + 1) cn cols X w0 (.int .i64 ((c + 1 : Nat) : Int)) wr from ⟨c + 1, hlt, rfl, gs', Cs', by rw [HNO.out HZ.out]; exact HR.out⟩)
          go_wp2_with fail
          exact ⟨by rw [show ((c : Nat) : Int) + 1 = ((c + 1 : Nat) : Int) by omega]; exact HS.out, by simp [intOf]; omega⟩
        · have hPlt : P < n := by omega
          have hPI : (((P : Nat) : Int) == ((n : Nat) : Int)) = false := by simp; omega
          have d3 := HR.out.grid.out.cell (i := P) hPlt
          have d4 := (HR.out.grid.cell hPlt (show c < m by omega)).1
          clear hPn
          by_cases h0 : Y P c = 0
          · rw [h0, El.zero_val] at d4
            have HZ2 := Lib.hid (show ∀ i, t ≤ i → i < P + 1 → Y i c = 0 from fun i h1 h2 => by
              by_cases e : i = P
              · rw [e]; exact h0
              · exact HZ.out i h1 (by omega))
            clear h0
            go_wp2_with fail
            exact ⟨⟨P + 1, by omega, by omega, by go_num, HZ2.out⟩, by simp [intOf]; omega⟩
          · have hv0 : (Y P c).val ≠ 0 := fun e => h0 (El.eq_zero.2 e)
            have hne : ((((Y P c).val : Nat) : Int) != 0) = true := by simp; omega
            have HYS := Lib.hid (HYES.out P hP1 hPlt HZ.out h0)
            have H0 := Lib.hid h0
            have htn : t < n := by omega
            have d5 := HR.out.grid.out.cell (i := t) htn
            have f5 := HR.out.grid.out.frozen t
            have f3 := HR.out.grid.out.frozen P
            have hset := HR.out.grid.out.set t (.slice (some ⟨gs' P, 0, none⟩) m (Cs' P))
            obtain ⟨v6, d6⟩ : ∃ v6, (wr.setCell ⟨g, t, none⟩ (.slice (some ⟨gs' P, 0, none⟩) m (Cs' P))).cell? ⟨g, P, none⟩ = some v6 := ⟨_, hset.cell (i := P) hPlt⟩
            have f6 := hset.frozen P
            have d7 := (HR.out.half (v := .slice (some ⟨gs' P, 0, none⟩) m (Cs' P)) (a := t)).1.cell (i := 0) (by omega)
            have d8 := (HR.out.half (v := .slice (some ⟨gs' P, 0, none⟩) m (Cs' P)) (a := t)).2.cell (i := 0) (by omega)
            clear h0 hv0 HZ HNO HYES hset
            have H2 := Lib.hid (HR.out.swap htn hPlt).drew
            have HN := Lib.hid (show (fun r => Y (sw t P r)) t c ≠ 0 by dsimp only; unfold sw; rw [if_pos rfl]; exact H0.out)
            obtain ⟨gs2, hgs2⟩ : ∃ gs2, (fun r => gs' (sw t P r)) = gs2 := ⟨_, rfl⟩
            obtain ⟨Cs2, hCs2⟩ : ∃ Cs2, (fun r => Cs' (sw t P r)) = Cs2 := ⟨_, rfl⟩
            obtain ⟨Y2, hY2⟩ : ∃ Y2, (fun r => Y (sw t P r)) = Y2 := ⟨_, rfl⟩
            rw [hgs2, hCs2, hY2] at H2
            rw [hY2] at HN HYS
            clear hgs2 hCs2 hY2 H0 HR
            go_wp2_with fail
            go_cut [43] (fun _ w2 => Red q b wd n m g bf (bf + 1) (bf + 1 + 1) cn gs2 Cs2 t Y2 w0 w2)
            case first =>
              clear HYS HN HRC
              go_region
              have H2 := Lib.hid H2.out
              clear d1 d2 d3 d4 d5 d6 d7 d8 f3 f5 f6 hne
              go_wp2_with fail
              go_meet
              case rel => exact H2.out
            have H2 := Lib.hid hcut
            clear hcut d1 d2 d3 d4 d5 d6 d7 d8 f3 f5 f6 hne
            go_wp2_with fail
            refine (clear54 q b wd n m g bf (bf + 1) (bf + 1 + 1) cn gs2 Cs2 t c Y2 w0 wc htn (by omega) hn hm HN.out H2.out).mono ?_
            rintro e w3 ⟨rfl, h3⟩
            have d1 := h3.boxp.cell (i := 0) (by omega)
            have f1 := h3.boxp.frozen 0
            have HS := Lib.hid (show RedAt q b wd n m g bf (bf + 1) (bf + 1 + 1) cn cols X w0 (.int .i64 ((c + 1 : Nat) : Int)) (w3.setCell ⟨bf + 1 + 1, 0, none⟩ (.int .i64 ((t + 1 : Nat) : Int))) from ⟨c + 1, hlt, rfl, gs2, Cs2, by rw [HYS.out]; exact h3.next⟩)
            clear h3 H2 HN HYS
            rw [show ((t + 1 : Nat) : Int) = ((t : Nat) : Int) + 1 by omega, show ((c + 1 : Nat) : Int) = ((c : Nat) : Int) + 1 by omega] at HS
            go_wp2_with fail
            exact ⟨HS.out, by simp [intOf]; omega⟩
    · obtain rfl : c = cols := by omega
      have HE := Lib.hid (show RedSaid q b wd n m g c X w0 (.returned (.int .i64 (t : Nat))) wr from ⟨by rw [rk, HRC.out], HR.out.fld, HR.out.turned, gs', Cs', by rw [HRC.out]; exact HR.out.grid, HR.out.low⟩)
      go_wp2_with fail
      rw [Exit.noGoto_ret]
      go_ret
      exact HE.out
end Go.Proofs.YtgdgimknnjbieaaGreatDoor
