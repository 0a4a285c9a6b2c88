/- The contracts of package vander: isField, isSide, mayCode, and made, whatever closure it is given. The contracts of package vander: its two closures, Raw and Isal. The contract of package vander's System; rows of powers have an inverse, and so have any rows with the identity ahead. -/
import Derived.Test.YtgdgimknnjbieaaGreatDoorGxm

namespace Go.Proofs.YtgdgimknnjbieaaGreatDoor
open Go.RowKit

/-- may there be so many rows? -/
def sideI (n : Int) : Prop := 1 ≤ n ∧ n ≤ 20
/-- may there be so many data shards and parity shards? -/
def fitsI (k m : Int) : Prop := sideI k ∧ sideI m ∧ k + m ≤ 20

set_option maxRecDepth 100000 in
theorem vside33 (n : Int) (w : World) : Calls Tryz.prog 166 #[.int .i64 n] w (SaidB (sideI n) w) := by
  by_cases h1 : 1 ≤ n
  · by_cases h2 : n ≤ 20
    · have HE := Lib.hid (SaidB.yes (w := w) (show sideI n from ⟨h1, h2⟩))
      have hd1 : decide (1 ≤ n) = true := by simp; omega
      have hd : decide (n ≤ 20) = true := by simp; omega
      go_enter Tryz.func166, Tryz.ntmps166
      go_wp2_with fail
      go_ret
      exact HE.out
    · have HE := Lib.hid (SaidB.no (w := w) (show ¬ sideI n from fun h => h2 h.2))
      have hd1 : decide (1 ≤ n) = true := by simp; omega
      have hd : decide (n ≤ 20) = false := by simp; omega
      go_enter Tryz.func166, Tryz.ntmps166
      go_wp2_with fail
      go_ret
      exact HE.out
  · have HE := Lib.hid (SaidB.no (w := w) (show ¬ sideI n from fun h => h1 h.1))
    have hd : decide (1 ≤ n) = false := by simp; omega
    go_enter Tryz.func166, Tryz.ntmps166
    go_wp2_with fail
    go_ret
    exact HE.out

set_option maxRecDepth 100000 in
theorem vfield_yes (b wd c : Nat) (hk : Kind wd c) (w : World) (hc : w.cell? ⟨b, 0, none⟩ = some (.int .i64 wd)) :
    Calls Tryz.prog 165 #[.pointer (some ⟨b, 0, none⟩)] w fun e w' => e = .returned (.bool true) ∧ w = w' := by
  have hb := hk.bounds
  have hd : (((c : Int) + 1) != 0) = true := by simp; omega
  go_enter Tryz.func165, Tryz.ntmps165
  go_wp2_with fail
  refine (size13 b wd c hk _ hc).mono ?_
  rintro e w' ⟨rfl, rfl⟩
  go_wp2_with fail
  go_ret
  exact ⟨rfl, rfl⟩

set_option maxRecDepth 100000 in
set_option maxHeartbeats 1000000 in
theorem code20 (b wd c : Nat) (hk : Kind wd c) (k m : Int) (w : World) (hc : w.cell? ⟨b, 0, none⟩ = some (.int .i64 wd)) :
    Calls Tryz.prog 127 #[.pointer (some ⟨b, 0, none⟩), .int .i64 k, .int .i64 m] w (SaidB (fitsI k m) w) := by
  go_enter Tryz.func127, Tryz.ntmps127
  go_wp2_with fail
  refine (vfield_yes b wd c hk _ hc).mono ?_
  rintro e w' ⟨rfl, rfl⟩
  go_wp2_with fail
  refine (vside33 k _).mono ?_
  rintro e w' ⟨t, rfl, ht, rfl⟩
  cases t
  · have HE := Lib.hid (SaidB.no (w := w) (show ¬ fitsI k m from fun h => by have := ht.2 h.1; cases this))
    clear ht
    go_wp2_with fail
    go_ret
    exact HE.out
  obtain ⟨k1, k2⟩ := ht.1 rfl
  clear ht
  go_wp2_with fail
  refine (vside33 m _).mono ?_
  rintro e w' ⟨t, rfl, ht, rfl⟩
  cases t
  · have HE := Lib.hid (SaidB.no (w := w) (show ¬ fitsI k m from fun h => by have := ht.2 h.2.1; cases this))
    clear ht
    go_wp2_with fail
    go_ret
    exact HE.out
  obtain ⟨m1, m2⟩ := ht.1 rfl
  clear ht
  go_wp2_with fail
  refine (vside33 (k + m) _).mono ?_
  rintro e w' ⟨t, rfl, ht, rfl⟩
  cases t
  · have HE := Lib.hid (SaidB.no (w := w) (show ¬ fitsI k m from fun h => by have := ht.2 ⟨by omega, h.2.2⟩; cases this))
    clear ht
    go_wp2_with fail
    go_ret
    exact HE.out
  have HE := Lib.hid (SaidB.yes (w := w) (show fitsI k m from ⟨⟨k1, k2⟩, ⟨m1, m2⟩, (ht.1 rfl).2⟩))
  clear ht
  go_wp2_with fail
  go_ret
  exact HE.out

/-- a matrix that is made: i rows are there, of the last one k numbers -/
structure Mad (p b wd n m g bf : Nat) (gs : Nat → Nat) (G : Nat → Nat → Int) (i k : Nat) (w W : World) : Prop where
  fld : Fld p b wd W
  turned : Turned b w W
  bl : b < w.heap.size
  box : W.cell? ⟨bf, 0, none⟩ = some (.pointer (some ⟨b, 0, none⟩))
  fl : bf < w.heap.size
  fb : bf ≠ b
  out : W.rowIs g TIs n (fun r => if r < i then .slice (some ⟨gs r, 0, none⟩) m m else nilS)
  row : ∀ r, r < i → W.rowIs (gs r) TI m (fun j => .int .i64 (if r + 1 < i ∨ j < k then G r j else 0))
  inj : ∀ r s, r < i → s < i → gs r = gs s → r = s
  glow : w.heap.size ≤ g
  low : ∀ r, r < i → w.heap.size ≤ gs r

section
variable {p b wd n m g bf : Nat} {gs : Nat → Nat} {G : Nat → Nat → Int} {i k : Nat} {w W W' : World}
theorem Mad.start (hf : Fld p b wd w) (hb : w.cell? ⟨bf, 0, none⟩ = some (.pointer (some ⟨b, 0, none⟩))) (hne : bf ≠ b) (n m : Nat) (G : Nat → Nat → Int) : Mad p b wd n m w.heap.size bf (fun _ => 0) G 0 m w (w.alloc (.cells (madeCells #[nilS] n) TIs)) :=
  ⟨hf.of_below (below_alloc _ _), Turned.of_below (below_alloc _ _), hf.lt, ((below_alloc w _).cell (World.block_lt_of_cell? _ _ hb)).trans hb, World.block_lt_of_cell? w ⟨bf, 0, none⟩ hb, hne,
    (World.rowIs_made w nilS n TIs).congr (fun r _ => by rw [if_neg (by omega)]), fun r hr => absurd hr (by omega), fun r s hr => absurd hr (by omega), Nat.le_refl _, fun r hr => absurd hr (by omega)⟩
theorem Mad.turn (h : Mad p b wd n m g bf gs G i k w W) (hf : Fld p b wd W') (ht : Turned b W W') : Mad p b wd n m g bf gs G i k w W' := by
  have hb := h.bl
  have h1 := h.glow
  refine ⟨hf, h.turned.trans ht, hb, (ht.cell (World.block_lt_of_cell? _ _ h.box) h.fb).trans h.box, h.fl, h.fb, ht.row h.out (by omega), fun r hr => ?_, h.inj, h.glow, h.low⟩
  have := h.low r hr
  exact ht.row (h.row r hr) (by omega)
theorem Mad.drew (h : Mad p b wd n m g bf gs G i k w W) : Mad p b wd n m g bf gs G i k w W.drew := h.turn h.fld.drew (Turned.refl b W).drew
theorem Mad.fresh (h : Mad p b wd n m g bf gs G i m w W) :
    Mad p b wd n m g bf (fun r => if r = i then W.heap.size else gs r) G (i + 1) 0 w ((W.alloc (.cells (madeCells #[.int .i64 0] m) TI)).setCell ⟨g, i, none⟩ (.slice (some ⟨W.heap.size, 0, none⟩) m m)) := by
  have h1 := h.glow
  have h2 := h.fl
  have hgl := h.out.lt
  have hsz := h.turned.size
  have ho := h.out.alloc (.cells (madeCells #[.int .i64 0] m) TI)
  have hbx : (W.alloc (.cells (madeCells #[.int .i64 0] m) TI)).cell? ⟨bf, 0, none⟩ = some (.pointer (some ⟨b, 0, none⟩)) := ((below_alloc W _).cell (World.block_lt_of_cell? _ _ h.box)).trans h.box
  refine ⟨(h.fld.of_below (below_alloc _ _)).setRow ho (by decide) (by decide) _, (h.turned.trans (Turned.of_below (below_alloc _ _))).set_new h1 _, h.bl, ?_, h.fl, h.fb, (ho.set i _).congr (fun r hr => ?_), fun r hr => ?_, fun r s hr hs e => ?_, h1, fun r hr => ?_⟩
  · exact (World.cell?_of_block (Below.heap_setCell _ _ _ _ (show bf ≠ g by omega))).trans hbx
  · by_cases e : r = i
    · rw [if_pos e, if_pos (by omega), if_pos e]
    · rw [if_neg e, if_neg e]
      by_cases e2 : r < i
      · rw [if_pos e2, if_pos (by omega)]
      · rw [if_neg e2, if_neg (by omega)]
  · by_cases e : r = i
    · subst e
      rw [if_pos rfl]
      refine ((World.rowIs_made W (.int .i64 0) m TI).setOther (a := ⟨g, r, none⟩) (show W.heap.size ≠ g by omega) _).congr (fun j _ => ?_)
      rw [if_neg (by omega)]
    · rw [if_neg e]
      have hr' : r < i := by omega
      have hne : gs r ≠ g := fun e' => by
        have t1 := h.row r hr'
        rw [e'] at t1
        exact absurd (rowIs_kind t1 h.out) (by decide)
      refine (((h.row r hr').alloc _).setOther (a := ⟨g, i, none⟩) hne _).congr (fun j hj => ?_)
      rw [if_pos (Or.inr hj), if_pos (Or.inl (by omega))]
  · have hlt : ∀ x, x < i → gs x < W.heap.size := fun x hx => (h.row x hx).lt
    by_cases e1 : r = i <;> by_cases e2 : s = i
    · omega
    · rw [if_pos e1, if_neg e2] at e
      have := hlt s (by omega)
      omega
    · rw [if_neg e1, if_pos e2] at e
      have := hlt r (by omega)
      omega
    · rw [if_neg e1, if_neg e2] at e
      exact h.inj r s (by omega) (by omega) e
  · by_cases e : r = i
    · rw [if_pos e]
      omega
    · rw [if_neg e]
      exact h.low r (by omega)
theorem Mad.set (h : Mad p b wd n m g bf gs G (i + 1) k w W) : Mad p b wd n m g bf gs G (i + 1) (k + 1) w (W.setCell ⟨gs i, k, none⟩ (.int .i64 (G i k))) := by
  have hi : i < i + 1 := Nat.lt_succ_self i
  have h1 := h.low i hi
  have h2 := h.fl
  have hrow := h.row i hi
  refine ⟨h.fld.setRow hrow (by decide) (by decide) _, h.turned.set_new h1 _, h.bl, (World.cell?_of_block (Below.heap_setCell _ _ _ _ (show bf ≠ gs i by omega))).trans h.box, h.fl, h.fb, h.out.setOther (a := ⟨gs i, k, none⟩) (fun e => ?_) _, fun r hr => ?_, h.inj, h.glow, h.low⟩
  · have t1 := hrow
    rw [← show g = gs i from e] at t1
    exact absurd (rowIs_kind t1 h.out) (by decide)
  · by_cases e : r = i
    · subst e
      refine (hrow.set k _).congr (fun j _ => ?_)
      by_cases e2 : j = k
      · rw [if_pos e2, if_pos (Or.inr (by omega)), e2]
      · rw [if_neg e2]
        by_cases e3 : j < k
        · rw [if_pos (Or.inr e3), if_pos (Or.inr (by omega))]
        · rw [if_neg (by omega), if_neg (by omega)]
    · refine ((h.row r hr).setOther (a := ⟨gs i, k, none⟩) (fun e' => e (h.inj r i hr hi e')) _).congr (fun j _ => ?_)
      rw [if_pos (Or.inl (by omega)), if_pos (Or.inl (by omega))]
theorem Mad.cell (h : Mad p b wd n m g bf gs G (i + 1) k w W) {j : Nat} (hj : j < m) (hk : k ≤ j) : W.cell? ⟨gs i, j, none⟩ = some (.int .i64 0) ∧ W.frozen? ⟨gs i, j, none⟩ = false := by
  have hrow := h.row i (Nat.lt_succ_self i)
  exact ⟨by rw [hrow.cell hj, if_neg (by omega)], hrow.frozen j⟩
theorem Mad.next (h : Mad p b wd n m g bf gs G (i + 1) m w W) : Mad p b wd n m g bf gs G (i + 1) m w W := h
theorem Mad.told (h : Mad p b wd n m g bf gs G n m w W) : Mx b W G (fun _ => m) (some ⟨g, 0, none⟩) n := by
  have hb := h.bl
  have h1 := h.glow
  refine ⟨fun r => some ⟨gs r, 0, none⟩, fun _ => m, (Rd.of_row h.out (by omega) (Nat.le_refl _)).congr (fun r hr => by rw [if_pos hr]), fun r hr => ?_⟩
  have := h.low r hr
  refine (Rd.of_row (h.row r hr) (by omega) (Nat.le_refl _)).congr (fun j hj => ?_)
  simp only [i64s]
  rw [if_pos (Or.inr hj)]
end

/-- what made's closure answers -/
def ClosAns (K p b wd n m bf : Nat) (G : Nat → Nat → Int) : Prop :=
  ∀ (i j : Nat) (W : World), i < n → j < m → Fld p b wd W → W.cell? ⟨bf, 0, none⟩ = some (.pointer (some ⟨b, 0, none⟩)) →
    Calls Tryz.prog K #[.int .i64 i, .int .i64 j, .pointer (some ⟨bf, 0, none⟩)] W (Ans p b wd W (.int .i64 (G i j)))
def MadSaid (p b wd n m : Nat) (G : Nat → Nat → Int) (w : World) (e : Ending) (w' : World) : Prop :=
  ∃ g, e = .returned (.slice (some ⟨g, 0, none⟩) n n) ∧ Mx b w' G (fun _ => m) (some ⟨g, 0, none⟩) n ∧ Fld p b wd w' ∧ Turned b w w'
def MadAt (p b wd n m g bf : Nat) (G : Nat → Nat → Int) (w : World) (s13 : Value) (W : World) : Prop := ∃ i : Nat, i ≤ n ∧ s13 = .int .i64 i ∧ ∃ gs, Mad p b wd n m g bf gs G i m w W
def MadIn (p b wd n m g bf : Nat) (gs : Nat → Nat) (G : Nat → Nat → Int) (i : Nat) (w : World) (s22 : Value) (W : World) : Prop := ∃ k : Nat, k ≤ m ∧ s22 = .int .i64 k ∧ Mad p b wd n m g bf gs G (i + 1) k w W

set_option maxRecDepth 100000 in
set_option maxHeartbeats 2000000 in
theorem made_raw (p b wd n m bf : Nat) (G : Nat → Nat → Int) (hn : n ≤ 100) (hm : m ≤ 100) (w : World) (hf : Fld p b wd w) (hbox : w.cell? ⟨bf, 0, none⟩ = some (.pointer (some ⟨b, 0, none⟩))) (hne : bf ≠ b) (hK : ClosAns 181 p b wd n m bf G) :
    Calls Tryz.prog 128 #[.int .i64 n, .int .i64 m, .func (.func 181) #[] #[.pointer (some ⟨bf, 0, none⟩)]] w (MadSaid p b wd n m G w) := by
  have hmk := run_make_row' (P := Tryz.prog) TM TIs nilS 24 underM' infoRow rfl .i64 .i64 n (by omega) (by omega)
  have hmk2 := run_make_row' (P := Tryz.prog) TIs TI (.int .i64 0) 8 underI infoI rfl .i64 .i64 m (by omega) (by omega)
  have HS0 := Lib.hid (Mad.start hf hbox hne n m G)
  have HK := Lib.hid hK
  clear hf hbox hne hK
  go_enter Tryz.func128, Tryz.ntmps128
  go_wp2_with fail
  go_loopw [13] (fun s13 wr => MadAt p b wd n m w.heap.size bf G w s13 wr) (fun s13 _ => n - (intOf s13).toNat)
  case atStart => exact ⟨0, Nat.zero_le _, rfl, _, HS0.out⟩
  case round =>
    clear HS0
    obtain ⟨i, hi, rfl, gs, hM⟩ := hrel
    have HM := Lib.hid hM
    by_cases hlt : i < n
    · have HF := Lib.hid hM.fresh
      have hgl : w.heap.size < wr.heap.size := hM.out.lt
      have ho := hM.out.alloc (.cells (madeCells #[.int .i64 0] m) TI)
      have c1 := ho.cell hlt
      have f1 := ho.frozen i
      rw [if_neg (by omega)] at c1
      have hEq := World.setCell_alloc_past (w := wr) (.cells (madeCells #[.int .i64 0] m) TI) w.heap.size i (.slice (some ⟨wr.heap.size, 0, none⟩) m m) hgl
      rw [hEq] at HF
      obtain ⟨W2, hW2⟩ : ∃ W2, (wr.setCell ⟨w.heap.size, i, none⟩ (.slice (some ⟨wr.heap.size, 0, none⟩) m m)).alloc (.cells (madeCells #[.int .i64 0] m) TI) = W2 := ⟨_, rfl⟩
      rw [hW2] at HF
      obtain ⟨gs', hgs⟩ : ∃ gs', (fun r => if r = i then wr.heap.size else gs r) = gs' := ⟨_, rfl⟩
      rw [hgs] at HF
      clear ho hM hEq hgs
      go_wp2_with fail
      go_loopw [22] (fun s22 wr => MadIn p b wd n m w.heap.size bf gs' G i w s22 wr) (fun s22 _ => m - (intOf s22).toNat)
      case atStart => exact ⟨0, Nat.zero_le _, rfl, HF.out⟩
      case round =>
        clear HF HM c1 f1 hW2
        obtain ⟨k, hk, rfl, hM⟩ := hrel
        have HM := Lib.hid hM
        by_cases hlt2 : k < m
        · have c1 := hM.out.cell hlt
          rw [if_pos (by omega)] at c1
          have KEEP := Lib.hid (show ∀ w', Mad p b wd n m w.heap.size bf gs' G (i + 1) k w w' → w'.cell? ⟨w.heap.size, i, none⟩ = some (.slice (some ⟨gs' i, 0, none⟩) m m) ∧ w'.cell? ⟨gs' i, k, none⟩ = some (.int .i64 0) ∧ w'.frozen? ⟨gs' i, k, none⟩ = false from fun w' h => by
            have e1 := h.out.cell hlt
            rw [if_pos (by omega)] at e1
            exact ⟨e1, h.cell hlt2 (Nat.le_refl _)⟩)
          clear hM
          go_wp2_with fail
          go_region_with (go_at_call 181; refine (HK.out i k wr.drew hlt hlt2 HM.out.drew.fld HM.out.drew.box).mono ?_; rintro e w5 ⟨rfl, hf2, ht2⟩; obtain ⟨e1, e2, e3⟩ := KEEP.out _ (HM.out.drew.turn hf2 ht2))
          all_goals
            have H5 := Lib.hid (HM.out.drew.turn hf2 ht2).set
            clear c1 KEEP hf2 ht2 e1 e2 e3 HM
            go_wp2_with fail
            exact ⟨⟨k + 1, hlt2, by go_num, H5.out⟩, by simp [intOf]; omega⟩
        · obtain rfl : k = m := by omega
          have H6 := Lib.hid hM.next
          clear hM
          go_wp2_with fail
          exact ⟨⟨i + 1, hlt, by go_num, gs', H6.out⟩, by simp [intOf]; omega⟩
    · obtain rfl : i = n := by omega
      have HE := Lib.hid (show MadSaid p b wd i m G w (.returned (.slice (some ⟨w.heap.size, 0, none⟩) i i)) wr from ⟨_, rfl, hM.told, hM.fld, hM.turned⟩)
      clear hM
      go_wp2_with fail
      go_ret
      exact HE.out

set_option maxRecDepth 100000 in
set_option maxHeartbeats 2000000 in
theorem made_isal (p b wd n m bf : Nat) (G : Nat → Nat → Int) (hn : n ≤ 100) (hm : m ≤ 100) (w : World) (hf : Fld p b wd w) (hbox : w.cell? ⟨bf, 0, none⟩ = some (.pointer (some ⟨b, 0, none⟩))) (hne : bf ≠ b) (hK : ClosAns 129 p b wd n m bf G) :
    Calls Tryz.prog 128 #[.int .i64 n, .int .i64 m, .func (.func 129) #[] #[.pointer (some ⟨bf, 0, none⟩)]] w (MadSaid p b wd n m G w) := by
  have hmk := run_make_row' (P := Tryz.prog) TM TIs nilS 24 underM' infoRow rfl .i64 .i64 n (by omega) (by omega)
  have hmk2 := run_make_row' (P := Tryz.prog) TIs TI (.int .i64 0) 8 underI infoI rfl .i64 .i64 m (by omega) (by omega)
  have HS0 := Lib.hid (Mad.start hf hbox hne n m G)
  have HK := Lib.hid hK
  clear hf hbox hne hK
  go_enter Tryz.func128, Tryz.ntmps128
  go_wp2_with fail
  go_loopw [13] (fun s13 wr => MadAt p b wd n m w.heap.size bf G w s13 wr) (fun s13 _ => n - (intOf s13).toNat)
  case atStart => exact ⟨0, Nat.zero_le _, rfl, _, HS0.out⟩
  case round =>
    clear HS0
    obtain ⟨i, hi, rfl, gs, hM⟩ := hrel
    have HM := Lib.hid hM
    by_cases hlt : i < n
    · have HF := Lib.hid hM.fresh
      have hgl : w.heap.size < wr.heap.size := hM.out.lt
      have ho := hM.out.alloc (.cells (madeCells #[.int .i64 0] m) TI)
      have c1 := ho.cell hlt
      have f1 := ho.frozen i
      rw [if_neg (by omega)] at c1
      have hEq := World.setCell_alloc_past (w := wr) (.cells (madeCells #[.int .i64 0] m) TI) w.heap.size i (.slice (some ⟨wr.heap.size, 0, none⟩) m m) hgl
      rw [hEq] at HF
      obtain ⟨W2, hW2⟩ : ∃ W2, (wr.setCell ⟨w.heap.size, i, none⟩ (.slice (some ⟨wr.heap.size, 0, none⟩) m m)).alloc (.cells (madeCells #[.int .i64 0] m) TI) = W2 := ⟨_, rfl⟩
      rw [hW2] at HF
      obtain ⟨gs', hgs⟩ : ∃ gs', (fun r => if r = i then wr.heap.size else gs r) = gs' := ⟨_, rfl⟩
      rw [hgs] at HF
      clear ho hM hEq hgs
      go_wp2_with fail
      go_loopw [22] (fun s22 wr => MadIn p b wd n m w.heap.size bf gs' G i w s22 wr) (fun s22 _ => m - (intOf s22).toNat)
      case atStart => exact ⟨0, Nat.zero_le _, rfl, HF.out⟩
      case round =>
        clear HF HM c1 f1 hW2
        obtain ⟨k, hk, rfl, hM⟩ := hrel
        have HM := Lib.hid hM
        by_cases hlt2 : k < m
        · have c1 := hM.out.cell hlt
          rw [if_pos (by omega)] at c1
          have KEEP := Lib.hid (show ∀ w', Mad p b wd n m w.heap.size bf gs' G (i + 1) k w w' → w'.cell? ⟨w.heap.size, i, none⟩ = some (.slice (some ⟨gs' i, 0, none⟩) m m) ∧ w'.cell? ⟨gs' i, k, none⟩ = some (.int .i64 0) ∧ w'.frozen? ⟨gs' i, k, none⟩ = false from fun w' h => by
            have e1 := h.out.cell hlt
            rw [if_pos (by omega)] at e1
            exact ⟨e1, h.cell hlt2 (Nat.le_refl _)⟩)
          clear hM
          go_wp2_with fail
          go_region_with (go_at_call 129; refine (HK.out i k wr.drew hlt hlt2 HM.out.drew.fld HM.out.drew.box).mono ?_; rintro e w5 ⟨rfl, hf2, ht2⟩; obtain ⟨e1, e2, e3⟩ := KEEP.out _ (HM.out.drew.turn hf2 ht2))
          all_goals
            have H5 := Lib.hid (HM.out.drew.turn hf2 ht2).set
            clear c1 KEEP hf2 ht2 e1 e2 e3 HM
            go_wp2_with fail
            exact ⟨⟨k + 1, hlt2, by go_num, H5.out⟩, by simp [intOf]; omega⟩
        · obtain rfl : k = m := by omega
          have H6 := Lib.hid hM.next
          clear hM
          go_wp2_with fail
          exact ⟨⟨i + 1, hlt, by go_num, gs', H6.out⟩, by simp [intOf]; omega⟩
    · obtain rfl : i = n := by omega
      have HE := Lib.hid (show MadSaid p b wd i m G w (.returned (.slice (some ⟨w.heap.size, 0, none⟩) i i)) wr from ⟨_, rfl, hM.told, hM.fld, hM.turned⟩)
      clear hM
      go_wp2_with fail
      go_ret
      exact HE.out
end Go.Proofs.YtgdgimknnjbieaaGreatDoor

namespace Go.Proofs.YtgdgimknnjbieaaGreatDoor
open Go.RowKit

/-- rows of powers -/
def rawE (q : FP) (i j : Nat) : El q := ep (toEl q (i : Int)) j
/-- ISA-L's rows of powers -/
def isalE (q : FP) (i j : Nat) : El q := ep (ep (toEl q 2) i) j
theorem rawE_val {q : FP} {i : Nat} (hi : (i : Int) ≤ M.ord q.p) (j : Nat) : ivs (rawE q) i j = fpow q.p i j := (fpow_el ⟨by omega, hi⟩ j).symm
theorem isalE_val {q : FP} (h2 : (2 : Int) ≤ M.ord q.p) (i j : Nat) : ivs (isalE q) i j = fpow q.p (fpow q.p 2 i) j := by
  have h1 := fpow_el (q := q) (a := 2) ⟨by omega, h2⟩ i
  have h3 := (ep (toEl q 2) i).le
  rw [h1, fpow_el ⟨by omega, by omega⟩ j, toEl_of]
  rfl

set_option maxRecDepth 100000 in
theorem raw34 (p b wd n m bf : Nat) (hm : m ≤ 100) : ClosAns 181 p b wd n m bf (fun i j => fpow p i j) := by
  intro i j W hi hj hf hb
  have HF := Lib.hid hf
  clear hf
  go_enter Tryz.func181, Tryz.ntmps181
  go_wp2_with fail
  refine (fpow21 p b wd _ _ (by omega) _ HF.out).mono ?_
  rintro e w1 ⟨rfl, h1, t1⟩
  have HP := Lib.hid (show Ans p b wd W (.int .i64 (fpow p i j)) (.returned (.int .i64 (fpow p i j))) w1 from ⟨rfl, h1, t1⟩)
  clear h1 t1 hb
  go_wp2_with fail
  go_ret
  exact HP.out

set_option maxRecDepth 100000 in
set_option maxHeartbeats 2000000 in
theorem isal29 (p b wd n m bf : Nat) (hn : n ≤ 100) (hm : m ≤ 100) (hbf : bf ≠ b) : ClosAns 129 p b wd n m bf (fun i j => fpow p (fpow p 2 i) j) := by
  intro i j W hi hj hf hb
  have HF := Lib.hid hf
  have KEEP := Lib.hid (show ∀ W', Turned b W W' → W'.cell? ⟨bf, 0, none⟩ = some (.pointer (some ⟨b, 0, none⟩)) from fun W' ht => (ht.cell (World.block_lt_of_cell? _ _ hb) hbf).trans hb)
  obtain ⟨x, hx⟩ : ∃ x, fpow p 2 i = x := ⟨_, rfl⟩
  show Calls Tryz.prog 129 #[.int .i64 i, .int .i64 j, .pointer (some ⟨bf, 0, none⟩)] W (Ans p b wd W (.int .i64 (fpow p (fpow p 2 i) j)))
  rw [hx]
  have HX := Lib.hid hx
  clear hf hx
  go_enter Tryz.func129, Tryz.ntmps129
  go_wp2_with fail
  have C1 := Lib.hid (fpow21 p b wd 2 i (by omega) W.drew HF.out.drew)
  rw [HX.out] at C1
  have C2 := Lib.hid (fun w2 hf2 => fpow21 p b wd x j (by omega) w2 hf2)
  go_region_with (first | (go_at_call_of 130 (Value.int IntKind.i64 x); refine (C2.out w2 hf2).mono ?_; rintro e w3 ⟨rfl, hf3, ht3⟩) | (go_at_call_of 130 (Value.int IntKind.i64 2); refine C1.out.mono ?_; rintro e w2 ⟨rfl, hf2, ht2⟩; have e1 := KEEP.out _ ((Turned.refl b W).drew.trans ht2)))
  all_goals
    have HP := Lib.hid (show Ans p b wd W (.int .i64 (fpow p x j)) (.returned (.int .i64 (fpow p x j))) w3 from ⟨rfl, hf3, ((Turned.refl b W).drew.trans ht2).trans ht3⟩)
    clear hf2 ht2 hf3 ht3 e1 hb
    go_wp2_with fail
    go_ret
    exact HP.out

/-- a matrix is told -/
def VSaid (q : FP) (b wd n m : Nat) (E : Nat → Nat → El q) (w : World) (e : Ending) (w' : World) : Prop :=
  ∃ A c, e = .returned (.tuple #[.slice A n c, .int .i64 0]) ∧ n ≤ c ∧ Mx b w' (ivs E) (fun _ => m) A n ∧ Fld q.p b wd w' ∧ Turned b w w'
theorem VSaid.of_mad {q : FP} {b wd n m : Nat} {E : Nat → Nat → El q} {G : Nat → Nat → Int} {w w1 w2 : World} {g : Nat} (hE : ∀ i, i < n → ∀ j, ivs E i j = G i j) (ht : Turned b w w1) (h1 : Mx b w2 G (fun _ => m) (some ⟨g, 0, none⟩) n) (h2 : Fld q.p b wd w2) (h3 : Turned b w1 w2) :
    VSaid q b wd n m E w (.returned (.tuple #[.slice (some ⟨g, 0, none⟩) n n, .int .i64 0])) w2 :=
  ⟨_, _, rfl, Nat.le_refl _, h1.congr (fun _ _ => rfl) (fun r hr j _ => (hE r hr j).symm), h2, ht.trans h3⟩

set_option maxRecDepth 100000 in
set_option maxHeartbeats 1000000 in
theorem vraw_yes (q : FP) (b wd n m : Nat) (hn : side n) (hm : side m) (w : World) (hf : Fld q.p b wd w) :
    Calls Tryz.prog 169 #[.pointer (some ⟨b, 0, none⟩), .int .i64 n, .int .i64 m] w (VSaid q b wd n m (rawE q) w) := by
  have hkd := hf.1.kind
  have hkb := hkd.bounds
  have hbl := hf.lt
  have hn1 := hn.1
  have hn2 := hn.2
  have hm1 := hm.1
  have hm2 := hm.2
  have hmf : ∀ (fn : Fn) (first cap : Array Value) (w : World), (Instr.makeFunc fn first cap).run Tryz.prog w = .ok (.func fn first cap) w := fun _ _ _ _ => rfl
  have hb1 : Below w.heap.size w (w.alloc (.cells #[.pointer (some ⟨b, 0, none⟩)] TPF)) := below_alloc _ _
  have hc1 : (w.alloc (.cells #[.pointer (some ⟨b, 0, none⟩)] TPF)).cell? ⟨w.heap.size, 0, none⟩ = some (.pointer (some ⟨b, 0, none⟩)) := by simp
  obtain ⟨w1, hw1⟩ : ∃ w1, w.alloc (.cells #[.pointer (some ⟨b, 0, none⟩)] TPF) = w1 := ⟨_, rfl⟩
  rw [hw1] at hb1 hc1
  have HF1 := Lib.hid (hf.of_below hb1)
  have hc0 := HF1.out.c0
  have HB1 := Lib.hid (Turned.of_below (b := b) hb1)
  have HC := Lib.hid hc1
  have HN := Lib.hid (show sideI (n : Int) ∧ sideI (m : Int) from ⟨⟨by omega, by omega⟩, by omega, by omega⟩)
  clear hf hb1 hn hm
  go_enter Tryz.func169, Tryz.ntmps169
  go_wp2_with fail
  refine (vfield_yes b wd _ hkd _ hc0).mono ?_
  rintro e w' ⟨rfl, rfl⟩
  go_wp2_with fail
  refine (vside33 n _).mono ?_
  rintro e w' ⟨t, rfl, ht, rfl⟩
  obtain rfl : t = true := ht.2 HN.out.1
  clear ht
  go_wp2_with fail
  refine (vside33 m _).mono ?_
  rintro e w' ⟨t, rfl, ht, rfl⟩
  obtain rfl : t = true := ht.2 HN.out.2
  clear ht
  go_wp2_with fail
  refine (made_raw q.p b wd n m w.heap.size (fun i j => fpow q.p i j) (by omega) (by omega) _ HF1.out HC.out (by omega) (raw34 q.p b wd n m w.heap.size (by omega))).mono ?_
  rintro e w2 ⟨g, rfl, h1, h2, h3⟩
  have HE := Lib.hid (VSaid.of_mad (E := rawE q) (fun i hi j => rawE_val (by omega) j) HB1.out h1 h2 h3)
  clear h1 h2 h3
  go_wp2_with fail
  go_ret2
  exact HE.out

set_option maxRecDepth 100000 in
set_option maxHeartbeats 1000000 in
theorem visal_yes (q : FP) (b wd k m : Nat) (hk : side k) (hm : side m) (hkm : k + m ≤ 20) (w : World) (hf : Fld q.p b wd w) :
    Calls Tryz.prog 80 #[.pointer (some ⟨b, 0, none⟩), .int .i64 k, .int .i64 m] w (VSaid q b wd m k (isalE q) w) := by
  have hkd := hf.1.kind
  have hkb := hkd.bounds
  have hbl := hf.lt
  have hn1 := hk.1
  have hn2 := hk.2
  have hm1 := hm.1
  have hm2 := hm.2
  have hmf : ∀ (fn : Fn) (first cap : Array Value) (w : World), (Instr.makeFunc fn first cap).run Tryz.prog w = .ok (.func fn first cap) w := fun _ _ _ _ => rfl
  have hb1 : Below w.heap.size w (w.alloc (.cells #[.pointer (some ⟨b, 0, none⟩)] TPF)) := below_alloc _ _
  have hc1 : (w.alloc (.cells #[.pointer (some ⟨b, 0, none⟩)] TPF)).cell? ⟨w.heap.size, 0, none⟩ = some (.pointer (some ⟨b, 0, none⟩)) := by simp
  obtain ⟨w1, hw1⟩ : ∃ w1, w.alloc (.cells #[.pointer (some ⟨b, 0, none⟩)] TPF) = w1 := ⟨_, rfl⟩
  rw [hw1] at hb1 hc1
  have HF1 := Lib.hid (hf.of_below hb1)
  have hc0 := HF1.out.c0
  have HB1 := Lib.hid (Turned.of_below (b := b) hb1)
  have HC := Lib.hid hc1
  have HN := Lib.hid (show fitsI (k : Int) (m : Int) from ⟨⟨by omega, by omega⟩, ⟨by omega, by omega⟩, by omega⟩)
  clear hf hb1 hk hm hkm
  go_enter Tryz.func80, Tryz.ntmps80
  go_wp2_with fail
  refine (code20 b wd _ hkd k m _ hc0).mono ?_
  rintro e w' ⟨t, rfl, ht, rfl⟩
  obtain rfl : t = true := ht.2 HN.out
  clear ht
  go_wp2_with fail
  refine (made_isal q.p b wd m k w.heap.size (fun i j => fpow q.p (fpow q.p 2 i) j) (by omega) (by omega) _ HF1.out HC.out (by omega) (isal29 q.p b wd m k w.heap.size (by omega) (by omega) (by omega))).mono ?_
  rintro e w2 ⟨g, rfl, h1, h2, h3⟩
  have HE := Lib.hid (VSaid.of_mad (E := isalE q) (fun i hi j => isalE_val (by omega) i j) HB1.out h1 h2 h3)
  clear h1 h2 h3
  go_wp2_with fail
  go_ret2
  exact HE.out

end Go.Proofs.YtgdgimknnjbieaaGreatDoor

namespace Go.Proofs.YtgdgimknnjbieaaGreatDoor
open Go.RowKit

theorem Mx.take {b : Nat} {w : World} {F : Nat → Nat → Int} {Ls : Nat → Nat} {A : Option Addr} {n m : Nat} (h : Mx b w F Ls A n) (hm : m ≤ n) : Mx b w F Ls A m := by
  obtain ⟨As, Cs, h1, h2⟩ := h
  exact ⟨As, Cs, h1.take hm, fun r hr => h2 r (by omega)⟩

theorem toEl_inj {q : FP} {a c : Int} (ha : 0 ≤ a ∧ a ≤ M.ord q.p) (hc : 0 ≤ c ∧ c ≤ M.ord q.p) (h : toEl q a = toEl q c) : a = c := by
  rw [← toEl_val ha, ← toEl_val hc, h]
/-- k rows of powers of unlike numbers -/
theorem pick_full {q : FP} {k : Nat} {l : Nat → Nat} (hl : ∀ i, i < k → (l i : Int) ≤ M.ord q.p) (hu : ∀ i j, i < k → j < k → l i = l j → i = j) : rk k (fun i j => rawE q (l i) j) k = k :=
  vander_full (x := fun i => toEl q (l i : Int)) (fun i j hi hj h => hu i j hi hj (by
    have := toEl_inj ⟨by omega, hl i hi⟩ ⟨by omega, hl j hj⟩ h
    omega))
theorem raw_full {q : FP} {k : Nat} (hk : (k : Int) ≤ M.ord q.p) : rk k (rawE q) k = k := pick_full (l := fun i => i) (fun i hi => by omega) (fun i j _ _ h => h)

/-- rows of powers, times the inverse of the first ones -/
def sysE (q : FP) (k : Nat) : Nat → Nat → El q := mm k (rawE q) (ivm k (rawE q))
theorem sys_id {q : FP} {k : Nat} (hk : (k : Int) ≤ M.ord q.p) {r c : Nat} (hr : r < k) (hc : c < k) : sysE q k r c = dl r c := (ivm_inv (raw_full hk)).2 r hr c hc
theorem sys_any {q : FP} {k : Nat} {l : Nat → Nat} (hk : (k : Int) ≤ M.ord q.p) (hl : ∀ i, i < k → (l i : Int) ≤ M.ord q.p) (hu : ∀ i j, i < k → j < k → l i = l j → i = j) : rk k (fun i j => sysE q k (l i) j) k = k := by
  have e : (fun i j => sysE q k (l i) j) = mm k (fun i j => rawE q (l i) j) (ivm k (rawE q)) := rfl
  rw [e]
  exact full_mm.2 ⟨pick_full hl hu, full_of_right (ivm_inv (raw_full hk)).1⟩

set_option maxRecDepth 100000 in
set_option maxHeartbeats 2000000 in
theorem vsys_yes (q : FP) (b wd k m : Nat) (hk : side k) (hm : side m) (hkm : k + m ≤ 20) (w : World) (hf : Fld q.p b wd w) :
    Calls Tryz.prog 131 #[.pointer (some ⟨b, 0, none⟩), .int .i64 k, .int .i64 m] w (VSaid q b wd (k + m) k (sysE q k) w) := by
  have hkd := hf.1.kind
  have hkb := hkd.bounds
  have hc0 := hf.c0
  have hn1 := hk.1
  have hn2 := hk.2
  have hm1 := hm.1
  have hm2 := hm.2
  have HN := Lib.hid (show fitsI (k : Int) (m : Int) from ⟨⟨by omega, by omega⟩, ⟨by omega, by omega⟩, by omega⟩)
  have HR := Lib.hid (vraw_yes q b wd (k + m) k ⟨by omega, hkm⟩ hk w hf)
  rw [show (((k + m : Nat) : Int)) = (k : Int) + (m : Int) by omega] at HR
  have HFU := Lib.hid (raw_full (q := q) (k := k) (by omega))
  have HSD := Lib.hid hk
  have HSM := Lib.hid (show side (k + m) from ⟨by omega, hkm⟩)
  clear hf hk hm
  go_enter Tryz.func131, Tryz.ntmps131
  go_wp2_with fail
  refine (code20 b wd _ hkd k m _ hc0).mono ?_
  rintro e w' ⟨t, rfl, ht, rfl⟩
  obtain rfl : t = true := ht.2 HN.out
  clear ht
  go_wp2_with fail
  refine HR.out.mono ?_
  rintro e w2 ⟨A, c, rfl, hc, hx, hf2, ht2⟩
  have HX := Lib.hid hx
  have HF2 := Lib.hid hf2
  have HT2 := Lib.hid ht2
  have hkc : k ≤ c := by omega
  have HI := Lib.hid (inverse12 q b wd k (fun _ => k) (ivs (rawE q)) A c w2 hf2 (hx.take (by omega)))
  clear hx hf2 ht2 HR
  go_wp2_with fail
  refine HI.out.mono ?_
  rintro e w3 ⟨s, t, A3, c3, rfl, hs, ht, _, hx3, hf3, ht3⟩
  obtain rfl : s = true := hs.2 ⟨ivs_may _ HSD.out HSD.out, rfl⟩
  rw [elM_ivs] at ht hx3
  obtain rfl : t = true := (ht rfl).2 HFU.out
  rw [show err2 true true = 0 from rfl]
  simp only [Bool.and_self, cond] at hx3 ⊢
  have HF3 := Lib.hid hf3
  have HT3 := Lib.hid (HT2.out.trans ht3)
  have HMU := Lib.hid (mmul_cap q.p b wd (ivs (rawE q)) (ivs (ivm k (rawE q))) A A3 (k + m) k k c c3 w3 hf3 (HX.out.turned ht3) hx3 (ivs_may _ HSM.out HSD.out) (ivs_may _ HSD.out HSD.out))
  clear hs ht hx3 hf3 ht3 HI HT2 HF2 HX
  go_wp2_with fail
  refine HMU.out.mono ?_
  rintro e w4 ⟨A4, c4, rfl, hc4, hx4, hf4, ht4⟩
  rw [mulF_ivs] at hx4
  have HE := Lib.hid (show VSaid q b wd (k + m) k (sysE q k) w (.returned (.tuple #[.slice A4 (k + m) c4, .int .i64 0])) w4 from ⟨A4, c4, rfl, hc4, hx4, hf4, HT3.out.trans ht4⟩)
  clear hc4 hx4 hf4 ht4 HMU
  go_wp2_with fail
  go_ret2
  exact HE.out

end Go.Proofs.YtgdgimknnjbieaaGreatDoor
