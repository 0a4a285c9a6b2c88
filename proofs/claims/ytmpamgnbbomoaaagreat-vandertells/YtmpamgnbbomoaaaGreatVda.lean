/- The contracts of package vander: isField, isSide, mayCode, and made, whatever closure it is given. -/
import Derived.Test.YtmpamgnbbomoaaaGreatIvn
namespace Go.Proofs.YtmpamgnbbomoaaaGreat
open Go.RowKit

/-- may there be so many rows? -/
def sideI (n : Int) : Prop := 1 ≤ n ∧ n ≤ 20
/-- may there be so many data shards and parity shards? -/
def fitsI (k m : Int) : Prop := sideI k ∧ sideI m ∧ k + m ≤ 20

set_option maxRecDepth 100000 in
theorem vside33 (n : Int) (w : World) : Calls Tryz.prog 16 #[.int .i64 n] w (SaidB (sideI n) w) := by
  by_cases h1 : 1 ≤ n
  · by_cases h2 : n ≤ 20
    · have HE := Lib.hid (SaidB.yes (w := w) (show sideI n from ⟨h1, h2⟩))
      have hd1 : decide (1 ≤ n) = true := by simp; omega
      have hd : decide (n ≤ 20) = true := by simp; omega
      go_enter Tryz.func16, Tryz.ntmps16
      go_wp2_with fail
      go_ret
      exact HE.out
    · have HE := Lib.hid (SaidB.no (w := w) (show ¬ sideI n from fun h => h2 h.2))
      have hd1 : decide (1 ≤ n) = true := by simp; omega
      have hd : decide (n ≤ 20) = false := by simp; omega
      go_enter Tryz.func16, Tryz.ntmps16
      go_wp2_with fail
      go_ret
      exact HE.out
  · have HE := Lib.hid (SaidB.no (w := w) (show ¬ sideI n from fun h => h1 h.1))
    have hd : decide (1 ≤ n) = false := by simp; omega
    go_enter Tryz.func16, Tryz.ntmps16
    go_wp2_with fail
    go_ret
    exact HE.out

set_option maxRecDepth 100000 in
theorem vfield_yes (b wd c : Nat) (hk : Kind wd c) (w : World) (hc : w.cell? ⟨b, 0, none⟩ = some (.int .i64 wd)) :
    Calls Tryz.prog 15 #[.pointer (some ⟨b, 0, none⟩)] w fun e w' => e = .returned (.bool true) ∧ w = w' := by
  have hb := hk.bounds
  have hd : (((c : Int) + 1) != 0) = true := by simp; omega
  go_enter Tryz.func15, Tryz.ntmps15
  go_wp2_with fail
  refine (size13 b wd c hk _ hc).mono ?_
  rintro e w' ⟨rfl, rfl⟩
  go_wp2_with fail
  go_ret
  exact ⟨rfl, rfl⟩

set_option maxRecDepth 100000 in
theorem vfield_nil (w : World) :
    Calls Tryz.prog 15 #[.pointer none] w fun e w' => e = .returned (.bool false) ∧ w = w' := by
  go_enter Tryz.func15, Tryz.ntmps15
  go_wp2_with fail
  refine (size_nil _).mono ?_
  rintro e w' ⟨rfl, rfl⟩
  go_wp2_with fail
  go_ret
  exact ⟨rfl, rfl⟩

set_option maxRecDepth 100000 in
theorem code_nil (k m : Int) (w : World) :
    Calls Tryz.prog 21 #[.pointer none, .int .i64 k, .int .i64 m] w fun e w' => e = .returned (.bool false) ∧ w = w' := by
  go_enter Tryz.func21, Tryz.ntmps21
  go_wp2_with fail
  refine (vfield_nil _).mono ?_
  rintro e w' ⟨rfl, rfl⟩
  go_wp2_with fail
  go_ret
  exact ⟨rfl, rfl⟩

set_option maxRecDepth 100000 in
set_option maxHeartbeats 1000000 in
theorem code20 (b wd c : Nat) (hk : Kind wd c) (k m : Int) (w : World) (hc : w.cell? ⟨b, 0, none⟩ = some (.int .i64 wd)) :
    Calls Tryz.prog 21 #[.pointer (some ⟨b, 0, none⟩), .int .i64 k, .int .i64 m] w (SaidB (fitsI k m) w) := by
  go_enter Tryz.func21, Tryz.ntmps21
  go_wp2_with fail
  refine (vfield_yes b wd c hk _ hc).mono ?_
  rintro e w' ⟨rfl, rfl⟩
  go_wp2_with fail
  refine (vside33 k _).mono ?_
  rintro e w' ⟨t, rfl, ht, rfl⟩
  cases t
  · have HE := Lib.hid (SaidB.no (w := w) (show ¬ fitsI k m from fun h => by have := ht.2 h.1; cases this))
    clear ht
    go_wp2_with fail
    go_ret
    exact HE.out
  obtain ⟨k1, k2⟩ := ht.1 rfl
  clear ht
  go_wp2_with fail
  refine (vside33 m _).mono ?_
  rintro e w' ⟨t, rfl, ht, rfl⟩
  cases t
  · have HE := Lib.hid (SaidB.no (w := w) (show ¬ fitsI k m from fun h => by have := ht.2 h.2.1; cases this))
    clear ht
    go_wp2_with fail
    go_ret
    exact HE.out
  obtain ⟨m1, m2⟩ := ht.1 rfl
  clear ht
  go_wp2_with fail
  refine (vside33 (k + m) _).mono ?_
  rintro e w' ⟨t, rfl, ht, rfl⟩
  cases t
  · have HE := Lib.hid (SaidB.no (w := w) (show ¬ fitsI k m from fun h => by have := ht.2 ⟨by omega, h.2.2⟩; cases this))
    clear ht
    go_wp2_with fail
    go_ret
    exact HE.out
  have HE := Lib.hid (SaidB.yes (w := w) (show fitsI k m from ⟨⟨k1, k2⟩, ⟨m1, m2⟩, (ht.1 rfl).2⟩))
  clear ht
  go_wp2_with fail
  go_ret
  exact HE.out

/-- a matrix that is made: i rows are there, of the last one k numbers -/
structure Mad (p b wd n m g bf : Nat) (gs : Nat → Nat) (G : Nat → Nat → Int) (i k : Nat) (w W : World) : Prop where
  fld : Fld p b wd W
  turned : Turned b w W
  bl : b < w.heap.size
  box : W.cell? ⟨bf, 0, none⟩ = some (.pointer (some ⟨b, 0, none⟩))
  fl : bf < w.heap.size
  fb : bf ≠ b
  out : W.rowIs g TIs n (fun r => if r < i then .slice (some ⟨gs r, 0, none⟩) m m else nilS)
  row : ∀ r, r < i → W.rowIs (gs r) TI m (fun j => .int .i64 (if r + 1 < i ∨ j < k then G r j else 0))
  inj : ∀ r s, r < i → s < i → gs r = gs s → r = s
  glow : w.heap.size ≤ g
  low : ∀ r, r < i → w.heap.size ≤ gs r

section
variable {p b wd n m g bf : Nat} {gs : Nat → Nat} {G : Nat → Nat → Int} {i k : Nat} {w W W' : World}
theorem Mad.start (hf : Fld p b wd w) (hb : w.cell? ⟨bf, 0, none⟩ = some (.pointer (some ⟨b, 0, none⟩))) (hne : bf ≠ b) (n m : Nat) (G : Nat → Nat → Int) : Mad p b wd n m w.heap.size bf (fun _ => 0) G 0 m w (w.alloc (.cells (madeCells #[nilS] n) TIs)) :=
  ⟨hf.of_below (below_alloc _ _), Turned.of_below (below_alloc _ _), hf.lt, ((below_alloc w _).cell (World.block_lt_of_cell? _ _ hb)).trans hb, World.block_lt_of_cell? w ⟨bf, 0, none⟩ hb, hne,
    (World.rowIs_made w nilS n TIs).congr (fun r _ => by rw [if_neg (by omega)]), fun r hr => absurd hr (by omega), fun r s hr => absurd hr (by omega), Nat.le_refl _, fun r hr => absurd hr (by omega)⟩
theorem Mad.turn (h : Mad p b wd n m g bf gs G i k w W) (hf : Fld p b wd W') (ht : Turned b W W') : Mad p b wd n m g bf gs G i k w W' := by
  have hb := h.bl
  have h1 := h.glow
  refine ⟨hf, h.turned.trans ht, hb, (ht.cell (World.block_lt_of_cell? _ _ h.box) h.fb).trans h.box, h.fl, h.fb, ht.row h.out (by omega), fun r hr => ?_, h.inj, h.glow, h.low⟩
  have := h.low r hr
  exact ht.row (h.row r hr) (by omega)
theorem Mad.drew (h : Mad p b wd n m g bf gs G i k w W) : Mad p b wd n m g bf gs G i k w W.drew := h.turn h.fld.drew (Turned.refl b W).drew
theorem Mad.fresh (h : Mad p b wd n m g bf gs G i m w W) :
    Mad p b wd n m g bf (fun r => if r = i then W.heap.size else gs r) G (i + 1) 0 w ((W.alloc (.cells (madeCells #[.int .i64 0] m) TI)).setCell ⟨g, i, none⟩ (.slice (some ⟨W.heap.size, 0, none⟩) m m)) := by
  have h1 := h.glow
  have h2 := h.fl
  have hgl := h.out.lt
  have hsz := h.turned.size
  have ho := h.out.alloc (.cells (madeCells #[.int .i64 0] m) TI)
  have hbx : (W.alloc (.cells (madeCells #[.int .i64 0] m) TI)).cell? ⟨bf, 0, none⟩ = some (.pointer (some ⟨b, 0, none⟩)) := ((below_alloc W _).cell (World.block_lt_of_cell? _ _ h.box)).trans h.box
  refine ⟨(h.fld.of_below (below_alloc _ _)).setRow ho (by decide) (by decide) _, (h.turned.trans (Turned.of_below (below_alloc _ _))).set_new h1 _, h.bl, ?_, h.fl, h.fb, (ho.set i _).congr (fun r hr => ?_), fun r hr => ?_, fun r s hr hs e => ?_, h1, fun r hr => ?_⟩
  · exact (World.cell?_of_block (Below.heap_setCell _ _ _ _ (show bf ≠ g by omega))).trans hbx
  · by_cases e : r = i
    · rw [if_pos e, if_pos (by omega), if_pos e]
    · rw [if_neg e, if_neg e]
      by_cases e2 : r < i
      · rw [if_pos e2, if_pos (by omega)]
      · rw [if_neg e2, if_neg (by omega)]
  · by_cases e : r = i
    · subst e
      rw [if_pos rfl]
      refine ((World.rowIs_made W (.int .i64 0) m TI).setOther (a := ⟨g, r, none⟩) (show W.heap.size ≠ g by omega) _).congr (fun j _ => ?_)
      rw [if_neg (by omega)]
    · rw [if_neg e]
      have hr' : r < i := by omega
      have hne : gs r ≠ g := fun e' => by
        have t1 := h.row r hr'
        rw [e'] at t1
        exact absurd (rowIs_kind t1 h.out) (by decide)
      refine (((h.row r hr').alloc _).setOther (a := ⟨g, i, none⟩) hne _).congr (fun j hj => ?_)
      rw [if_pos (Or.inr hj), if_pos (Or.inl (by omega))]
  · have hlt : ∀ x, x < i → gs x < W.heap.size := fun x hx => (h.row x hx).lt
    by_cases e1 : r = i <;> by_cases e2 : s = i
    · omega
    · rw [if_pos e1, if_neg e2] at e
      have := hlt s (by omega)
      omega
    · rw [if_neg e1, if_pos e2] at e
      have := hlt r (by omega)
      omega
    · rw [if_neg e1, if_neg e2] at e
      exact h.inj r s (by omega) (by omega) e
  · by_cases e : r = i
    · rw [if_pos e]
      omega
    · rw [if_neg e]
      exact h.low r (by omega)
theorem Mad.set (h : Mad p b wd n m g bf gs G (i + 1) k w W) : Mad p b wd n m g bf gs G (i + 1) (k + 1) w (W.setCell ⟨gs i, k, none⟩ (.int .i64 (G i k))) := by
  have hi : i < i + 1 := Nat.lt_succ_self i
  have h1 := h.low i hi
  have h2 := h.fl
  have hrow := h.row i hi
  refine ⟨h.fld.setRow hrow (by decide) (by decide) _, h.turned.set_new h1 _, h.bl, (World.cell?_of_block (Below.heap_setCell _ _ _ _ (show bf ≠ gs i by omega))).trans h.box, h.fl, h.fb, h.out.setOther (a := ⟨gs i, k, none⟩) (fun e => ?_) _, fun r hr => ?_, h.inj, h.glow, h.low⟩
  · have t1 := hrow
    rw [← show g = gs i from e] at t1
    exact absurd (rowIs_kind t1 h.out) (by decide)
  · by_cases e : r = i
    · subst e
      refine (hrow.set k _).congr (fun j _ => ?_)
      by_cases e2 : j = k
      · rw [if_pos e2, if_pos (Or.inr (by omega)), e2]
      · rw [if_neg e2]
        by_cases e3 : j < k
        · rw [if_pos (Or.inr e3), if_pos (Or.inr (by omega))]
        · rw [if_neg (by omega), if_neg (by omega)]
    · refine ((h.row r hr).setOther (a := ⟨gs i, k, none⟩) (fun e' => e (h.inj r i hr hi e')) _).congr (fun j _ => ?_)
      rw [if_pos (Or.inl (by omega)), if_pos (Or.inl (by omega))]
theorem Mad.cell (h : Mad p b wd n m g bf gs G (i + 1) k w W) {j : Nat} (hj : j < m) (hk : k ≤ j) : W.cell? ⟨gs i, j, none⟩ = some (.int .i64 0) ∧ W.frozen? ⟨gs i, j, none⟩ = false := by
  have hrow := h.row i (Nat.lt_succ_self i)
  exact ⟨by rw [hrow.cell hj, if_neg (by omega)], hrow.frozen j⟩
theorem Mad.next (h : Mad p b wd n m g bf gs G (i + 1) m w W) : Mad p b wd n m g bf gs G (i + 1) m w W := h
theorem Mad.told (h : Mad p b wd n m g bf gs G n m w W) : Mx b W G (fun _ => m) (some ⟨g, 0, none⟩) n := by
  have hb := h.bl
  have h1 := h.glow
  refine ⟨fun r => some ⟨gs r, 0, none⟩, fun _ => m, (Rd.of_row h.out (by omega) (Nat.le_refl _)).congr (fun r hr => by rw [if_pos hr]), fun r hr => ?_⟩
  have := h.low r hr
  refine (Rd.of_row (h.row r hr) (by omega) (Nat.le_refl _)).congr (fun j hj => ?_)
  simp only [i64s]
  rw [if_pos (Or.inr hj)]
end

/-- what made's closure answers -/
def ClosAns (K p b wd n m bf : Nat) (G : Nat → Nat → Int) : Prop :=
  ∀ (i j : Nat) (W : World), i < n → j < m → Fld p b wd W → W.cell? ⟨bf, 0, none⟩ = some (.pointer (some ⟨b, 0, none⟩)) →
    Calls Tryz.prog K #[.int .i64 i, .int .i64 j, .pointer (some ⟨bf, 0, none⟩)] W (Ans p b wd W (.int .i64 (G i j)))
def MadSaid (p b wd n m : Nat) (G : Nat → Nat → Int) (w : World) (e : Ending) (w' : World) : Prop :=
  ∃ g, e = .returned (.slice (some ⟨g, 0, none⟩) n n) ∧ Mx b w' G (fun _ => m) (some ⟨g, 0, none⟩) n ∧ Fld p b wd w' ∧ Turned b w w'
def MadAt (p b wd n m g bf : Nat) (G : Nat → Nat → Int) (w : World) (s13 : Value) (W : World) : Prop := ∃ i : Nat, i ≤ n ∧ s13 = .int .i64 i ∧ ∃ gs, Mad p b wd n m g bf gs G i m w W
def MadIn (p b wd n m g bf : Nat) (gs : Nat → Nat) (G : Nat → Nat → Int) (i : Nat) (w : World) (s22 : Value) (W : World) : Prop := ∃ k : Nat, k ≤ m ∧ s22 = .int .i64 k ∧ Mad p b wd n m g bf gs G (i + 1) k w W

set_option maxRecDepth 100000 in
set_option maxHeartbeats 2000000 in
theorem made_raw (p b wd n m bf : Nat) (G : Nat → Nat → Int) (hn : n ≤ 100) (hm : m ≤ 100) (w : World) (hf : Fld p b wd w) (hbox : w.cell? ⟨bf, 0, none⟩ = some (.pointer (some ⟨b, 0, none⟩))) (hne : bf ≠ b) (hK : ClosAns 18 p b wd n m bf G) :
    Calls Tryz.prog 17 #[.int .i64 n, .int .i64 m, .func (.func 18) #[] #[.pointer (some ⟨bf, 0, none⟩)]] w (MadSaid p b wd n m G w) := by
  have hmk := run_make_row' (P := Tryz.prog) TM TIs nilS 24 underM' infoRow rfl .i64 .i64 n (by omega) (by omega)
  have hmk2 := run_make_row' (P := Tryz.prog) TIs TI (.int .i64 0) 8 underI infoI rfl .i64 .i64 m (by omega) (by omega)
  have HS0 := Lib.hid (Mad.start hf hbox hne n m G)
  have HK := Lib.hid hK
  clear hf hbox hne hK
  go_enter Tryz.func17, Tryz.ntmps17
  go_wp2_with fail
  go_loopw [13] (fun s13 wr => MadAt p b wd n m w.heap.size bf G w s13 wr) (fun s13 _ => n - (intOf s13).toNat)
  case atStart => exact ⟨0, Nat.zero_le _, rfl, _, HS0.out⟩
  case round =>
    clear HS0
    obtain ⟨i, hi, rfl, gs, hM⟩ := hrel
    have HM := Lib.hid hM
    by_cases hlt : i < n
    · have HF := Lib.hid hM.fresh
      have hgl : w.heap.size < wr.heap.size := hM.out.lt
      have ho := hM.out.alloc (.cells (madeCells #[.int .i64 0] m) TI)
      have c1 := ho.cell hlt
      have f1 := ho.frozen i
      rw [if_neg (by omega)] at c1
      have hEq := World.setCell_alloc_past (w := wr) (.cells (madeCells #[.int .i64 0] m) TI) w.heap.size i (.slice (some ⟨wr.heap.size, 0, none⟩) m m) hgl
      rw [hEq] at HF
      obtain ⟨W2, hW2⟩ : ∃ W2, (wr.setCell ⟨w.heap.size, i, none⟩ (.slice (some ⟨wr.heap.size, 0, none⟩) m m)).alloc (.cells (madeCells #[.int .i64 0] m) TI) = W2 := ⟨_, rfl⟩
      rw [hW2] at HF
      obtain ⟨gs', hgs⟩ : ∃ gs', (fun r => if r = i then wr.heap.size else gs r) = gs' := ⟨_, rfl⟩
      rw [hgs] at HF
      clear ho hM hEq hgs
      go_wp2_with fail
      go_loopw [22] (fun s22 wr => MadIn p b wd n m w.heap.size bf gs' G i w s22 wr) (fun s22 _ => m - (intOf s22).toNat)
      case atStart => exact ⟨0, Nat.zero_le _, rfl, HF.out⟩
      case round =>
        clear HF HM c1 f1 hW2
        obtain ⟨k, hk, rfl, hM⟩ := hrel
        have HM := Lib.hid hM
        by_cases hlt2 : k < m
        · have c1 := hM.out.cell hlt
          rw [if_pos (by omega)] at c1
          have KEEP := Lib.hid (show ∀ w', Mad p b wd n m w.heap.size bf gs' G (i + 1) k w w' → w'.cell? ⟨w.heap.size, i, none⟩ = some (.slice (some ⟨gs' i, 0, none⟩) m m) ∧ w'.cell? ⟨gs' i, k, none⟩ = some (.int .i64 0) ∧ w'.frozen? ⟨gs' i, k, none⟩ = false from fun w' h => by
            have e1 := h.out.cell hlt
            rw [if_pos (by omega)] at e1
            exact ⟨e1, h.cell hlt2 (Nat.le_refl _)⟩)
          clear hM
          go_wp2_with fail
          go_region_with (go_at_call 18; refine (HK.out i k wr.drew hlt hlt2 HM.out.drew.fld HM.out.drew.box).mono ?_; rintro e w5 ⟨rfl, hf2, ht2⟩; obtain ⟨e1, e2, e3⟩ := KEEP.out _ (HM.out.drew.turn hf2 ht2))
          all_goals
            have H5 := Lib.hid (HM.out.drew.turn hf2 ht2).set
            clear c1 KEEP hf2 ht2 e1 e2 e3 HM
            go_wp2_with fail
            exact ⟨⟨k + 1, hlt2, by go_num, H5.out⟩, by simp [intOf]; omega⟩
        · obtain rfl : k = m := by omega
          have H6 := Lib.hid hM.next
          clear hM
          go_wp2_with fail
          exact ⟨⟨i + 1, hlt, by go_num, gs', H6.out⟩, by simp [intOf]; omega⟩
    · obtain rfl : i = n := by omega
      have HE := Lib.hid (show MadSaid p b wd i m G w (.returned (.slice (some ⟨w.heap.size, 0, none⟩) i i)) wr from ⟨_, rfl, hM.told, hM.fld, hM.turned⟩)
      clear hM
      go_wp2_with fail
      go_ret
      exact HE.out
set_option maxHeartbeats 2000000 in
theorem made_isal (p b wd n m bf : Nat) (G : Nat → Nat → Int) (hn : n ≤ 100) (hm : m ≤ 100) (w : World) (hf : Fld p b wd w) (hbox : w.cell? ⟨bf, 0, none⟩ = some (.pointer (some ⟨b, 0, none⟩))) (hne : bf ≠ b) (hK : ClosAns 27 p b wd n m bf G) :
    Calls Tryz.prog 17 #[.int .i64 n, .int .i64 m, .func (.func 27) #[] #[.pointer (some ⟨bf, 0, none⟩)]] w (MadSaid p b wd n m G w) := by
  have hmk := run_make_row' (P := Tryz.prog) TM TIs nilS 24 underM' infoRow rfl .i64 .i64 n (by omega) (by omega)
  have hmk2 := run_make_row' (P := Tryz.prog) TIs TI (.int .i64 0) 8 underI infoI rfl .i64 .i64 m (by omega) (by omega)
  have HS0 := Lib.hid (Mad.start hf hbox hne n m G)
  have HK := Lib.hid hK
  clear hf hbox hne hK
  go_enter Tryz.func17, Tryz.ntmps17
  go_wp2_with fail
  go_loopw [13] (fun s13 wr => MadAt p b wd n m w.heap.size bf G w s13 wr) (fun s13 _ => n - (intOf s13).toNat)
  case atStart => exact ⟨0, Nat.zero_le _, rfl, _, HS0.out⟩
  case round =>
    clear HS0
    obtain ⟨i, hi, rfl, gs, hM⟩ := hrel
    have HM := Lib.hid hM
    by_cases hlt : i < n
    · have HF := Lib.hid hM.fresh
      have hgl : w.heap.size < wr.heap.size := hM.out.lt
      have ho := hM.out.alloc (.cells (madeCells #[.int .i64 0] m) TI)
      have c1 := ho.cell hlt
      have f1 := ho.frozen i
      rw [if_neg (by omega)] at c1
      have hEq := World.setCell_alloc_past (w := wr) (.cells (madeCells #[.int .i64 0] m) TI) w.heap.size i (.slice (some ⟨wr.heap.size, 0, none⟩) m m) hgl
      rw [hEq] at HF
      obtain ⟨W2, hW2⟩ : ∃ W2, (wr.setCell ⟨w.heap.size, i, none⟩ (.slice (some ⟨wr.heap.size, 0, none⟩) m m)).alloc (.cells (madeCells #[.int .i64 0] m) TI) = W2 := ⟨_, rfl⟩
      rw [hW2] at HF
      obtain ⟨gs', hgs⟩ : ∃ gs', (fun r => if r = i then wr.heap.size else gs r) = gs' := ⟨_, rfl⟩
      rw [hgs] at HF
      clear ho hM hEq hgs
      go_wp2_with fail
      go_loopw [22] (fun s22 wr => MadIn p b wd n m w.heap.size bf gs' G i w s22 wr) (fun s22 _ => m - (intOf s22).toNat)
      case atStart => exact ⟨0, Nat.zero_le _, rfl, HF.out⟩
      case round =>
        clear HF HM c1 f1 hW2
        obtain ⟨k, hk, rfl, hM⟩ := hrel
        have HM := Lib.hid hM
        by_cases hlt2 : k < m
        · have c1 := hM.out.cell hlt
          rw [if_pos (by omega)] at c1
          have KEEP := Lib.hid (show ∀ w', Mad p b wd n m w.heap.size bf gs' G (i + 1) k w w' → w'.cell? ⟨w.heap.size, i, none⟩ = some (.slice (some ⟨gs' i, 0, none⟩) m m) ∧ w'.cell? ⟨gs' i, k, none⟩ = some (.int .i64 0) ∧ w'.frozen? ⟨gs' i, k, none⟩ = false from fun w' h => by
            have e1 := h.out.cell hlt
            rw [if_pos (by omega)] at e1
            exact ⟨e1, h.cell hlt2 (Nat.le_refl _)⟩)
          clear hM
          go_wp2_with fail
          go_region_with (go_at_call 27; refine (HK.out i k wr.drew hlt hlt2 HM.out.drew.fld HM.out.drew.box).mono ?_; rintro e w5 ⟨rfl, hf2, ht2⟩; obtain ⟨e1, e2, e3⟩ := KEEP.out _ (HM.out.drew.turn hf2 ht2))
          all_goals
            have H5 := Lib.hid (HM.out.drew.turn hf2 ht2).set
            clear c1 KEEP hf2 ht2 e1 e2 e3 HM
            go_wp2_with fail
            exact ⟨⟨k + 1, hlt2, by go_num, H5.out⟩, by simp [intOf]; omega⟩
        · obtain rfl : k = m := by omega
          have H6 := Lib.hid hM.next
          clear hM
          go_wp2_with fail
          exact ⟨⟨i + 1, hlt, by go_num, gs', H6.out⟩, by simp [intOf]; omega⟩
    · obtain rfl : i = n := by omega
      have HE := Lib.hid (show MadSaid p b wd i m G w (.returned (.slice (some ⟨w.heap.size, 0, none⟩) i i)) wr from ⟨_, rfl, hM.told, hM.fld, hM.turned⟩)
      clear hM
      go_wp2_with fail
      go_ret
      exact HE.out
end Go.Proofs.YtmpamgnbbomoaaaGreat
