/- The contracts of package vander: isField, isSide, mayCode, and made, whatever closure it is given. The contracts of package vander: its two closures, Raw and Isal. The contract of package vander's System; rows of powers have an inverse, and so have any rows with the identity ahead. -/
import Derived.Test.YtgcochamjicjiaaGxm

namespace Go.Proofs.Ytgcochamjicjiaa
open Go.RowKit

/-- may there be so many rows? -/
def sideI (n : Int) : Prop := 1 ≤ n ∧ n ≤ 20
/-- may there be so many data shards and parity shards? -/
def fitsI (k m : Int) : Prop := sideI k ∧ sideI m ∧ k + m ≤ 20

/-- a matrix that is made: i rows are there, of the last one k numbers -/
structure Mad (p b wd n m g bf : Nat) (gs : Nat → Nat) (G : Nat → Nat → Int) (i k : Nat) (w W : World) : Prop where
  fld : Fld p b wd W
  turned : Turned b w W
  bl : b < w.heap.size
  box : W.cell? ⟨bf, 0, none⟩ = some (.pointer (some ⟨b, 0, none⟩))
  fl : bf < w.heap.size
  fb : bf ≠ b
  out : W.rowIs g TIs n (fun r => if r < i then .slice (some ⟨gs r, 0, none⟩) m m else nilS)
  row : ∀ r, r < i → W.rowIs (gs r) TI m (fun j => .int .i64 (if r + 1 < i ∨ j < k then G r j else 0))
  inj : ∀ r s, r < i → s < i → gs r = gs s → r = s
  glow : w.heap.size ≤ g
  low : ∀ r, r < i → w.heap.size ≤ gs r

section
variable {p b wd n m g bf : Nat} {gs : Nat → Nat} {G : Nat → Nat → Int} {i k : Nat} {w W W' : World}
theorem Mad.start (hf : Fld p b wd w) (hb : w.cell? ⟨bf, 0, none⟩ = some (.pointer (some ⟨b, 0, none⟩))) (hne : bf ≠ b) (n m : Nat) (G : Nat → Nat → Int) : Mad p b wd n m w.heap.size bf (fun _ => 0) G 0 m w (w.alloc (.cells (madeCells #[nilS] n) TIs)) :=
  ⟨hf.of_below (below_alloc _ _), Turned.of_below (below_alloc _ _), hf.lt, ((below_alloc w _).cell (World.block_lt_of_cell? _ _ hb)).trans hb, World.block_lt_of_cell? w ⟨bf, 0, none⟩ hb, hne,
    (World.rowIs_made w nilS n TIs).congr (fun r _ => by rw [if_neg (by omega)]), fun r hr => absurd hr (by omega), fun r s hr => absurd hr (by omega), Nat.le_refl _, fun r hr => absurd hr (by omega)⟩
theorem Mad.turn (h : Mad p b wd n m g bf gs G i k w W) (hf : Fld p b wd W') (ht : Turned b W W') : Mad p b wd n m g bf gs G i k w W' := by
  have hb := h.bl
  have h1 := h.glow
  refine ⟨hf, h.turned.trans ht, hb, (ht.cell (World.block_lt_of_cell? _ _ h.box) h.fb).trans h.box, h.fl, h.fb, ht.row h.out (by omega), fun r hr => ?_, h.inj, h.glow, h.low⟩
  have := h.low r hr
  exact ht.row (h.row r hr) (by omega)
theorem Mad.drew (h : Mad p b wd n m g bf gs G i k w W) : Mad p b wd n m g bf gs G i k w W.drew := h.turn h.fld.drew (Turned.refl b W).drew
theorem Mad.fresh (h : Mad p b wd n m g bf gs G i m w W) :
    Mad p b wd n m g bf (fun r => if r = i then W.heap.size else gs r) G (i + 1) 0 w ((W.alloc (.cells (madeCells #[.int .i64 0] m) TI)).setCell ⟨g, i, none⟩ (.slice (some ⟨W.heap.size, 0, none⟩) m m)) := by
  have h1 := h.glow
  have h2 := h.fl
  have hgl := h.out.lt
  have hsz := h.turned.size
  have ho := h.out.alloc (.cells (madeCells #[.int .i64 0] m) TI)
  have hbx : (W.alloc (.cells (madeCells #[.int .i64 0] m) TI)).cell? ⟨bf, 0, none⟩ = some (.pointer (some ⟨b, 0, none⟩)) := ((below_alloc W _).cell (World.block_lt_of_cell? _ _ h.box)).trans h.box
  refine ⟨(h.fld.of_below (below_alloc _ _)).setRow ho (by decide) (by decide) _, (h.turned.trans (Turned.of_below (below_alloc _ _))).set_new h1 _, h.bl, ?_, h.fl, h.fb, (ho.set i _).congr (fun r hr => ?_), fun r hr => ?_, fun r s hr hs e => ?_, h1, fun r hr => ?_⟩
  · exact (World.cell?_of_block (Below.heap_setCell _ _ _ _ (show bf ≠ g by omega))).trans hbx
  · by_cases e : r = i
    · rw [if_pos e, if_pos (by omega), if_pos e]
    · rw [if_neg e, if_neg e]
      by_cases e2 : r < i
      · rw [if_pos e2, if_pos (by omega)]
      · rw [if_neg e2, if_neg (by omega)]
  · by_cases e : r = i
    · subst e
      rw [if_pos rfl]
      refine ((World.rowIs_made W (.int .i64 0) m TI).setOther (a := ⟨g, r, none⟩) (show W.heap.size ≠ g by omega) _).congr (fun j _ => ?_)
      rw [if_neg (by omega)]
    · rw [if_neg e]
      have hr' : r < i := by omega
      have hne : gs r ≠ g := fun e' => by
        have t1 := h.row r hr'
        rw [e'] at t1
        exact absurd (rowIs_kind t1 h.out) (by decide)
      refine (((h.row r hr').alloc _).setOther (a := ⟨g, i, none⟩) hne _).congr (fun j hj => ?_)
      rw [if_pos (Or.inr hj), if_pos (Or.inl (by omega))]
  · have hlt : ∀ x, x < i → gs x < W.heap.size := fun x hx => (h.row x hx).lt
    by_cases e1 : r = i <;> by_cases e2 : s = i
    · omega
    · rw [if_pos e1, if_neg e2] at e
      have := hlt s (by omega)
      omega
    · rw [if_neg e1, if_pos e2] at e
      have := hlt r (by omega)
      omega
    · rw [if_neg e1, if_neg e2] at e
      exact h.inj r s (by omega) (by omega) e
  · by_cases e : r = i
    · rw [if_pos e]
      omega
    · rw [if_neg e]
      exact h.low r (by omega)
theorem Mad.set (h : Mad p b wd n m g bf gs G (i + 1) k w W) : Mad p b wd n m g bf gs G (i + 1) (k + 1) w (W.setCell ⟨gs i, k, none⟩ (.int .i64 (G i k))) := by
  have hi : i < i + 1 := Nat.lt_succ_self i
  have h1 := h.low i hi
  have h2 := h.fl
  have hrow := h.row i hi
  refine ⟨h.fld.setRow hrow (by decide) (by decide) _, h.turned.set_new h1 _, h.bl, (World.cell?_of_block (Below.heap_setCell _ _ _ _ (show bf ≠ gs i by omega))).trans h.box, h.fl, h.fb, h.out.setOther (a := ⟨gs i, k, none⟩) (fun e => ?_) _, fun r hr => ?_, h.inj, h.glow, h.low⟩
  · have t1 := hrow
    rw [← show g = gs i from e] at t1
    exact absurd (rowIs_kind t1 h.out) (by decide)
  · by_cases e : r = i
    · subst e
      refine (hrow.set k _).congr (fun j _ => ?_)
      by_cases e2 : j = k
      · rw [if_pos e2, if_pos (Or.inr (by omega)), e2]
      · rw [if_neg e2]
        by_cases e3 : j < k
        · rw [if_pos (Or.inr e3), if_pos (Or.inr (by omega))]
        · rw [if_neg (by omega), if_neg (by omega)]
    · refine ((h.row r hr).setOther (a := ⟨gs i, k, none⟩) (fun e' => e (h.inj r i hr hi e')) _).congr (fun j _ => ?_)
      rw [if_pos (Or.inl (by omega)), if_pos (Or.inl (by omega))]
theorem Mad.cell (h : Mad p b wd n m g bf gs G (i + 1) k w W) {j : Nat} (hj : j < m) (hk : k ≤ j) : W.cell? ⟨gs i, j, none⟩ = some (.int .i64 0) ∧ W.frozen? ⟨gs i, j, none⟩ = false := by
  have hrow := h.row i (Nat.lt_succ_self i)
  exact ⟨by rw [hrow.cell hj, if_neg (by omega)], hrow.frozen j⟩
theorem Mad.next (h : Mad p b wd n m g bf gs G (i + 1) m w W) : Mad p b wd n m g bf gs G (i + 1) m w W := h
theorem Mad.told (h : Mad p b wd n m g bf gs G n m w W) : Mx b W G (fun _ => m) (some ⟨g, 0, none⟩) n := by
  have hb := h.bl
  have h1 := h.glow
  refine ⟨fun r => some ⟨gs r, 0, none⟩, fun _ => m, (Rd.of_row h.out (by omega) (Nat.le_refl _)).congr (fun r hr => by rw [if_pos hr]), fun r hr => ?_⟩
  have := h.low r hr
  refine (Rd.of_row (h.row r hr) (by omega) (Nat.le_refl _)).congr (fun j hj => ?_)
  simp only [i64s]
  rw [if_pos (Or.inr hj)]
end

/-- what made's closure answers -/
def ClosAns (K p b wd n m bf : Nat) (G : Nat → Nat → Int) : Prop :=
  ∀ (i j : Nat) (W : World), i < n → j < m → Fld p b wd W → W.cell? ⟨bf, 0, none⟩ = some (.pointer (some ⟨b, 0, none⟩)) →
    Calls Try.prog K #[.int .i64 i, .int .i64 j, .pointer (some ⟨bf, 0, none⟩)] W (Ans p b wd W (.int .i64 (G i j)))
def MadSaid (p b wd n m : Nat) (G : Nat → Nat → Int) (w : World) (e : Ending) (w' : World) : Prop :=
  ∃ g, e = .returned (.slice (some ⟨g, 0, none⟩) n n) ∧ Mx b w' G (fun _ => m) (some ⟨g, 0, none⟩) n ∧ Fld p b wd w' ∧ Turned b w w'
def MadAt (p b wd n m g bf : Nat) (G : Nat → Nat → Int) (w : World) (s13 : Value) (W : World) : Prop := ∃ i : Nat, i ≤ n ∧ s13 = .int .i64 i ∧ ∃ gs, Mad p b wd n m g bf gs G i m w W
def MadIn (p b wd n m g bf : Nat) (gs : Nat → Nat) (G : Nat → Nat → Int) (i : Nat) (w : World) (s22 : Value) (W : World) : Prop := ∃ k : Nat, k ≤ m ∧ s22 = .int .i64 k ∧ Mad p b wd n m g bf gs G (i + 1) k w W
end Go.Proofs.Ytgcochamjicjiaa

namespace Go.Proofs.Ytgcochamjicjiaa
open Go.RowKit

/-- rows of powers -/
def rawE (q : FP) (i j : Nat) : El q := ep (toEl q (i : Int)) j
/-- ISA-L's rows of powers -/
def isalE (q : FP) (i j : Nat) : El q := ep (ep (toEl q 2) i) j
theorem rawE_val {q : FP} {i : Nat} (hi : (i : Int) ≤ M.ord q.p) (j : Nat) : ivs (rawE q) i j = fpow q.p i j := (fpow_el ⟨by omega, hi⟩ j).symm
theorem isalE_val {q : FP} (h2 : (2 : Int) ≤ M.ord q.p) (i j : Nat) : ivs (isalE q) i j = fpow q.p (fpow q.p 2 i) j := by
  have h1 := fpow_el (q := q) (a := 2) ⟨by omega, h2⟩ i
  have h3 := (ep (toEl q 2) i).le
  rw [h1, fpow_el ⟨by omega, by omega⟩ j, toEl_of]
  rfl

/-- a matrix is told -/
def VSaid (q : FP) (b wd n m : Nat) (E : Nat → Nat → El q) (w : World) (e : Ending) (w' : World) : Prop :=
  ∃ A c, e = .returned (.tuple #[.slice A n c, .int .i64 0]) ∧ n ≤ c ∧ Mx b w' (ivs E) (fun _ => m) A n ∧ Fld q.p b wd w' ∧ Turned b w w'
theorem VSaid.of_mad {q : FP} {b wd n m : Nat} {E : Nat → Nat → El q} {G : Nat → Nat → Int} {w w1 w2 : World} {g : Nat} (hE : ∀ i, i < n → ∀ j, ivs E i j = G i j) (ht : Turned b w w1) (h1 : Mx b w2 G (fun _ => m) (some ⟨g, 0, none⟩) n) (h2 : Fld q.p b wd w2) (h3 : Turned b w1 w2) :
    VSaid q b wd n m E w (.returned (.tuple #[.slice (some ⟨g, 0, none⟩) n n, .int .i64 0])) w2 :=
  ⟨_, _, rfl, Nat.le_refl _, h1.congr (fun _ _ => rfl) (fun r hr j _ => (hE r hr j).symm), h2, ht.trans h3⟩
end Go.Proofs.Ytgcochamjicjiaa

namespace Go.Proofs.Ytgcochamjicjiaa
open Go.RowKit

theorem Mx.take {b : Nat} {w : World} {F : Nat → Nat → Int} {Ls : Nat → Nat} {A : Option Addr} {n m : Nat} (h : Mx b w F Ls A n) (hm : m ≤ n) : Mx b w F Ls A m := by
  obtain ⟨As, Cs, h1, h2⟩ := h
  exact ⟨As, Cs, h1.take hm, fun r hr => h2 r (by omega)⟩

theorem toEl_inj {q : FP} {a c : Int} (ha : 0 ≤ a ∧ a ≤ M.ord q.p) (hc : 0 ≤ c ∧ c ≤ M.ord q.p) (h : toEl q a = toEl q c) : a = c := by
  rw [← toEl_val ha, ← toEl_val hc, h]
/-- k rows of powers of unlike numbers -/
theorem pick_full {q : FP} {k : Nat} {l : Nat → Nat} (hl : ∀ i, i < k → (l i : Int) ≤ M.ord q.p) (hu : ∀ i j, i < k → j < k → l i = l j → i = j) : rk k (fun i j => rawE q (l i) j) k = k :=
  vander_full (x := fun i => toEl q (l i : Int)) (fun i j hi hj h => hu i j hi hj (by
    have := toEl_inj ⟨by omega, hl i hi⟩ ⟨by omega, hl j hj⟩ h
    omega))
theorem raw_full {q : FP} {k : Nat} (hk : (k : Int) ≤ M.ord q.p) : rk k (rawE q) k = k := pick_full (l := fun i => i) (fun i hi => by omega) (fun i j _ _ h => h)

/-- rows of powers, times the inverse of the first ones -/
def sysE (q : FP) (k : Nat) : Nat → Nat → El q := mm k (rawE q) (ivm k (rawE q))
theorem sys_id {q : FP} {k : Nat} (hk : (k : Int) ≤ M.ord q.p) {r c : Nat} (hr : r < k) (hc : c < k) : sysE q k r c = dl r c := (ivm_inv (raw_full hk)).2 r hr c hc
theorem sys_any {q : FP} {k : Nat} {l : Nat → Nat} (hk : (k : Int) ≤ M.ord q.p) (hl : ∀ i, i < k → (l i : Int) ≤ M.ord q.p) (hu : ∀ i j, i < k → j < k → l i = l j → i = j) : rk k (fun i j => sysE q k (l i) j) k = k := by
  have e : (fun i j => sysE q k (l i) j) = mm k (fun i j => rawE q (l i) j) (ivm k (rawE q)) := rfl
  rw [e]
  exact full_mm.2 ⟨pick_full hl hu, full_of_right (ivm_inv (raw_full hk)).1⟩
end Go.Proofs.Ytgcochamjicjiaa
