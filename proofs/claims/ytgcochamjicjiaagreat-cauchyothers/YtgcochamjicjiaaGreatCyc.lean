/- The contracts of package cauchy: inverses, Of, Orig, Isal. -/
import Derived.Test.YtgcochamjicjiaaGreatCyb
import Derived.Test.YtgcochamjicjiaaGreatJvb
namespace Go.Proofs.YtgcochamjicjiaaGreat
open Go.RowKit

set_option maxRecDepth 100000 in
set_option maxHeartbeats 1000000 in
theorem inverses25 (q : FP) (b wd n : Nat) (x : El q) (y : Nat → El q) (A : Option Addr) (c : Nat) (hn : n ≤ 100) (hne : ∀ j, j < n → x ≠ y j) (w : World) (hf : Fld q.p b wd w) (hr : Rd b w (i64s (fun j => ((y j).val : Int))) A n) :
    Calls Tryz.prog 42 #[.pointer (some ⟨b, 0, none⟩), .int .i64 (x.val : Nat), .slice A n c] w (RowNew q.p b wd n (fun j => (((x + y j).inv).val : Int)) w) := by
  have hmk := run_make_row' (P := Tryz.prog) TIs TI (.int .i64 0) 8 underI infoI rfl .i64 .i64 n (by omega) (by omega)
  have HS := Lib.hid (show PowAt q.p b wd n (fun j => (((x + y j).inv).val : Int)) w (.int .i64 ((0 : Nat) : Int)) (w.alloc (.cells (madeCells #[.int .i64 0] n) TI)) from
    ⟨0, Nat.zero_le _, rfl, (World.rowIs_made w (.int .i64 0) n TI).congr (fun x _ => by rw [if_neg (by omega)]), hf.of_below (below_alloc _ _), Turned.of_below (below_alloc _ _)⟩)
  have hbl := hf.lt
  have HG := Lib.hid hf.1
  have HN := Lib.hid hne
  have HR := Lib.hid hr
  clear hf hr hne
  go_enter Tryz.func42, Tryz.ntmps42
  go_wp2_with fail
  go_loopw [15] (fun s15 wr => PowAt q.p b wd n (fun j => (((x + y j).inv).val : Int)) w s15 wr) (fun s15 _ => n - (intOf s15).toNat)
  case atStart => exact HS.out
  case round =>
    clear HS
    obtain ⟨j, hj, rfl, h1, h2, h3⟩ := hrel
    have H1 := Lib.hid h1
    have H2 := Lib.hid h2
    have H3 := Lib.hid h3
    clear h1 h2 h3
    by_cases hlt : j < n
    · obtain ⟨ad, rfl, hcell⟩ := (HR.out.turned H3.out).at_ hlt
      simp only [i64s] at hcell
      have HXO := Lib.hid (i64_xor_el HG.out x (y j))
      have hxo := HXO.out
      have hz : x + y j ≠ 0 := fun h0 => HN.out j hlt (El.add_eq_zero.1 h0)
      have hz1 : (x + y j).val ≠ 0 := fun h0 => hz (El.eq_zero.2 h0)
      have hzl := (x + y j).le
      have HI := Lib.hid (finv_yes (p := q.p) (a := (((x + y j).val : Nat) : Int)) (by omega) (by omega))
      obtain ⟨xv, hxv⟩ : ∃ xv, x.val = xv := ⟨_, rfl⟩
      obtain ⟨yv, hyv⟩ : ∃ yv, (y j).val = yv := ⟨_, rfl⟩
      rw [hxv, hyv] at hxo
      rw [hyv] at hcell
      rw [hxv]
      clear hz hz1 hzl
      go_wp2_with fail
      refine (finv18 q.p b wd _ _ H2.out).mono ?_
      rintro e w3 ⟨rfl, hf3, ht3⟩
      rw [HI.out, Int.toNat_natCast]
      have h4 := ht3.row H1.out (by omega)
      have HP := Lib.hid (powAt_step hlt h4 hf3 (H3.out.trans ht3))
      have c1 := h4.cell hlt
      have f1 := h4.frozen j
      rw [if_neg (by omega)] at c1
      have HY := Lib.hid (show M.inv q.p (x + y j).val = ((x + y j).inv).val from rfl)
      rw [HY.out]
      obtain ⟨z, hz⟩ : ∃ z, ((x + y j).inv).val = z := ⟨_, rfl⟩
      rw [hz] at HP ⊢
      clear h4 hf3 ht3 H1 H2 H3 hz hxv hyv HXO HY HI
      go_wp2_with fail
      exact ⟨HP.out, by simp [intOf]; omega⟩
    · obtain rfl : j = n := by omega
      have HE := Lib.hid (show RowNew q.p b wd j (fun j => (((x + y j).inv).val : Int)) w (.returned (.slice (some ⟨w.heap.size, 0, none⟩) j j)) wr from ⟨_, rfl, H1.out.congr (fun x hx => by rw [if_pos hx]), Nat.le_refl _, H2.out, H3.out⟩)
      clear H1 H2 H3
      go_wp2_with fail
      go_ret
      exact HE.out

/-- both lists, one behind the other -/
def catL (n : Nat) (lx ly : Nat → Int) (j : Nat) : Int := if j < n then lx j else ly (j - n)
/-- what Of asks -/
def ofP (c n m : Nat) (lx ly : Nat → Int) : Prop := side n ∧ side m ∧ apartP c (catL n lx ly) (n + m)
theorem ofP.x {c n m : Nat} {lx ly : Nat → Int} (h : ofP c n m lx ly) {i : Nat} (hi : i < n) : 0 ≤ lx i ∧ lx i ≤ c := by
  have := (h.2.2 i (by omega)).1
  unfold catL at this
  rwa [if_pos hi] at this
theorem ofP.y {c n m : Nat} {lx ly : Nat → Int} (h : ofP c n m lx ly) {j : Nat} (hj : j < m) : 0 ≤ ly j ∧ ly j ≤ c := by
  have := (h.2.2 (n + j) (by omega)).1
  unfold catL at this
  rwa [if_neg (by omega), Nat.add_sub_cancel_left] at this
theorem apartP.inj {c n : Nat} {l : Nat → Int} (h : apartP c l n) : ∀ i j, i < n → j < n → l i = l j → i = j := fun i j hi hj e => by
  rcases Nat.lt_trichotomy i j with h1 | h1 | h1
  · exact absurd e.symm ((h j hj).2 i h1)
  · exact h1
  · exact absurd e ((h i hi).2 j h1)
theorem ofP.xx {c n m : Nat} {lx ly : Nat → Int} (h : ofP c n m lx ly) : ∀ i j, i < n → j < n → lx i = lx j → i = j := fun i j hi hj e => h.2.2.inj i j (by omega) (by omega) (by
  unfold catL
  rw [if_pos hi, if_pos hj, e])
theorem ofP.yy {c n m : Nat} {lx ly : Nat → Int} (h : ofP c n m lx ly) : ∀ i j, i < m → j < m → ly i = ly j → i = j := fun i j hi hj e => by
  have := h.2.2.inj (n + i) (n + j) (by omega) (by omega) (by
    unfold catL
    rw [if_neg (by omega), if_neg (by omega), Nat.add_sub_cancel_left, Nat.add_sub_cancel_left, e])
  omega
theorem ofP.xy {c n m : Nat} {lx ly : Nat → Int} (h : ofP c n m lx ly) : ∀ i j, i < n → j < m → lx i ≠ ly j := fun i j hi hj e => by
  have := h.2.2.inj i (n + j) (by omega) (by omega) (by
    unfold catL
    rw [if_pos hi, if_neg (by omega), Nat.add_sub_cancel_left, e])
  omega
theorem cat_ints {n m : Nat} {lx ly : Nat → Int} (j : Nat) (hj : j < n + m) :
    (catV (fun s x => if s = 0 then lx x else ly x) (fun s => if s = 0 then n else m) 2)[j]? = some (.int .i64 (catL n lx ly j)) := by
  simp only [catV, List.nil_append]
  simp only [if_pos, if_neg (show ¬ (1 = 0) by omega)]
  rw [List.getElem?_append]
  unfold catL
  by_cases e : j < n
  · rw [if_pos (by simpa using e), if_pos e, List.getElem?_map, List.getElem?_range e]
    rfl
  · rw [if_neg (by simpa using e), if_neg e, List.getElem?_map, List.length_map, List.length_range, List.getElem?_range (by omega)]
    rfl

/-- i of n rows are laid, while the field may turn -/
structure OfM (q : FP) (b wd n m g : Nat) (gs : Nat → Nat) (E : Nat → Nat → El q) (i : Nat) (w W : World) : Prop where
  fld : Fld q.p b wd W
  turned : Turned b w W
  out : W.rowIs g TIs n (fun r => if r < i then .slice (some ⟨gs r, 0, none⟩) m m else nilS)
  row : ∀ r, r < i → W.rowIs (gs r) TI m (i64s (ivs E r))
  glow : w.heap.size ≤ g
  low : ∀ r, r < i → w.heap.size ≤ gs r
theorem OfM.start {q : FP} {b wd n m : Nat} {E : Nat → Nat → El q} {w w1 : World} (hf : Fld q.p b wd w1) (hb : Below w.heap.size w w1) : OfM q b wd n m w1.heap.size (fun _ => 0) E 0 w (w1.alloc (.cells (madeCells #[nilS] n) TIs)) :=
  ⟨hf.of_below (below_alloc _ _), (Turned.of_below hb).trans (Turned.of_below (below_alloc _ _)), (World.rowIs_made w1 nilS n TIs).congr (fun r _ => by rw [if_neg (by omega)]), fun r hr => absurd hr (by omega), hb.size, fun r hr => absurd hr (by omega)⟩
theorem OfM.step {q : FP} {b wd n m g g' : Nat} {gs : Nat → Nat} {E : Nat → Nat → El q} {i : Nat} {w W W1 : World} (h : OfM q b wd n m g gs E i w W) (hb : b < w.heap.size) (hr : W1.rowIs g' TI m (i64s (ivs E i))) (hg : W.heap.size ≤ g') (hf : Fld q.p b wd W1) (ht : Turned b W W1) :
    OfM q b wd n m g (fun r => if r = i then g' else gs r) E (i + 1) w (W1.setCell ⟨g, i, none⟩ (.slice (some ⟨g', 0, none⟩) m m)) := by
  have hgl := h.out.lt
  have hgw := h.glow
  have ho := ht.row h.out (by omega)
  have hsz := h.turned.size
  refine ⟨hf.setRow ho (by decide) (by decide) _, (h.turned.trans ht).set_new h.glow _, (ho.set i _).congr (fun r _ => ?_), fun r hr' => ?_, h.glow, fun r hr' => ?_⟩
  · rcases Nat.lt_trichotomy r i with e | e | e
    · rw [if_neg (by omega), if_pos e, if_pos (by omega), if_neg (by omega)]
    · rw [if_pos e, if_pos (by omega), if_pos e]
    · rw [if_neg (by omega), if_neg (by omega), if_neg (by omega)]
  · by_cases e : r = i
    · simp only [if_pos e]
      rw [e]
      exact hr.setOther (a := ⟨g, i, none⟩) (by simp; omega) _
    · simp only [if_neg e]
      have h1 := h.row r (by omega)
      have h2 := h.low r (by omega)
      have h3 := ht.row h1 (by omega)
      refine h3.setOther (a := ⟨g, i, none⟩) (fun e' => ?_) _
      rw [show gs r = g from e'] at h3
      exact absurd (rowIs_kind h3 ho) (by decide)
  · by_cases e : r = i
    · simp only [if_pos e]; omega
    · simp only [if_neg e]; exact h.low r (by omega)
theorem OfM.told {q : FP} {b wd n m g : Nat} {gs : Nat → Nat} {E : Nat → Nat → El q} {w W : World} (h : OfM q b wd n m g gs E n w W) (hb : b < w.heap.size) : Mx b W (ivs E) (fun _ => m) (some ⟨g, 0, none⟩) n :=
  ⟨fun r => some ⟨gs r, 0, none⟩, fun _ => m, (Rd.of_row h.out (by have := h.glow; omega) (Nat.le_refl _)).congr (fun r hr => by rw [if_pos hr]), fun r hr => Rd.of_row (h.row r hr) (by have := h.low r hr; omega) (Nat.le_refl _)⟩
def OfAt (q : FP) (b wd n m g : Nat) (E : Nat → Nat → El q) (w : World) (s35 : Value) (W : World) : Prop := ∃ i : Nat, i ≤ n ∧ s35 = .int .i64 i ∧ ∃ gs, OfM q b wd n m g gs E i w W

/-- the rows of inverses of two lists of numbers -/
def ofE (q : FP) (lx ly : Nat → Int) : Nat → Nat → El q := cauE (fun i => toEl q (lx i)) (fun j => toEl q (ly j))
/-- what Of tells -/
def OfAny (q : FP) (b wd n m : Nat) (lx ly : Nat → Int) (w : World) (e : Ending) (w' : World) : Prop :=
  ∃ t A c, e = .returned (.tuple #[.slice A (cond t n 0) c, .int .i64 (errOf t)]) ∧ (t = true ↔ ofP (M.ord q.p) n m lx ly) ∧ cond t n 0 ≤ c ∧ Mx b w' (ivs (ofE q lx ly)) (fun _ => m) A (cond t n 0) ∧ Fld q.p b wd w' ∧ Turned b w w'
theorem OfAny.no {q : FP} {b wd n m : Nat} {lx ly : Nat → Int} {w w' : World} (h : ¬ ofP (M.ord q.p) n m lx ly) (hf : Fld q.p b wd w') (ht : Turned b w w') : OfAny q b wd n m lx ly w (.returned (.tuple #[nilS, .int .i64 1])) w' :=
  ⟨false, none, 0, rfl, by simp [h], Nat.le_refl _, Mx.zero, hf, ht⟩

set_option maxRecDepth 100000 in
set_option maxHeartbeats 2000000 in
theorem of_any (q : FP) (b wd n m : Nat) (lx ly : Nat → Int) (A B : Option Addr) (ca cb : Nat) (hlx : ∀ i, i < n → -9223372036854775808 ≤ lx i ∧ lx i ≤ 9223372036854775807) (hly : ∀ i, i < m → -9223372036854775808 ≤ ly i ∧ ly i ≤ 9223372036854775807)
    (w : World) (hf : Fld q.p b wd w) (hra : Rd b w (i64s lx) A n) (hrb : Rd b w (i64s ly) B m) :
    Calls Tryz.prog 14 #[.pointer (some ⟨b, 0, none⟩), .slice A n ca, .slice B m cb] w (OfAny q b wd n m lx ly w) := by
  have hkd := hf.1.kind
  have hbl := hf.lt
  have HF := Lib.hid hf
  have HA := Lib.hid hra
  have HB := Lib.hid hrb
  have HLX := Lib.hid hlx
  have HLY := Lib.hid hly
  clear hf hra hrb hlx hly
  go_enter Tryz.func14, Tryz.ntmps14
  go_wp2_with fail
  refine (cside22 n _).mono ?_
  rintro e w' ⟨t, rfl, ht, rfl⟩
  cases t
  · have HE := Lib.hid (OfAny.no (w := w) (n := n) (m := m) (lx := lx) (ly := ly) (fun h => by have h1 := h.1.1; have h2 := h.1.2; have := ht.2 ⟨by omega, by omega⟩; cases this) HF.out (Turned.refl _ _))
    clear ht
    go_wp2_with fail
    go_ret2
    exact HE.out
  have hn1 := (ht.1 rfl).1
  have hn2 := (ht.1 rfl).2
  clear ht
  go_wp2_with fail
  refine (cside22 m _).mono ?_
  rintro e w' ⟨t, rfl, ht, rfl⟩
  cases t
  · have HE := Lib.hid (OfAny.no (w := w) (n := n) (m := m) (lx := lx) (ly := ly) (fun h => by have h1 := h.2.1.1; have h2 := h.2.1.2; have := ht.2 ⟨by omega, by omega⟩; cases this) HF.out (Turned.refl _ _))
    clear ht
    go_wp2_with fail
    go_ret2
    exact HE.out
  have hm1 := (ht.1 rfl).1
  have hm2 := (ht.1 rfl).2
  clear ht
  have hrow := World.rowIs_alloc w #[.slice A n ca, .slice B m cb] TIs (slis (fun s => if s = 0 then A else B) (fun s => if s = 0 then n else m) (fun s => if s = 0 then ca else cb)) (fun s hs => by
    simp at hs
    match s, hs with
    | 0, _ => rfl
    | 1, _ => rfl)
  have hba := below_alloc w (.cells #[.slice A n ca, .slice B m cb] TIs)
  have HBA := Lib.hid hba
  have HRD := Lib.hid (Rd.of_row (b := b) (n := 2) hrow (by omega) (by simp))
  have HRR := Lib.hid (show ∀ s, s < 2 → Rd b (w.alloc (.cells #[.slice A n ca, .slice B m cb] TIs)) (i64s (fun x => if s = 0 then lx x else ly x)) (if s = 0 then A else B) (if s = 0 then n else m) from fun s hs => by
    match s, hs with
    | 0, _ => exact HA.out.below hba
    | 1, _ => exact HB.out.below hba)
  have HNN := Lib.hid (show ∀ s, s < 2 → (if s = 0 then A else B) = none → (if s = 0 then ca else cb) = 0 from fun s hs h => by
    match s, hs with
    | 0, _ =>
      obtain ⟨_, e, _⟩ := HA.out (by omega)
      rw [if_pos rfl, e] at h
      cases h
    | 1, _ =>
      obtain ⟨_, e, _⟩ := HB.out (by omega)
      rw [if_neg (by omega), e] at h
      cases h)
  clear hrow hba
  obtain ⟨w1, hw1⟩ : ∃ w1, w.alloc (.cells #[.slice A n ca, .slice B m cb] TIs) = w1 := ⟨_, rfl⟩
  go_wp2_with fail
  rw [hw1] at HBA HRD HRR
  clear hw1
  refine (concat35 b (fun s x => if s = 0 then lx x else ly x) (fun s => if s = 0 then A else B) (fun s => if s = 0 then n else m) (fun s => if s = 0 then ca else cb) _ 2 2 (by omega) (fun s _ => by split <;> omega) (by simp [catN]; omega) w1 HRD.out HRR.out HNN.out).mono ?_
  rintro e w2 ⟨v, rfl, hown, hb2⟩
  rw [show catN (fun s => if s = 0 then n else m) 2 = n + m by simp [catN]] at hown
  obtain ⟨g', cap, T, rfl, hg', hcap, hT, hTv⟩ := own_row hown (by omega)
  have HB2 := Lib.hid (below_tr HBA.out hb2)
  have HC := Lib.hid (show Rd b w2 (i64s (catL n lx ly)) (some ⟨g', 0, none⟩) (n + m) from (Rd.of_row hT (by have := HBA.out.size; omega) hcap).congr (fun j hj => hTv j _ (cat_ints j hj)))
  have HF2 := Lib.hid (HF.out.of_below HB2.out)
  obtain ⟨N, hN⟩ : ∃ N, n + m = N := ⟨_, rfl⟩
  have HNm := Lib.hid hN
  have hNle : N ≤ 40 := by omega
  have HAP := Lib.hid (apart23 b wd _ hkd (catL n lx ly) (some ⟨g', 0, none⟩) N cap (by omega) (fun i hi => by
    unfold catL
    split
    · exact HLX.out i (by omega)
    · exact HLY.out (i - n) (by omega)) w2 HF2.out.c0 (by rw [← hN]; exact HC.out))
  rw [hN]
  clear hown hb2 hT hTv HRD HRR HNN HBA hN HC
  go_wp2_with fail
  refine HAP.out.mono ?_
  rintro e w3 ⟨t, rfl, ht, hb3⟩
  have HB3 := Lib.hid (below_tr HB2.out hb3)
  have HF3 := Lib.hid (HF2.out.of_below hb3)
  cases t
  · have HE := Lib.hid (OfAny.no (w := w) (n := n) (m := m) (lx := lx) (ly := ly) (fun h => by have h1 := h.2.2; rw [HNm.out] at h1; have := ht.2 h1; cases this) HF3.out (Turned.of_below HB3.out))
    clear ht hb3 HAP
    go_wp2_with fail
    go_ret2
    exact HE.out
  have hP : ofP (M.ord q.p) n m lx ly := ⟨⟨by omega, by omega⟩, ⟨by omega, by omega⟩, by rw [HNm.out]; exact ht.1 rfl⟩
  have HP := Lib.hid hP
  have HX := Lib.hid (show Rd b w (i64s (fun i => ((toEl q (lx i)).val : Int))) A n from HA.out.congr (fun i hi => by simp only [i64s]; rw [toEl_val (hP.x hi)]))
  have HY := Lib.hid (show Rd b w (i64s (fun i => ((toEl q (ly i)).val : Int))) B m from HB.out.congr (fun i hi => by simp only [i64s]; rw [toEl_val (hP.y hi)]))
  have HNE := Lib.hid (show ∀ i, i < n → ∀ j, j < m → toEl q (lx i) ≠ toEl q (ly j) from fun i hi j hj e => hP.xy i j hi hj (toEl_inj (hP.x hi) (hP.y hj) e))
  have hmk := run_make_row' (P := Tryz.prog) TM TIs nilS 24 underM' infoRow rfl .i64 .i64 n (by omega) (by omega)
  have HS := Lib.hid (OfM.start (m := m) (n := n) (E := ofE q lx ly) HF3.out HB3.out)
  have hsz3 := HB3.out.size
  clear ht hb3 HAP hP
  go_wp2_with fail
  go_loopw [35] (fun s35 wr => OfAt q b wd n m w3.heap.size (ofE q lx ly) w s35 wr) (fun s35 _ => n - (intOf s35).toNat)
  case atStart => exact ⟨0, Nat.zero_le _, rfl, _, HS.out⟩
  case round =>
    clear HS
    obtain ⟨i, hi, rfl, gs, hM⟩ := hrel
    have HM := Lib.hid hM
    clear hM
    by_cases hlt : i < n
    · obtain ⟨ad, rfl, hcell⟩ := (HX.out.turned HM.out.turned).at_ hlt
      simp only [i64s] at hcell
      go_wp2_with fail
      refine (inverses25 q b wd m (toEl q (lx i)) (fun j => toEl q (ly j)) B cb (by omega) (fun j hj => HNE.out i hlt j hj) _ HM.out.fld (HY.out.turned HM.out.turned)).mono ?_
      rintro e w4 ⟨g4, rfl, hr4, hg4, hf4, ht4⟩
      have HS := Lib.hid (HM.out.step hbl (hr4.congr (fun j _ => rfl)) hg4 hf4 ht4)
      have ho := ht4.row HM.out.out (by omega)
      have c1 := ho.cell hlt
      have f1 := ho.frozen i
      rw [if_neg (by omega)] at c1
      clear ho hr4 hg4 hf4 ht4 HM
      go_wp2_with fail
      exact ⟨⟨i + 1, hlt, by go_num, _, HS.out⟩, by simp [intOf]; omega⟩
    · obtain rfl : i = n := by omega
      have HE := Lib.hid (show OfAny q b wd i m lx ly w (.returned (.tuple #[.slice (some ⟨w3.heap.size, 0, none⟩) i i, .int .i64 0])) wr from ⟨true, _, _, rfl, by simp [HP.out], Nat.le_refl _, HM.out.told hbl, HM.out.fld, HM.out.turned⟩)
      clear HM
      go_wp2_with fail
      go_ret2
      exact HE.out
end Go.Proofs.YtgcochamjicjiaaGreat
