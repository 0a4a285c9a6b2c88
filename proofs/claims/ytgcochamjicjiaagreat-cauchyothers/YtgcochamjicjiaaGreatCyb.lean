/- The contracts of package cauchy: isSide, mayCode, from, areApart. -/
import Derived.Test.YtgcochamjicjiaaGreatCya
import Derived.Maps.OwnOps
import Derived.Maps.OwnSet
import Derived.Maps.Views
namespace Go.Proofs.YtgcochamjicjiaaGreat
open Go.RowKit

set_option maxRecDepth 100000 in
theorem cside22 (n : Int) (w : World) : Calls Tryz.prog 39 #[.int .i64 n] w (SaidB (sideI n) w) := by
  by_cases h1 : 1 ≤ n
  · by_cases h2 : n ≤ 20
    · have HE := Lib.hid (SaidB.yes (w := w) (show sideI n from ⟨h1, h2⟩))
      have hd1 : decide (1 ≤ n) = true := by simp; omega
      have hd : decide (n ≤ 20) = true := by simp; omega
      go_enter Tryz.func39, Tryz.ntmps39
      go_wp2_with fail
      go_ret
      exact HE.out
    · have HE := Lib.hid (SaidB.no (w := w) (show ¬ sideI n from fun h => h2 h.2))
      have hd1 : decide (1 ≤ n) = true := by simp; omega
      have hd : decide (n ≤ 20) = false := by simp; omega
      go_enter Tryz.func39, Tryz.ntmps39
      go_wp2_with fail
      go_ret
      exact HE.out
  · have HE := Lib.hid (SaidB.no (w := w) (show ¬ sideI n from fun h => h1 h.1))
    have hd : decide (1 ≤ n) = false := by simp; omega
    go_enter Tryz.func39, Tryz.ntmps39
    go_wp2_with fail
    go_ret
    exact HE.out

set_option maxRecDepth 100000 in
set_option maxHeartbeats 1000000 in
theorem ccode28 (k m : Int) (hb : k ≤ 9223372036854775807) (w : World) :
    Calls Tryz.prog 29 #[.int .i64 k, .int .i64 m] w (SaidB (fitsI k m) w) := by
  by_cases h1 : 1 ≤ k
  · have d1 : decide (1 ≤ k) = true := by simp; omega
    by_cases h2 : 1 ≤ m
    · have d2 : decide (1 ≤ m) = true := by simp; omega
      by_cases h3 : m ≤ 20 - k
      · have d3 : decide (m ≤ 20 - k) = true := by simp; omega
        have HE := Lib.hid (SaidB.yes (w := w) (show fitsI k m from ⟨⟨h1, by omega⟩, ⟨h2, by omega⟩, by omega⟩))
        go_enter Tryz.func29, Tryz.ntmps29
        go_wp2_with fail
        go_ret
        exact HE.out
      · have d3 : decide (m ≤ 20 - k) = false := by simp; omega
        have HE := Lib.hid (SaidB.no (w := w) (show ¬ fitsI k m from fun h => by have := h.2.2; omega))
        go_enter Tryz.func29, Tryz.ntmps29
        go_wp2_with fail
        go_ret
        exact HE.out
    · have d2 : decide (1 ≤ m) = false := by simp; omega
      have HE := Lib.hid (SaidB.no (w := w) (show ¬ fitsI k m from fun h => h2 h.2.1.1))
      go_enter Tryz.func29, Tryz.ntmps29
      go_wp2_with fail
      go_ret
      exact HE.out
  · have d1 : decide (1 ≤ k) = false := by simp; omega
    have HE := Lib.hid (SaidB.no (w := w) (show ¬ fitsI k m from fun h => h1 h.1.1))
    go_enter Tryz.func29, Tryz.ntmps29
    go_wp2_with fail
    go_ret
    exact HE.out

/-- numbers from a on -/
def frm (a : Nat) (j : Nat) : Int := ((a + j : Nat) : Int)
def FrmAt (a n : Nat) (w : World) (s11 : Value) (W : World) : Prop :=
  ∃ j : Nat, j ≤ n ∧ s11 = .int .i64 j ∧ W.rowIs w.heap.size TI n (fun x => .int .i64 (if x < j then frm a x else 0)) ∧ Below w.heap.size w W
theorem frmAt_step {a n j : Nat} {w W : World} (hj : j < n) (h1 : W.rowIs w.heap.size TI n (fun x => .int .i64 (if x < j then frm a x else 0))) (hb : Below w.heap.size w W) :
    FrmAt a n w (.int .i64 ((j + 1 : Nat) : Int)) (W.setCell ⟨w.heap.size, j, none⟩ (.int .i64 (frm a j))) := by
  refine ⟨j + 1, hj, rfl, (h1.set j _).congr (fun x _ => ?_), hb.setCell (p := ⟨w.heap.size, j, none⟩) (Nat.le_refl _) _⟩
  rcases Nat.lt_trichotomy x j with e | e | e
  · rw [if_neg (by omega), if_pos e, if_pos (by omega)]
  · rw [if_pos e, if_pos (by omega), e]
  · rw [if_neg (by omega), if_neg (by omega), if_neg (by omega)]
/-- a row of numbers that is made -/
def RowMade (n : Nat) (l : Nat → Int) (w : World) (e : Ending) (w' : World) : Prop :=
  e = .returned (.slice (some ⟨w.heap.size, 0, none⟩) n n) ∧ w'.rowIs w.heap.size TI n (i64s l) ∧ Below w.heap.size w w'

set_option maxRecDepth 100000 in
set_option maxHeartbeats 1000000 in
theorem from29 (a n : Nat) (ha : a ≤ 1000) (hn : n ≤ 100) (w : World) :
    Calls Tryz.prog 30 #[.int .i64 a, .int .i64 n] w (RowMade n (frm a) w) := by
  have hmk := run_make_row' (P := Tryz.prog) TIs TI (.int .i64 0) 8 underI infoI rfl .i64 .i64 n (by omega) (by omega)
  have HS := Lib.hid (show FrmAt a n w (.int .i64 ((0 : Nat) : Int)) (w.alloc (.cells (madeCells #[.int .i64 0] n) TI)) from
    ⟨0, Nat.zero_le _, rfl, (World.rowIs_made w (.int .i64 0) n TI).congr (fun x _ => by rw [if_neg (by omega)]), below_alloc _ _⟩)
  go_enter Tryz.func30, Tryz.ntmps30
  go_wp2_with fail
  go_loopw [11] (fun s11 wr => FrmAt a n w s11 wr) (fun s11 _ => n - (intOf s11).toNat)
  case atStart => exact HS.out
  case round =>
    clear HS
    obtain ⟨j, hj, rfl, h1, h2⟩ := hrel
    have H1 := Lib.hid h1
    have H2 := Lib.hid h2
    clear h1 h2
    by_cases hlt : j < n
    · have HP := Lib.hid (frmAt_step hlt H1.out H2.out)
      have c1 := H1.out.cell hlt
      have f1 := H1.out.frozen j
      rw [if_neg (by omega)] at c1
      have HY := Lib.hid (show ((a : Int) + (j : Int)) = frm a j by unfold frm; omega)
      rw [← HY.out] at HP
      clear H1 H2 HY
      go_wp2_with fail
      exact ⟨HP.out, by simp [intOf]; omega⟩
    · obtain rfl : j = n := by omega
      have HE := Lib.hid (show RowMade j (frm a) w (.returned (.slice (some ⟨w.heap.size, 0, none⟩) j j)) wr from ⟨rfl, H1.out.congr (fun x hx => by rw [if_pos hx]), H2.out⟩)
      clear H1 H2
      go_wp2_with fail
      go_ret
      exact HE.out

/-- numbers of the field, none of them twice -/
def apartP (c : Nat) (l : Nat → Int) (n : Nat) : Prop := ∀ i, i < n → (0 ≤ l i ∧ l i ≤ c) ∧ ∀ k, k < i → l i ≠ l k
abbrev TMap : Nat := 107
theorem lawK : Go.Maps.Keyed Tryz.prog TI := Go.Maps.int_keyed Tryz.underlying3
theorem zeroK (w : World) : (zeroValue TI).run Tryz.prog w = .ok (.int .i64 0) w := by kernel_rfl
theorem underMap : Tryz.prog.underlying TMap = some (.map TI TI) := Tryz.underlying107
theorem run_makeMapN (n : Int) (w : World) : (Instr.makeMap TMap (some (.int .i64 n))).run Tryz.prog w = .ok (.map (some w.heap.size)) (w.alloc (.map #[] 0)) := by
  simp [Instr.makeMap, run_underlying underMap, asInt, asIntOf, Result.andThen]
/-- what the map says of the first k numbers -/
def Seen (l : Nat → Int) (k : Nat) (D : DataW Unit) : Prop := Go.Maps.IsMap D ∧ ∀ x : Int, D.atKey (.int .i64 x) (.lit (.int .i64 0)) = .lit (.int .i64 (if ∃ j, j < k ∧ l j = x then 1 else 0))
theorem Seen.start (l : Nat → Int) : Seen l 0 (.map []) := ⟨Go.Maps.isMap_empty, fun x => by
  rw [if_neg (fun ⟨j, hj, _⟩ => absurd hj (by omega))]
  rfl⟩
def ApAt (c : Nat) (l : Nat → Int) (n : Nat) (w : World) (s16 : Value) (W : World) : Prop :=
  ∃ k : Nat, k ≤ n ∧ s16 = .int .i64 k ∧ apartP c l k ∧ (∃ D, Seen l k D ∧ W.ownsMap Tryz.prog TI (plainElem Tryz.prog TI) w.heap.size k D) ∧ Below w.heap.size w W
/-- what areApart tells -/
def ApSaid (p : Prop) (w : World) (e : Ending) (w' : World) : Prop := ∃ t, e = .returned (.bool t) ∧ (t = true ↔ p) ∧ Below w.heap.size w w'
theorem ApSaid.no {p : Prop} {w w' : World} (h : ¬ p) (hb : Below w.heap.size w w') : ApSaid p w (.returned (.bool false)) w' := ⟨false, rfl, by simp [h], hb⟩
theorem ApSaid.yes {p : Prop} {w w' : World} (h : p) (hb : Below w.heap.size w w') : ApSaid p w (.returned (.bool true)) w' := ⟨true, rfl, by simp [h], hb⟩
theorem Seen.step {l : Nat → Int} {k : Nat} {D : DataW Unit} {x : Int} (h : Seen l k D) (hx : l k = x) : Seen l (k + 1) (D.put (.int .i64 x) (.lit (.int .i64 1))) := ⟨h.1.put _ _, fun y => by
  by_cases e : y = x
  · subst e
    rw [Go.Maps.atKey_put_same h.1 (k := .int .i64 y) trivial, if_pos ⟨k, by omega, hx⟩]
  · rw [Go.Maps.atKey_put_other (fun he => e (by injection he)), h.2 y]
    have : (∃ j, j < k ∧ l j = y) ↔ ∃ j, j < k + 1 ∧ l j = y := ⟨fun ⟨j, h1, h2⟩ => ⟨j, by omega, h2⟩, fun ⟨j, h1, h2⟩ => by
      by_cases ej : j = k
      · exact absurd (by rw [← h2, ej, hx]) e
      · exact ⟨j, by omega, h2⟩⟩
    simp only [this]⟩
theorem Seen.yes {l : Nat → Int} {k : Nat} {D : DataW Unit} {x c : Int} (h : Seen l k D) (hs : ∃ j, j < k ∧ l j = x) (he : D.atKey (.int .i64 x) (.lit (.int .i64 0)) = .lit (.int .i64 c)) : c = 1 := by
  rw [h.2 x, if_pos hs] at he
  injection he with he
  injection he with _ he
  exact he.symm
theorem Seen.no {l : Nat → Int} {k : Nat} {D : DataW Unit} {x c : Int} (h : Seen l k D) (hs : ¬ ∃ j, j < k ∧ l j = x) (he : D.atKey (.int .i64 x) (.lit (.int .i64 0)) = .lit (.int .i64 c)) : c = 0 := by
  rw [h.2 x, if_neg hs] at he
  injection he with he
  injection he with _ he
  exact he.symm
theorem put_at {D : DataW Unit} {x c v : Int} (h : Go.Maps.IsMap D) (he : (D.put (.int .i64 x) (.lit (.int .i64 v))).atKey (.int .i64 x) (.lit (.int .i64 0)) = .lit (.int .i64 c)) : c = v := by
  rw [Go.Maps.atKey_put_same h (k := .int .i64 x) trivial] at he
  injection he with he
  injection he with _ he
  exact he.symm
theorem apart_not {c : Nat} {l : Nat → Int} {n k : Nat} {x : Int} (hk : k < n) (hx : l k = x) (h : x < 0 ∨ (c : Int) < x ∨ ∃ j, j < k ∧ l j = x) : ¬ apartP c l n := fun hp => by
  have := hp k hk
  rw [hx] at this
  rcases h with h | h | ⟨j, h1, h2⟩
  · omega
  · omega
  · exact this.2 j h1 h2.symm
theorem apart_step {c : Nat} {l : Nat → Int} {k : Nat} {x : Int} (h : apartP c l k) (hx : l k = x) (h0 : 0 ≤ x ∧ x ≤ c) (hs : ¬ ∃ j, j < k ∧ l j = x) : apartP c l (k + 1) := fun i hi => by
  by_cases e : i = k
  · subst e
    rw [hx]
    exact ⟨h0, fun j hj he => hs ⟨j, hj, he.symm⟩⟩
  · exact h i (by omega)

set_option maxRecDepth 100000 in
set_option maxHeartbeats 2000000 in
theorem apart23 (b wd c : Nat) (hk : Kind wd c) (l : Nat → Int) (A : Option Addr) (n cap : Nat) (hn : n ≤ 1000) (hl : ∀ i, i < n → -9223372036854775808 ≤ l i ∧ l i ≤ 9223372036854775807) (w : World) (hc : w.cell? ⟨b, 0, none⟩ = some (.int .i64 wd)) (hr : Rd b w (i64s l) A n) :
    Calls Tryz.prog 40 #[.pointer (some ⟨b, 0, none⟩), .slice A n cap] w (ApSaid (apartP c l n) w) := by
  have hmm := run_makeMapN (n : Int)
  have hcb := hk.bounds
  have HR := Lib.hid hr
  have HL := Lib.hid hl
  have HS := Lib.hid (show ApAt c l n w (.int .i64 ((0 : Nat) : Int)) (w.alloc (.map #[] 0)) from ⟨0, Nat.zero_le _, rfl, (fun i hi => absurd hi (by omega)), ⟨_, Seen.start l, World.ownsMap_made _ _ _ _⟩, (Below.refl _ _).alloc (Nat.le_refl _) _⟩)
  clear hr hl
  go_enter Tryz.func40, Tryz.ntmps40
  go_wp2_with fail
  refine (size13 b wd c hk _ hc).mono ?_
  rintro e w' ⟨rfl, rfl⟩
  go_wp2_with fail
  go_loopw [16] (fun s16 wr => ApAt c l n w s16 wr) (fun s16 _ => n - (intOf s16).toNat)
  case atStart => exact HS.out
  case round =>
    clear HS
    obtain ⟨k, hk', rfl, hp, ⟨D, hD, hown⟩, hb⟩ := hrel
    have HP := Lib.hid hp
    have HD := Lib.hid hD
    have HB := Lib.hid hb
    by_cases hlt : k < n
    · obtain ⟨ad, rfl, hcell⟩ := (HR.out.below hb).at_ hlt
      simp only [i64s] at hcell
      obtain ⟨x, hx⟩ : ∃ x, l k = x := ⟨_, rfl⟩
      have hxb := HL.out k hlt
      rw [hx] at hcell hxb
      have HX := Lib.hid hx
      have hkey : keyOf Tryz.prog TI (.int .i64 x) = some (.int .i64 x) := Go.Maps.keyOf_int_mk Tryz.underlying3 (WalkArith.wf_i64 hxb)
      clear hp hD hb hx
      by_cases hs : ∃ j, j < k ∧ l j = x
      · have HN := Lib.hid (fun w' => ApSaid.no (w := w) (w' := w') (apart_not (c := c) hlt HX.out (Or.inr (Or.inr hs))))
        go_wp2_with (at_lookup; refine wpList_lookup_own_int _ rfl _ _ TMap rfl TI TI .i64 lawK underMap Tryz.underlying3 (zeroK _) w.heap.size k _ rfl hown _ _ rfl hkey ?_)
        intro c0 hat _
        obtain rfl : c0 = 1 := HD.out.yes hs hat
        clear hs hat
        go_wp2_with (at_mapUpdate; refine wpList_mapUpdate_own _ rfl _ _ _ TMap rfl TI TI lawK underMap _ w.heap.size k _ rfl hown (by unfold maxLen; omega) _ _ _ rfl rfl hkey _ [] (plainElem_int Tryz.underlying3 (by decide)) ?_)
        intro w1 hown1 hgrow1
        obtain ⟨c1, hrun1, hat1, _⟩ := hown1.lookup_int lawK underMap Tryz.underlying3 (zeroK _) hkey
        obtain rfl := put_at HD.out.1 hat1
        have HE := Lib.hid (HN.out w1 (HB.out.grown hgrow1 HB.out.size (fun j hj => by cases hj; exact Nat.le_refl _)))
        clear hat1 hown1 hgrow1 hown HN
        by_cases h0 : x < 0
        · go_wp2_with fail
          go_ret
          exact HE.out
        · by_cases h1 : (c : Int) + 1 ≤ x
          · go_wp2_with fail
            go_ret
            exact HE.out
          · go_wp2_with fail
            go_ret
            exact HE.out
      · go_wp2_with (at_lookup; refine wpList_lookup_own_int _ rfl _ _ TMap rfl TI TI .i64 lawK underMap Tryz.underlying3 (zeroK _) w.heap.size k _ rfl hown _ _ rfl hkey ?_)
        intro c0 hat _
        obtain rfl : c0 = 0 := HD.out.no hs hat
        have HSN := Lib.hid hs
        clear hs hat
        go_wp2_with (at_mapUpdate; refine wpList_mapUpdate_own _ rfl _ _ _ TMap rfl TI TI lawK underMap _ w.heap.size k _ rfl hown (by unfold maxLen; omega) _ _ _ rfl rfl hkey _ [] (plainElem_int Tryz.underlying3 (by decide)) ?_)
        intro w1 hown1 hgrow1
        obtain ⟨c1, hrun1, hat1, _⟩ := hown1.lookup_int lawK underMap Tryz.underlying3 (zeroK _) hkey
        obtain rfl := put_at HD.out.1 hat1
        have HB1 := Lib.hid (HB.out.grown hgrow1 HB.out.size (fun j hj => by cases hj; exact Nat.le_refl _))
        have HO1 := Lib.hid hown1
        clear hat1 hown1 hgrow1 hown
        by_cases h0 : x < 0
        · have HE := Lib.hid (ApSaid.no (apart_not (c := c) hlt HX.out (Or.inl h0)) HB1.out)
          go_wp2_with fail
          go_ret
          exact HE.out
        · by_cases h1 : (c : Int) + 1 ≤ x
          · have HE := Lib.hid (ApSaid.no (apart_not (c := c) hlt HX.out (Or.inr (Or.inl (by omega)))) HB1.out)
            go_wp2_with fail
            go_ret
            exact HE.out
          · have HE := Lib.hid (show ApAt c l n w (.int .i64 ((k + 1 : Nat) : Int)) w1 from ⟨k + 1, hlt, rfl, apart_step HP.out HX.out (by omega) HSN.out, ⟨_, HD.out.step HX.out, HO1.out⟩, HB1.out⟩)
            go_wp2_with fail
            exact ⟨by rw [show ((k : Nat) : Int) + 1 = ((k + 1 : Nat) : Int) by omega]; exact HE.out, by simp [intOf]; omega⟩
    · obtain rfl : k = n := by omega
      have HE := Lib.hid (ApSaid.yes (p := apartP c l k) HP.out HB.out)
      clear hp hD hb hown
      go_wp2_with fail
      go_ret
      exact HE.out

set_option maxRecDepth 100000 in
set_option maxHeartbeats 2000000 in
theorem apart_nil (b : Nat) (l : Nat → Int) (A : Option Addr) (n cap : Nat) (h0 : 0 < n) (hn : n ≤ 1000) (hl : ∀ i, i < n → -9223372036854775808 ≤ l i ∧ l i ≤ 9223372036854775807) (w : World) (hr : Rd b w (i64s l) A n) :
    Calls Tryz.prog 40 #[.pointer none, .slice A n cap] w fun e w' => e = .returned (.bool false) ∧ Below w.heap.size w w' := by
  have hmm := run_makeMapN (n : Int)
  obtain ⟨ad, rfl, hcell⟩ := (hr.below (below_alloc w (.map #[] 0))).at_ h0
  rw [show ad.add 0 = ad by simp [Addr.add]] at hcell
  simp only [i64s] at hcell
  have hxb := hl 0 h0
  obtain ⟨x, hx⟩ : ∃ x, l 0 = x := ⟨_, rfl⟩
  rw [hx] at hcell hxb
  have hkey : keyOf Tryz.prog TI (.int .i64 x) = some (.int .i64 x) := Go.Maps.keyOf_int_mk Tryz.underlying3 (WalkArith.wf_i64 hxb)
  have hown := World.ownsMap_made (H := Unit) w Tryz.prog TI (plainElem Tryz.prog TI)
  have HB := Lib.hid (below_alloc w (.map #[] 0))
  have hn0 : (0 : Int) < (n : Int) := by omega
  clear hr hl hx
  go_enter Tryz.func40, Tryz.ntmps40
  go_wp2_with fail
  refine (size_nil _).mono ?_
  rintro e w' ⟨rfl, rfl⟩
  go_wp2_with fail
  refine wp_loop_rounds 1 ?_
  rw [rounds_succ]
  go_wp2_with (at_lookup; refine wpList_lookup_own_int _ rfl _ _ TMap rfl TI TI .i64 lawK underMap Tryz.underlying3 (zeroK _) w.heap.size 0 _ rfl hown _ _ rfl hkey ?_)
  intro c0 hat hwc
  go_wp2_with (at_mapUpdate; refine wpList_mapUpdate_own _ rfl _ _ _ TMap rfl TI TI lawK underMap _ w.heap.size 0 _ rfl hown (by unfold maxLen; omega) _ _ _ rfl rfl hkey _ [] (plainElem_int Tryz.underlying3 (by first | exact wrap64_wf _ | go_wf)) ?_)
  intro w1 hown1 hgrow1
  have HE := Lib.hid (HB.out.grown hgrow1 HB.out.size (fun j hj => by cases hj; exact Nat.le_refl _))
  clear hown1 hgrow1 hown hat hwc
  by_cases h1 : x < 0
  · go_wp2_with fail
    go_ret
    exact ⟨rfl, HE.out⟩
  · have h2 : (0 : Int) ≤ x := by omega
    go_wp2_with fail
    go_ret
    exact ⟨rfl, HE.out⟩
end Go.Proofs.YtgcochamjicjiaaGreat
