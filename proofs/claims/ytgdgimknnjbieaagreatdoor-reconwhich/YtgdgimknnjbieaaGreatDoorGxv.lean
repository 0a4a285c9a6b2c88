/- Layer 9: the table of formats, as it lies in memory; Of, of any number. Layer 9: May, Field, All and Tagged, and the document's May and Tagged. Layer 9: the document's Some. Layer 9: structs in boxes; the table's rows, written out. Layer 9: what came in, as it is read: three bytes by value, params by value. -/
import Derived.Test.YtgdgimknnjbieaaGreatDoorBsa
import Derived.Laws.Rows
import Derived.Test.YtgdgimknnjbieaaGreatDoorArr
import Derived.Laws.IdiomArrays
import Derived.Deep.Strs
import Derived.OpenShut

namespace Go.Proofs.YtgdgimknnjbieaaGreatDoor
open Go.RowKit

/-- the tags -/
def tagS (p : Nat) : ByteArray := match p with
  | 1 => ⟨#[106, 118]⟩
  | 2 => ⟨#[106, 99]⟩
  | 3 => ⟨#[105, 114]⟩
  | 4 => ⟨#[105, 99]⟩
  | 5 => ⟨#[98, 98]⟩
  | 6 => ⟨#[107, 112]⟩
  | _ => ⟨#[]⟩
def tagI (p : Int) : ByteArray := tagS p.toNat
def bitsI (p : Int) : Int := if p = 2 then 16 else if 1 ≤ p ∧ p ≤ 6 then 8 else 0
def polyI (p : Int) : Int := if p = 2 then 69643 else if 1 ≤ p ∧ p ≤ 6 then 285 else 0
def layI (p : Int) : Int := if p = 1 ∨ p = 2 then 106 else if p = 3 ∨ p = 4 then 105 else if p = 5 then 98 else if p = 6 then 112 else 0
def maxI (p : Int) : Int := if p = 3 then 3 else if 1 ≤ p ∧ p ≤ 6 then 4 else 0
def isI (p : Int) : Bool := decide (1 ≤ p ∧ p ≤ 6)
/-- a row of the table -/
abbrev rowA (p : Int) : Array Value := #[.string (tagI p), .int .i64 (bitsI p), .int .u32 (polyI p), .int .u8 (layI p), .int .i64 (maxI p)]
/-- the table's cells -/
def tabC : Array Value := rowA 1 ++ rowA 2 ++ rowA 3 ++ rowA 4 ++ rowA 5 ++ rowA 6
abbrev TPr : Nat := 98
/-- the package's table is there -/
def Tab (w : World) : Prop := ∃ t fr, w.heap[0]? = some (.cells tabC t fr)
theorem Tab.below {w w' : World} (h : Tab w) (hb : Below w.heap.size w w') : Tab w' := by
  obtain ⟨t, fr, h⟩ := h
  exact ⟨t, fr, (hb.block 0 (by rcases Nat.lt_or_ge 0 w.heap.size with hl | hl; exact hl; rw [Array.getElem?_eq_none hl] at h; cases h)).trans h⟩
theorem Tab.lt {w : World} (h : Tab w) : 0 < w.heap.size := by
  obtain ⟨t, fr, h⟩ := h
  rcases Nat.lt_or_ge 0 w.heap.size with hl | hl
  · exact hl
  · rw [Array.getElem?_eq_none hl] at h; cases h
theorem Tab.drew {w : World} (h : Tab w) : Tab w.drew := h
theorem Tab.cell {w : World} (h : Tab w) (i : Nat) : w.cell? ⟨0, i, none⟩ = tabC[i]? := by
  obtain ⟨t, fr, h⟩ := h
  simp [World.cell?, h]

theorem results_row_tmp {P : Program} {fn : Func} {p u : Tmp} {ty : TypeId} (h : fn.results = #[.cell p ty, .tmp u]) (tmps : Array Value) (w : World) (g : Nat) (t : TypeId) (cs : Array Value) (fr : Nat × Nat) (d : TypeDesc)
    (hp : tmps.getD p undef = .pointer (some ⟨g, 0, none⟩)) (hg : w.heap[g]? = some (.cells cs t fr))
    (hu : P.underlying ty = some d) (hd : (match d with | .struct _ | .array _ _ => true | _ => false) = true) (hi : (P.info? ty).map (·.size) = some cs.size) :
    (results fn tmps).run P w = .ok (.tuple #[.agg cs, tmps.getD u undef]) w := by
  have hp' : tmps[p]?.getD undef = .pointer (some ⟨g, 0, none⟩) := by simpa using hp
  simp [results, h, hp', asAddr, run_loadVar_row w g t ty cs fr d hg hu hd hi]

/-- what Of tells -/
def OfSaid (p : Int) (w : World) (e : Ending) (w' : World) : Prop :=
  e = .returned (.tuple #[.agg (rowA p), .bool (isI p)]) ∧ Below w.heap.size w w'

theorem tab_cell {w : World} (hT : Tab w) (o : Obj) (i : Nat) {v : Value} (h : tabC[i]? = some v) : (w.alloc o).cell? ⟨0, i, none⟩ = some v :=
  ((hT.below ((Below.refl _ w).alloc (Nat.le_refl _) o)).cell i).trans h

abbrev TRw : Nat := 68

theorem size5 (a b c d e : Value) : (Tryz.prog.info? TPr).map (·.size) = some #[a, b, c, d, e].size := by kernel_rfl

theorem size5r (a b c d e : Value) : (Tryz.prog.info? TRw).map (·.size) = some #[a, b, c, d, e].size := by kernel_rfl

abbrev zeroR : Array Value := #[.string ⟨#[]⟩, .int .i64 0, .int .u32 0, .int .u8 0, .int .i64 0]
theorem row_out {p : Int} (hp : ¬ (1 ≤ p ∧ p ≤ 6)) : rowA p = zeroR ∧ isI p = false := by
  have h0 : tagI p = ⟨#[]⟩ := by
    unfold tagI
    by_cases h : p < 1
    · rw [show p.toNat = 0 by omega]; rfl
    · obtain ⟨n, hn⟩ : ∃ n, p.toNat = n + 7 := ⟨p.toNat - 7, by omega⟩
      rw [hn]; rfl
  refine ⟨?_, by simp [isI]; omega⟩
  unfold rowA bitsI polyI layI maxI
  rw [h0, if_neg (by omega), if_neg (by omega), if_neg (by omega), if_neg (by omega), if_neg (by omega), if_neg (by omega), if_neg (by omega), if_neg (by omega), if_neg (by omega), if_neg (by omega)]

set_option maxRecDepth 100000 in
theorem of_out (p : Int) (hp : ¬ (1 ≤ p ∧ p ≤ 6)) (w : World) :
    Calls Tryz.prog 60 #[.int .i64 p] w (OfSaid p w) := by
  have HE := Lib.hid (show OfSaid p w (.returned (.tuple #[.agg zeroR, .bool false])) (w.alloc (.cells zeroR TPr)) from ⟨by rw [(row_out hp).1, (row_out hp).2], (Below.refl _ w).alloc (Nat.le_refl _) _⟩)
  by_cases h1 : p < 1
  · go_enter Tryz.func60, Tryz.ntmps60
    go_wp2_with fail
    refine bodyPost_ret (results_row_tmp rfl _ _ w.heap.size TPr _ (0, 0) _ rfl (World.alloc_heap_new w _) Tryz.underlying98 rfl (size5 _ _ _ _ _)) rfl ?_
    exact HE.out
  · have h2 : 6 < p := by omega
    go_enter Tryz.func60, Tryz.ntmps60
    go_wp2_with fail
    refine bodyPost_ret (results_row_tmp rfl _ _ w.heap.size TPr _ (0, 0) _ rfl (World.alloc_heap_new w _) Tryz.underlying98 rfl (size5 _ _ _ _ _)) rfl ?_
    exact HE.out

set_option maxRecDepth 100000 in
theorem of_1 (w : World) (hT : Tab w) : Calls Tryz.prog 60 #[.int .i64 1] w (OfSaid 1 w) := by
  have c0 := tab_cell hT (.cells zeroR TPr) 0 (v := .string ⟨#[106, 118]⟩) rfl
  have c1 := tab_cell hT (.cells zeroR TPr) 1 (v := .int .i64 8) rfl
  have c2 := tab_cell hT (.cells zeroR TPr) 2 (v := .int .u32 285) rfl
  have c3 := tab_cell hT (.cells zeroR TPr) 3 (v := .int .u8 106) rfl
  have c4 := tab_cell hT (.cells zeroR TPr) 4 (v := .int .i64 4) rfl
  clear hT
  go_enter Tryz.func60, Tryz.ntmps60
  go_wp2_with fail
  refine bodyPost_ret (results_row_tmp rfl _ _ w.heap.size TPr _ (0, 0) _ rfl (World.alloc_heap_new w _) Tryz.underlying98 rfl (size5 _ _ _ _ _)) rfl ?_
  exact ⟨rfl, (Below.refl _ w).alloc (Nat.le_refl _) _⟩

set_option maxRecDepth 100000 in
theorem of_2 (w : World) (hT : Tab w) : Calls Tryz.prog 60 #[.int .i64 2] w (OfSaid 2 w) := by
  have c0 := tab_cell hT (.cells zeroR TPr) 5 (v := .string ⟨#[106, 99]⟩) rfl
  have c1 := tab_cell hT (.cells zeroR TPr) 6 (v := .int .i64 16) rfl
  have c2 := tab_cell hT (.cells zeroR TPr) 7 (v := .int .u32 69643) rfl
  have c3 := tab_cell hT (.cells zeroR TPr) 8 (v := .int .u8 106) rfl
  have c4 := tab_cell hT (.cells zeroR TPr) 9 (v := .int .i64 4) rfl
  clear hT
  go_enter Tryz.func60, Tryz.ntmps60
  go_wp2_with fail
  refine bodyPost_ret (results_row_tmp rfl _ _ w.heap.size TPr _ (0, 0) _ rfl (World.alloc_heap_new w _) Tryz.underlying98 rfl (size5 _ _ _ _ _)) rfl ?_
  exact ⟨rfl, (Below.refl _ w).alloc (Nat.le_refl _) _⟩

set_option maxRecDepth 100000 in
theorem of_3 (w : World) (hT : Tab w) : Calls Tryz.prog 60 #[.int .i64 3] w (OfSaid 3 w) := by
  have c0 := tab_cell hT (.cells zeroR TPr) 10 (v := .string ⟨#[105, 114]⟩) rfl
  have c1 := tab_cell hT (.cells zeroR TPr) 11 (v := .int .i64 8) rfl
  have c2 := tab_cell hT (.cells zeroR TPr) 12 (v := .int .u32 285) rfl
  have c3 := tab_cell hT (.cells zeroR TPr) 13 (v := .int .u8 105) rfl
  have c4 := tab_cell hT (.cells zeroR TPr) 14 (v := .int .i64 3) rfl
  clear hT
  go_enter Tryz.func60, Tryz.ntmps60
  go_wp2_with fail
  refine bodyPost_ret (results_row_tmp rfl _ _ w.heap.size TPr _ (0, 0) _ rfl (World.alloc_heap_new w _) Tryz.underlying98 rfl (size5 _ _ _ _ _)) rfl ?_
  exact ⟨rfl, (Below.refl _ w).alloc (Nat.le_refl _) _⟩

set_option maxRecDepth 100000 in
theorem of_4 (w : World) (hT : Tab w) : Calls Tryz.prog 60 #[.int .i64 4] w (OfSaid 4 w) := by
  have c0 := tab_cell hT (.cells zeroR TPr) 15 (v := .string ⟨#[105, 99]⟩) rfl
  have c1 := tab_cell hT (.cells zeroR TPr) 16 (v := .int .i64 8) rfl
  have c2 := tab_cell hT (.cells zeroR TPr) 17 (v := .int .u32 285) rfl
  have c3 := tab_cell hT (.cells zeroR TPr) 18 (v := .int .u8 105) rfl
  have c4 := tab_cell hT (.cells zeroR TPr) 19 (v := .int .i64 4) rfl
  clear hT
  go_enter Tryz.func60, Tryz.ntmps60
  go_wp2_with fail
  refine bodyPost_ret (results_row_tmp rfl _ _ w.heap.size TPr _ (0, 0) _ rfl (World.alloc_heap_new w _) Tryz.underlying98 rfl (size5 _ _ _ _ _)) rfl ?_
  exact ⟨rfl, (Below.refl _ w).alloc (Nat.le_refl _) _⟩

set_option maxRecDepth 100000 in
theorem of_5 (w : World) (hT : Tab w) : Calls Tryz.prog 60 #[.int .i64 5] w (OfSaid 5 w) := by
  have c0 := tab_cell hT (.cells zeroR TPr) 20 (v := .string ⟨#[98, 98]⟩) rfl
  have c1 := tab_cell hT (.cells zeroR TPr) 21 (v := .int .i64 8) rfl
  have c2 := tab_cell hT (.cells zeroR TPr) 22 (v := .int .u32 285) rfl
  have c3 := tab_cell hT (.cells zeroR TPr) 23 (v := .int .u8 98) rfl
  have c4 := tab_cell hT (.cells zeroR TPr) 24 (v := .int .i64 4) rfl
  clear hT
  go_enter Tryz.func60, Tryz.ntmps60
  go_wp2_with fail
  refine bodyPost_ret (results_row_tmp rfl _ _ w.heap.size TPr _ (0, 0) _ rfl (World.alloc_heap_new w _) Tryz.underlying98 rfl (size5 _ _ _ _ _)) rfl ?_
  exact ⟨rfl, (Below.refl _ w).alloc (Nat.le_refl _) _⟩

set_option maxRecDepth 100000 in
theorem of_6 (w : World) (hT : Tab w) : Calls Tryz.prog 60 #[.int .i64 6] w (OfSaid 6 w) := by
  have c0 := tab_cell hT (.cells zeroR TPr) 25 (v := .string ⟨#[107, 112]⟩) rfl
  have c1 := tab_cell hT (.cells zeroR TPr) 26 (v := .int .i64 8) rfl
  have c2 := tab_cell hT (.cells zeroR TPr) 27 (v := .int .u32 285) rfl
  have c3 := tab_cell hT (.cells zeroR TPr) 28 (v := .int .u8 112) rfl
  have c4 := tab_cell hT (.cells zeroR TPr) 29 (v := .int .i64 4) rfl
  clear hT
  go_enter Tryz.func60, Tryz.ntmps60
  go_wp2_with fail
  refine bodyPost_ret (results_row_tmp rfl _ _ w.heap.size TPr _ (0, 0) _ rfl (World.alloc_heap_new w _) Tryz.underlying98 rfl (size5 _ _ _ _ _)) rfl ?_
  exact ⟨rfl, (Below.refl _ w).alloc (Nat.le_refl _) _⟩

theorem of8 (p : Int) (w : World) (hT : Tab w) : Calls Tryz.prog 60 #[.int .i64 p] w (OfSaid p w) := by
  by_cases h : 1 ≤ p ∧ p ≤ 6
  · obtain rfl | rfl | rfl | rfl | rfl | rfl : p = 1 ∨ p = 2 ∨ p = 3 ∨ p = 4 ∨ p = 5 ∨ p = 6 := by omega
    · exact of_1 w hT
    · exact of_2 w hT
    · exact of_3 w hT
    · exact of_4 w hT
    · exact of_5 w hT
    · exact of_6 w hT
  · exact of_out p h w

set_option maxRecDepth 100000 in
theorem rof_out (p : Int) (hp : ¬ (1 ≤ p ∧ p ≤ 6)) (w : World) :
    Calls Tryz.prog 32 #[.int .i64 p] w (OfSaid p w) := by
  have HE := Lib.hid (show OfSaid p w (.returned (.tuple #[.agg zeroR, .bool false])) (w.alloc (.cells zeroR TRw)) from ⟨by rw [(row_out hp).1, (row_out hp).2], (Below.refl _ w).alloc (Nat.le_refl _) _⟩)
  have n1 : (p == 1) = false := by simp; omega
  have n2 : (p == 2) = false := by simp; omega
  have n3 : (p == 3) = false := by simp; omega
  have n4 : (p == 4) = false := by simp; omega
  have n5 : (p == 5) = false := by simp; omega
  have n6 : (p == 6) = false := by simp; omega
  go_enter Tryz.func32, Tryz.ntmps32
  go_wp2_with fail
  refine bodyPost_ret (results_row_tmp rfl _ _ w.heap.size TRw _ (0, 0) _ rfl (World.alloc_heap_new w _) Tryz.underlying68 rfl (size5r _ _ _ _ _)) rfl ?_
  exact HE.out

set_option maxRecDepth 100000 in
theorem rof_1 (w : World) : Calls Tryz.prog 32 #[.int .i64 1] w (OfSaid 1 w) := by
  go_enter Tryz.func32, Tryz.ntmps32
  go_wp2_with fail
  refine bodyPost_ret (results_row_tmp rfl _ _ w.heap.size TRw _ (0, 0) _ rfl (World.alloc_heap_new w _) Tryz.underlying68 rfl (size5r _ _ _ _ _)) rfl ?_
  exact ⟨rfl, (Below.refl _ w).alloc (Nat.le_refl _) _⟩

set_option maxRecDepth 100000 in
theorem rof_2 (w : World) : Calls Tryz.prog 32 #[.int .i64 2] w (OfSaid 2 w) := by
  go_enter Tryz.func32, Tryz.ntmps32
  go_wp2_with fail
  refine bodyPost_ret (results_row_tmp rfl _ _ w.heap.size TRw _ (0, 0) _ rfl (World.alloc_heap_new w _) Tryz.underlying68 rfl (size5r _ _ _ _ _)) rfl ?_
  exact ⟨rfl, (Below.refl _ w).alloc (Nat.le_refl _) _⟩

set_option maxRecDepth 100000 in
theorem rof_3 (w : World) : Calls Tryz.prog 32 #[.int .i64 3] w (OfSaid 3 w) := by
  go_enter Tryz.func32, Tryz.ntmps32
  go_wp2_with fail
  refine bodyPost_ret (results_row_tmp rfl _ _ w.heap.size TRw _ (0, 0) _ rfl (World.alloc_heap_new w _) Tryz.underlying68 rfl (size5r _ _ _ _ _)) rfl ?_
  exact ⟨rfl, (Below.refl _ w).alloc (Nat.le_refl _) _⟩

set_option maxRecDepth 100000 in
theorem rof_4 (w : World) : Calls Tryz.prog 32 #[.int .i64 4] w (OfSaid 4 w) := by
  go_enter Tryz.func32, Tryz.ntmps32
  go_wp2_with fail
  refine bodyPost_ret (results_row_tmp rfl _ _ w.heap.size TRw _ (0, 0) _ rfl (World.alloc_heap_new w _) Tryz.underlying68 rfl (size5r _ _ _ _ _)) rfl ?_
  exact ⟨rfl, (Below.refl _ w).alloc (Nat.le_refl _) _⟩

set_option maxRecDepth 100000 in
theorem rof_5 (w : World) : Calls Tryz.prog 32 #[.int .i64 5] w (OfSaid 5 w) := by
  go_enter Tryz.func32, Tryz.ntmps32
  go_wp2_with fail
  refine bodyPost_ret (results_row_tmp rfl _ _ w.heap.size TRw _ (0, 0) _ rfl (World.alloc_heap_new w _) Tryz.underlying68 rfl (size5r _ _ _ _ _)) rfl ?_
  exact ⟨rfl, (Below.refl _ w).alloc (Nat.le_refl _) _⟩

set_option maxRecDepth 100000 in
theorem rof_6 (w : World) : Calls Tryz.prog 32 #[.int .i64 6] w (OfSaid 6 w) := by
  go_enter Tryz.func32, Tryz.ntmps32
  go_wp2_with fail
  refine bodyPost_ret (results_row_tmp rfl _ _ w.heap.size TRw _ (0, 0) _ rfl (World.alloc_heap_new w _) Tryz.underlying68 rfl (size5r _ _ _ _ _)) rfl ?_
  exact ⟨rfl, (Below.refl _ w).alloc (Nat.le_refl _) _⟩

theorem rof9 (p : Int) (w : World) : Calls Tryz.prog 32 #[.int .i64 p] w (OfSaid p w) := by
  by_cases h : 1 ≤ p ∧ p ≤ 6
  · obtain rfl | rfl | rfl | rfl | rfl | rfl : p = 1 ∨ p = 2 ∨ p = 3 ∨ p = 4 ∨ p = 5 ∨ p = 6 := by omega
    · exact rof_1 w
    · exact rof_2 w
    · exact rof_3 w
    · exact rof_4 w
    · exact rof_5 w
    · exact rof_6 w
  · exact rof_out p h w
end Go.Proofs.YtgdgimknnjbieaaGreatDoor

namespace Go.Proofs.YtgdgimknnjbieaaGreatDoor
open Go.RowKit

/-- params, by value -/
abbrev parA (p k m : Int) : Array Value := #[.int .i64 p, .int .i64 k, .int .i64 m]
abbrev TPa : Nat := 23
/-- params that may be -/
def mayX (p k m : Int) : Prop := (1 ≤ p ∧ p ≤ 6) ∧ (1 ≤ k ∧ k ≤ 8) ∧ 1 ≤ m ∧ m ≤ maxI p
def MaySaid (p k m : Int) (w : World) (e : Ending) (w' : World) : Prop := ∃ t, e = .returned (.bool t) ∧ (t = true ↔ mayX p k m) ∧ Below w.heap.size w w'
theorem MaySaid.no {p k m : Int} {w w' : World} (h : ¬ mayX p k m) (hb : Below w.heap.size w w') : MaySaid p k m w (.returned (.bool false)) w' := ⟨false, rfl, by simp [h], hb⟩
theorem MaySaid.yes {p k m : Int} {w w' : World} (h : mayX p k m) (hb : Below w.heap.size w w') : MaySaid p k m w (.returned (.bool true)) w' := ⟨true, rfl, by simp [h], hb⟩

set_option maxRecDepth 100000 in
theorem may15 (p k m : Int) (w : World) (hT : Tab w) : Calls Tryz.prog 53 #[.agg (parA p k m)] w (MaySaid p k m w) := by
  have hb0 := (Below.refl _ w).alloc (Nat.le_refl _) (.cells (parA p k m) TPa)
  have HT := Lib.hid (hT.below hb0)
  have H0 := Lib.hid hb0
  clear hT hb0
  go_enter Tryz.func53, Tryz.ntmps53
  go_wp2_with fail
  refine (of8 p _ HT.out).mono ?_
  rintro e w1 ⟨rfl, hb1⟩
  have c1 := (box_cell (o := .cells (rowA p) TPr) (i := 1) hb1 rfl).2
  have c2 := (box_cell (o := .cells (rowA p) TPr) (i := 2) hb1 rfl).2
  have HB := Lib.hid (below_tr (below_tr H0.out hb1) (below_alloc w1 (.cells (rowA p) TPr)))
  clear hb1 HT H0
  obtain ⟨x, hx⟩ : ∃ x, maxI p = x := ⟨_, rfl⟩
  obtain ⟨t, ht⟩ : ∃ t, isI p = t := ⟨_, rfl⟩
  have HX := Lib.hid hx
  have HI := Lib.hid (show t = true ↔ 1 ≤ p ∧ p ≤ 6 by rw [← ht]; simp [isI])
  simp only [rowA, hx, ht] at c1 c2 HB ⊢
  clear hx ht
  cases t
  · have HE := Lib.hid (MaySaid.no (p := p) (k := k) (m := m) (fun h => by have := HI.out.2 h.1; cases this) HB.out)
    go_wp2_with fail
    go_ret
    exact HE.out
  have HIt := Lib.hid (HI.out.1 rfl)
  clear HI
  by_cases h1 : 1 ≤ k
  · by_cases h2 : k ≤ 8
    · by_cases h3 : 1 ≤ m
      · by_cases h4 : m ≤ x
        · have HE := Lib.hid (MaySaid.yes (p := p) (k := k) (m := m) ⟨HIt.out, ⟨h1, h2⟩, h3, by rw [HX.out]; exact h4⟩ HB.out)
          clear HX HIt HB
          go_wp2_with fail
          go_ret
          exact HE.out
        · have HE := Lib.hid (MaySaid.no (p := p) (k := k) (m := m) (fun h => h4 (by have := h.2.2.2; rwa [HX.out] at this)) HB.out)
          clear HX HIt HB
          go_wp2_with fail
          go_ret
          exact HE.out
      · have HE := Lib.hid (MaySaid.no (p := p) (k := k) (m := m) (fun h => h3 h.2.2.1) HB.out)
        clear HX HIt HB
        go_wp2_with fail
        go_ret
        exact HE.out
    · have HE := Lib.hid (MaySaid.no (p := p) (k := k) (m := m) (fun h => h2 h.2.1.2) HB.out)
      clear HX HIt HB
      go_wp2_with fail
      go_ret
      exact HE.out
  · have HE := Lib.hid (MaySaid.no (p := p) (k := k) (m := m) (fun h => h1 h.2.1.1) HB.out)
    clear HX HIt HB
    go_wp2_with fail
    go_ret
    exact HE.out

set_option maxRecDepth 100000 in
theorem rmay16 (p k m : Int) (w : World) : Calls Tryz.prog 30 #[.agg (parA p k m)] w (MaySaid p k m w) := by
  have H0 := Lib.hid ((Below.refl _ w).alloc (Nat.le_refl _) (.cells (parA p k m) TPa))
  go_enter Tryz.func30, Tryz.ntmps30
  go_wp2_with fail
  refine (rof9 p _).mono ?_
  rintro e w1 ⟨rfl, hb1⟩
  have c1 := (box_cell (o := .cells (rowA p) TRw) (i := 1) hb1 rfl).2
  have c2 := (box_cell (o := .cells (rowA p) TRw) (i := 2) hb1 rfl).2
  have HB := Lib.hid (below_tr (below_tr H0.out hb1) (below_alloc w1 (.cells (rowA p) TRw)))
  clear hb1 H0
  obtain ⟨x, hx⟩ : ∃ x, maxI p = x := ⟨_, rfl⟩
  obtain ⟨t, ht⟩ : ∃ t, isI p = t := ⟨_, rfl⟩
  have HX := Lib.hid hx
  have HI := Lib.hid (show t = true ↔ 1 ≤ p ∧ p ≤ 6 by rw [← ht]; simp [isI])
  simp only [rowA, hx, ht] at c1 c2 HB ⊢
  clear hx ht
  cases t
  · have HE := Lib.hid (MaySaid.no (p := p) (k := k) (m := m) (fun h => by have := HI.out.2 h.1; cases this) HB.out)
    go_wp2_with fail
    go_ret
    exact HE.out
  have HIt := Lib.hid (HI.out.1 rfl)
  clear HI
  by_cases h1 : 1 ≤ k
  · by_cases h2 : k ≤ 8
    · by_cases h3 : 1 ≤ m
      · by_cases h4 : m ≤ x
        · have HE := Lib.hid (MaySaid.yes (p := p) (k := k) (m := m) ⟨HIt.out, ⟨h1, h2⟩, h3, by rw [HX.out]; exact h4⟩ HB.out)
          clear HX HIt HB
          go_wp2_with fail
          go_ret
          exact HE.out
        · have HE := Lib.hid (MaySaid.no (p := p) (k := k) (m := m) (fun h => h4 (by have := h.2.2.2; rwa [HX.out] at this)) HB.out)
          clear HX HIt HB
          go_wp2_with fail
          go_ret
          exact HE.out
      · have HE := Lib.hid (MaySaid.no (p := p) (k := k) (m := m) (fun h => h3 h.2.2.1) HB.out)
        clear HX HIt HB
        go_wp2_with fail
        go_ret
        exact HE.out
    · have HE := Lib.hid (MaySaid.no (p := p) (k := k) (m := m) (fun h => h2 h.2.1.2) HB.out)
      clear HX HIt HB
      go_wp2_with fail
      go_ret
      exact HE.out
  · have HE := Lib.hid (MaySaid.no (p := p) (k := k) (m := m) (fun h => h1 h.2.1.1) HB.out)
    clear HX HIt HB
    go_wp2_with fail
    go_ret
    exact HE.out
end Go.Proofs.YtgdgimknnjbieaaGreatDoor

namespace Go.Proofs.YtgdgimknnjbieaaGreatDoor
open Go.RowKit

abbrev T3u : Nat := 41

abbrev arr3 (x y z : Int) : Array Value := #[.int .u8 x, .int .u8 y, .int .u8 z]

theorem size3u : (Tryz.prog.info? T3u).map (·.size) = some (3 : Nat) := by kernel_rfl

theorem max_pos {p : Int} (h : 1 ≤ p ∧ p ≤ 6) : 3 ≤ maxI p ∧ maxI p ≤ 4 := by unfold maxI; split <;> (try split) <;> omega
/-- three numbers -/
def three (x y z : Int) : Nat → Value
  | 0 => .int .i64 x
  | 1 => .int .i64 y
  | _ => .int .i64 z
theorem row3_alloc (w : World) (x y z : Int) : (w.alloc (.cells #[.int .i64 x, .int .i64 y, .int .i64 z] TPa)).rowIs w.heap.size TPa 3 (three x y z) :=
  World.rowIs_alloc w #[.int .i64 x, .int .i64 y, .int .i64 z] TPa _ (fun i hi => by
    simp at hi
    match i, hi with
    | 0, _ => rfl
    | 1, _ => rfl
    | 2, _ => rfl)
theorem rowIs_agg3 {w : World} {g t : Nat} {x y z : Int} (h : w.rowIs g t 3 (three x y z)) : w.heap[g]? = some (.cells (parA x y z) t (0, 0)) := by
  obtain ⟨⟨l⟩, h1, h2, h3⟩ := h
  rw [h1]
  match l, h2 with
  | [a, b, c], _ =>
    have e0 := h3 0 (by omega)
    have e1 := h3 1 (by omega)
    have e2 := h3 2 (by omega)
    simp [three] at e0 e1 e2
    rw [e0, e1, e2]
theorem size3 : (Tryz.prog.info? TPa).map (·.size) = some (3 : Nat) := by kernel_rfl

set_option maxRecDepth 100000 in
set_option maxHeartbeats 1000000 in
theorem some20 (x y z : Int) (hx : 0 ≤ x ∧ x ≤ 255) (hy : 0 ≤ y ∧ y ≤ 255) (hz : 0 ≤ z ∧ z ≤ 255) (w : World) :
    Calls Tryz.prog 18 #[.agg (arr3 x y z)] w fun e w' => ∃ p k m, e = .returned (.agg (parA p k m)) ∧ mayX p k m ∧ Below w.heap.size w w' := by
  obtain ⟨p, hp, p1⟩ : ∃ p, 1 + x % 6 = p ∧ (1 ≤ p ∧ p ≤ 6) := ⟨1 + x % 6, rfl, by omega⟩
  obtain ⟨k, hk, k1⟩ : ∃ k, 1 + y % 8 = k ∧ (1 ≤ k ∧ k ≤ 8) := ⟨1 + y % 8, rfl, by omega⟩
  obtain ⟨M, hM, M1, M2⟩ : ∃ M, maxI p = M ∧ 3 ≤ M ∧ M ≤ 4 := ⟨_, rfl, max_pos p1⟩
  obtain ⟨m, hm, m1, m2⟩ : ∃ m, 1 + z % M = m ∧ 1 ≤ m ∧ m ≤ M := ⟨1 + z % M, rfl, by have := Int.emod_nonneg z (show M ≠ 0 by omega); omega, by have := Int.emod_lt_of_pos z (show 0 < M by omega); omega⟩
  have HX := Lib.hid (show mayX p k m from ⟨p1, k1, m1, by rw [hM]; exact m2⟩)
  have s0 : (w.alloc (.cells (arr3 x y z) T3u)).heap.size = w.heap.size + 1 := by simp
  have q0 : (w.alloc (.cells (arr3 x y z) T3u)).cell? ⟨w.heap.size, 2, none⟩ = some (.int .u8 z) := by simp
  have B0 := (Below.refl _ w).alloc (Nat.le_refl _) (.cells (arr3 x y z) T3u)
  obtain ⟨v0, hv0⟩ : ∃ v0, w.alloc (.cells (arr3 x y z) T3u) = v0 := ⟨_, rfl⟩
  rw [hv0] at s0 q0 B0
  have R1 := row3_alloc v0 0 0 0
  have s1 : (v0.alloc (.cells #[.int .i64 0, .int .i64 0, .int .i64 0] TPa)).heap.size = w.heap.size + 1 + 1 := by simp [s0]
  have B1 := below_alloc v0 (.cells #[.int .i64 0, .int .i64 0, .int .i64 0] TPa)
  obtain ⟨v1, hv1⟩ : ∃ v1, v0.alloc (.cells #[.int .i64 0, .int .i64 0, .int .i64 0] TPa) = v1 := ⟨_, rfl⟩
  rw [hv1] at s1 B1 R1
  have R2 := row3_alloc v1 p k 0
  have B2 := below_alloc v1 (.cells #[.int .i64 p, .int .i64 k, .int .i64 0] TPa)
  rw [s0] at R1
  rw [s1] at R2
  have s2 : (v1.alloc (.cells #[.int .i64 p, .int .i64 k, .int .i64 0] TPa)).heap.size = w.heap.size + 1 + 1 + 1 := by simp [s1]
  have KEEP := Lib.hid (show ∀ w', Below (v1.alloc (.cells #[.int .i64 p, .int .i64 k, .int .i64 0] TPa)).heap.size (v1.alloc (.cells #[.int .i64 p, .int .i64 k, .int .i64 0] TPa)) w' → w'.cell? ⟨w.heap.size, 2, none⟩ = some (.int .u8 z) ∧ w'.rowIs (w.heap.size + 1) TPa 3 (three 0 0 0) ∧ w'.rowIs (w.heap.size + 1 + 1) TPa 3 (three p k 0) ∧ Below w.heap.size w w' from fun w' h => by
    have hB := below_tr (below_tr B1 B2) h
    exact ⟨(hB.cell (p := ⟨w.heap.size, 2, none⟩) (by rw [s0]; exact Nat.lt_succ_self _)).trans q0, R1.of_block ((below_tr B2 h).block _ (by rw [s1]; omega)), R2.of_block (h.block _ (by rw [s2]; omega)), below_tr B0 hB⟩)
  rw [← hv1, ← hv0] at KEEP
  clear R1 R2 B0 B1 B2 s0 s1 s2 q0 hv0 hv1 p1 k1
  go_enter Tryz.func18, Tryz.ntmps18
  go_wp2_with fail
  refine (rof9 p _).mono ?_
  rintro e w1 ⟨rfl, hb1⟩
  obtain ⟨q1, R1, R2, B1⟩ := KEEP.out _ (below_tr hb1 (below_alloc w1 (.cells (rowA p) TRw)))
  simp only [rowA, hM] at q1 R1 R2 B1 ⊢
  clear KEEP hb1 hM
  have a0 := R2.cell (i := 0) (by omega)
  have a1 := R2.cell (i := 1) (by omega)
  have a2 := R2.cell (i := 2) (by omega)
  have f2 := R2.frozen 2
  have z0 := R1.cell (i := 0) (by omega)
  have z1 := R1.cell (i := 1) (by omega)
  have z2 := R1.cell (i := 2) (by omega)
  have g0 := R1.frozen 0
  have g1 := R1.frozen 1
  have g2 := R1.frozen 2
  simp only [three] at a0 a1 a2 z0 z1 z2
  have HR1 := Lib.hid R1
  have HB1 := Lib.hid B1
  clear R1 R2 B1
  have hM0 : ¬ M = 0 := by omega
  go_wp2_with fail
  have RF := ((((HR1.out.setOther (a := ⟨w.heap.size + 1 + 1, 2, none⟩) (by simp) (.int .i64 m)).set 0 (.int .i64 p)).set 1 (.int .i64 k)).set 2 (.int .i64 m)).congr (g := three p k m) (fun i hi => by
    match i, hi with
    | 0, _ => rfl
    | 1, _ => rfl
    | 2, _ => rfl)
  have HE := Lib.hid ((((HB1.out.setCell (p := ⟨w.heap.size + 1 + 1, 2, none⟩) (by simp; omega) (.int .i64 m)).setCell (p := ⟨w.heap.size + 1, 0, none⟩) (by simp) (.int .i64 p)).setCell (p := ⟨w.heap.size + 1, 1, none⟩) (by simp) (.int .i64 k)).setCell (p := ⟨w.heap.size + 1, 2, none⟩) (by simp) (.int .i64 m))
  refine bodyPost_ret (results_cell_row rfl _ _ (w.heap.size + 1) TPa (parA p k m) (0, 0) _ rfl (rowIs_agg3 RF) Tryz.underlying23 rfl size3) rfl ?_
  exact ⟨p, k, m, rfl, HX.out, HE.out⟩
end Go.Proofs.YtgdgimknnjbieaaGreatDoor

namespace Go.Proofs.YtgdgimknnjbieaaGreatDoor
open Go.RowKit

/-- params in a box, cell by cell -/
theorem box_three {w : World} {g : Nat} {p k m : Int} (h : w.heap[g]? = some (.cells (parA p k m) TPa (0, 0))) : w.cell? ⟨g, 0, none⟩ = some (.int .i64 p) ∧ w.cell? ⟨g, 1, none⟩ = some (.int .i64 k) ∧ w.cell? ⟨g, 2, none⟩ = some (.int .i64 m) :=
  ⟨box_at h rfl, box_at h rfl, box_at h rfl⟩
end Go.Proofs.YtgdgimknnjbieaaGreatDoor

namespace Go.Proofs.YtgdgimknnjbieaaGreatDoor
open Go.RowKit Go.ChangeShapes

theorem three_in {H : Type} {enc : TypeId × Value → H} {W : World} {base : Nat} {sp : Nat → Bool} {held : Bool} {fuel : Nat} {c0 c1 c2 : Value} {x : DataW H × List MemPlace}
    (h : DataW.trod enc Tryz.prog W base sp held fuel 41 [c0, c1, c2] = some x) : ∃ a b c, c0 = .int .u8 a ∧ c1 = .int .u8 b ∧ c2 = .int .u8 c ∧ (0 ≤ a ∧ a ≤ 255) ∧ (0 ≤ b ∧ b ≤ 255) ∧ (0 ≤ c ∧ c ≤ 255) := by
  obtain ⟨y0, y1, y2, m, hx, hy0, hy1, hy2⟩ := trod_array3 Tryz.underlying41 (by kernel_rfl) h
  obtain ⟨x0, e0, rfl, wx0⟩ := DataW.trod_int Tryz.underlying5 hy0
  obtain ⟨x1, e1, rfl, wx1⟩ := DataW.trod_int Tryz.underlying5 hy1
  obtain ⟨x2, e2, rfl, wx2⟩ := DataW.trod_int Tryz.underlying5 hy2
  simp at e0 e1 e2
  exact ⟨x0, x1, x2, e0, e1, e2, bounds_u8 wx0, bounds_u8 wx1, bounds_u8 wx2⟩

theorem params_in {H : Type} {enc : TypeId × Value → H} {W : World} {base : Nat} {sp : Nat → Bool} {held : Bool} {fuel : Nat} {c0 c1 c2 : Value} {x : DataW H × List MemPlace}
    (h : DataW.trod enc Tryz.prog W base sp held fuel 23 [c0, c1, c2] = some x) : ∃ a b c, c0 = .int .i64 a ∧ c1 = .int .i64 b ∧ c2 = .int .i64 c := by
  obtain ⟨y0, y1, y2, m, hx, _, hy0, hy1, hy2⟩ := Deep.trod_struct3 Tryz.underlying23 h
  have hc : Tryz.prog.cellsOf 3 = 1 := by kernel_rfl
  dsimp only at hy0 hy1 hy2
  rw [hc] at hy0 hy1 hy2
  replace hy0 : DataW.trod enc Tryz.prog W base sp held m 3 [c0] = some y0 := hy0
  replace hy1 : DataW.trod enc Tryz.prog W base sp held m 3 [c1] = some y1 := hy1
  replace hy2 : DataW.trod enc Tryz.prog W base sp held m 3 [c2] = some y2 := hy2
  obtain ⟨x0, e0, rfl, wx0⟩ := DataW.trod_int Tryz.underlying3 hy0
  obtain ⟨x1, e1, rfl, wx1⟩ := DataW.trod_int Tryz.underlying3 hy1
  obtain ⟨x2, e2, rfl, wx2⟩ := DataW.trod_int Tryz.underlying3 hy2
  simp at e0 e1 e2
  exact ⟨x0, x1, x2, e0, e1, e2⟩
end Go.Proofs.YtgdgimknnjbieaaGreatDoor
