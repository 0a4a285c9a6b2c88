/- Layer 9: the table of formats, as it lies in memory; Of, of any number. -/
import Derived.Test.YtdidlfeolbcblaaGreatDoorGxd
import Derived.Laws.Rows
import Derived.Test.YtdidlfeolbcblaaGreatDoorGxh
namespace Go.Proofs.YtdidlfeolbcblaaGreatDoor
open Go.RowKit

/-- the tags -/
def tagS (p : Nat) : ByteArray := match p with
  | 1 => ⟨#[106, 118]⟩
  | 2 => ⟨#[106, 99]⟩
  | 3 => ⟨#[105, 114]⟩
  | 4 => ⟨#[105, 99]⟩
  | 5 => ⟨#[98, 98]⟩
  | 6 => ⟨#[107, 112]⟩
  | _ => ⟨#[]⟩
def tagI (p : Int) : ByteArray := tagS p.toNat
def bitsI (p : Int) : Int := if p = 2 then 16 else if 1 ≤ p ∧ p ≤ 6 then 8 else 0
def polyI (p : Int) : Int := if p = 2 then 69643 else if 1 ≤ p ∧ p ≤ 6 then 285 else 0
def layI (p : Int) : Int := if p = 1 ∨ p = 2 then 106 else if p = 3 ∨ p = 4 then 105 else if p = 5 then 98 else if p = 6 then 112 else 0
def maxI (p : Int) : Int := if p = 3 then 3 else if 1 ≤ p ∧ p ≤ 6 then 4 else 0
def isI (p : Int) : Bool := decide (1 ≤ p ∧ p ≤ 6)
/-- a row of the table -/
abbrev rowA (p : Int) : Array Value := #[.string (tagI p), .int .i64 (bitsI p), .int .u32 (polyI p), .int .u8 (layI p), .int .i64 (maxI p)]
/-- the table's cells -/
def tabC : Array Value := rowA 1 ++ rowA 2 ++ rowA 3 ++ rowA 4 ++ rowA 5 ++ rowA 6
abbrev TPr : Nat := 27
/-- the package's table is there -/
def Tab (w : World) : Prop := ∃ t fr, w.heap[0]? = some (.cells tabC t fr)
theorem Tab.below {w w' : World} (h : Tab w) (hb : Below w.heap.size w w') : Tab w' := by
  obtain ⟨t, fr, h⟩ := h
  exact ⟨t, fr, (hb.block 0 (by rcases Nat.lt_or_ge 0 w.heap.size with hl | hl; exact hl; rw [Array.getElem?_eq_none hl] at h; cases h)).trans h⟩
theorem Tab.lt {w : World} (h : Tab w) : 0 < w.heap.size := by
  obtain ⟨t, fr, h⟩ := h
  rcases Nat.lt_or_ge 0 w.heap.size with hl | hl
  · exact hl
  · rw [Array.getElem?_eq_none hl] at h; cases h
theorem Tab.drew {w : World} (h : Tab w) : Tab w.drew := h
theorem Tab.cell {w : World} (h : Tab w) (i : Nat) : w.cell? ⟨0, i, none⟩ = tabC[i]? := by
  obtain ⟨t, fr, h⟩ := h
  simp [World.cell?, h]

theorem results_row_tmp {P : Program} {fn : Func} {p u : Tmp} {ty : TypeId} (h : fn.results = #[.cell p ty, .tmp u]) (tmps : Array Value) (w : World) (g : Nat) (t : TypeId) (cs : Array Value) (fr : Nat × Nat) (d : TypeDesc)
    (hp : tmps.getD p undef = .pointer (some ⟨g, 0, none⟩)) (hg : w.heap[g]? = some (.cells cs t fr))
    (hu : P.underlying ty = some d) (hd : (match d with | .struct _ | .array _ _ => true | _ => false) = true) (hi : (P.info? ty).map (·.size) = some cs.size) :
    (results fn tmps).run P w = .ok (.tuple #[.agg cs, tmps.getD u undef]) w := by
  have hp' : tmps[p]?.getD undef = .pointer (some ⟨g, 0, none⟩) := by simpa using hp
  simp [results, h, hp', asAddr, run_loadVar_row w g t ty cs fr d hg hu hd hi]

/-- what Of tells -/
def OfSaid (p : Int) (w : World) (e : Ending) (w' : World) : Prop :=
  e = .returned (.tuple #[.agg (rowA p), .bool (isI p)]) ∧ Below w.heap.size w w'

theorem tab_cell {w : World} (hT : Tab w) (o : Obj) (i : Nat) {v : Value} (h : tabC[i]? = some v) : (w.alloc o).cell? ⟨0, i, none⟩ = some v :=
  ((hT.below ((Below.refl _ w).alloc (Nat.le_refl _) o)).cell i).trans h

abbrev TRw : Nat := 30

theorem size5 (a b c d e : Value) : (Tryz.prog.info? TPr).map (·.size) = some #[a, b, c, d, e].size := by kernel_rfl

theorem size5r (a b c d e : Value) : (Tryz.prog.info? TRw).map (·.size) = some #[a, b, c, d, e].size := by kernel_rfl

abbrev zeroR : Array Value := #[.string ⟨#[]⟩, .int .i64 0, .int .u32 0, .int .u8 0, .int .i64 0]
theorem row_out {p : Int} (hp : ¬ (1 ≤ p ∧ p ≤ 6)) : rowA p = zeroR ∧ isI p = false := by
  have h0 : tagI p = ⟨#[]⟩ := by
    unfold tagI
    by_cases h : p < 1
    · rw [show p.toNat = 0 by omega]; rfl
    · obtain ⟨n, hn⟩ : ∃ n, p.toNat = n + 7 := ⟨p.toNat - 7, by omega⟩
      rw [hn]; rfl
  refine ⟨?_, by simp [isI]; omega⟩
  unfold rowA bitsI polyI layI maxI
  rw [h0, if_neg (by omega), if_neg (by omega), if_neg (by omega), if_neg (by omega), if_neg (by omega), if_neg (by omega), if_neg (by omega), if_neg (by omega), if_neg (by omega), if_neg (by omega)]

set_option maxRecDepth 100000 in
theorem of_out (p : Int) (hp : ¬ (1 ≤ p ∧ p ≤ 6)) (w : World) :
    Calls Tryz.prog 8 #[.int .i64 p] w (OfSaid p w) := by
  have HE := Lib.hid (show OfSaid p w (.returned (.tuple #[.agg zeroR, .bool false])) (w.alloc (.cells zeroR TPr)) from ⟨by rw [(row_out hp).1, (row_out hp).2], (Below.refl _ w).alloc (Nat.le_refl _) _⟩)
  by_cases h1 : p < 1
  · go_enter Tryz.func8, Tryz.ntmps8
    go_wp2_with fail
    refine bodyPost_ret (results_row_tmp rfl _ _ w.heap.size TPr _ (0, 0) _ rfl (World.alloc_heap_new w _) Tryz.underlying27 rfl (size5 _ _ _ _ _)) rfl ?_
    exact HE.out
  · have h2 : 6 < p := by omega
    go_enter Tryz.func8, Tryz.ntmps8
    go_wp2_with fail
    refine bodyPost_ret (results_row_tmp rfl _ _ w.heap.size TPr _ (0, 0) _ rfl (World.alloc_heap_new w _) Tryz.underlying27 rfl (size5 _ _ _ _ _)) rfl ?_
    exact HE.out

set_option maxRecDepth 100000 in
theorem of_1 (w : World) (hT : Tab w) : Calls Tryz.prog 8 #[.int .i64 1] w (OfSaid 1 w) := by
  have c0 := tab_cell hT (.cells zeroR TPr) 0 (v := .string ⟨#[106, 118]⟩) rfl
  have c1 := tab_cell hT (.cells zeroR TPr) 1 (v := .int .i64 8) rfl
  have c2 := tab_cell hT (.cells zeroR TPr) 2 (v := .int .u32 285) rfl
  have c3 := tab_cell hT (.cells zeroR TPr) 3 (v := .int .u8 106) rfl
  have c4 := tab_cell hT (.cells zeroR TPr) 4 (v := .int .i64 4) rfl
  clear hT
  go_enter Tryz.func8, Tryz.ntmps8
  go_wp2_with fail
  refine bodyPost_ret (results_row_tmp rfl _ _ w.heap.size TPr _ (0, 0) _ rfl (World.alloc_heap_new w _) Tryz.underlying27 rfl (size5 _ _ _ _ _)) rfl ?_
  exact ⟨rfl, (Below.refl _ w).alloc (Nat.le_refl _) _⟩

set_option maxRecDepth 100000 in
theorem of_2 (w : World) (hT : Tab w) : Calls Tryz.prog 8 #[.int .i64 2] w (OfSaid 2 w) := by
  have c0 := tab_cell hT (.cells zeroR TPr) 5 (v := .string ⟨#[106, 99]⟩) rfl
  have c1 := tab_cell hT (.cells zeroR TPr) 6 (v := .int .i64 16) rfl
  have c2 := tab_cell hT (.cells zeroR TPr) 7 (v := .int .u32 69643) rfl
  have c3 := tab_cell hT (.cells zeroR TPr) 8 (v := .int .u8 106) rfl
  have c4 := tab_cell hT (.cells zeroR TPr) 9 (v := .int .i64 4) rfl
  clear hT
  go_enter Tryz.func8, Tryz.ntmps8
  go_wp2_with fail
  refine bodyPost_ret (results_row_tmp rfl _ _ w.heap.size TPr _ (0, 0) _ rfl (World.alloc_heap_new w _) Tryz.underlying27 rfl (size5 _ _ _ _ _)) rfl ?_
  exact ⟨rfl, (Below.refl _ w).alloc (Nat.le_refl _) _⟩

set_option maxRecDepth 100000 in
theorem of_3 (w : World) (hT : Tab w) : Calls Tryz.prog 8 #[.int .i64 3] w (OfSaid 3 w) := by
  have c0 := tab_cell hT (.cells zeroR TPr) 10 (v := .string ⟨#[105, 114]⟩) rfl
  have c1 := tab_cell hT (.cells zeroR TPr) 11 (v := .int .i64 8) rfl
  have c2 := tab_cell hT (.cells zeroR TPr) 12 (v := .int .u32 285) rfl
  have c3 := tab_cell hT (.cells zeroR TPr) 13 (v := .int .u8 105) rfl
  have c4 := tab_cell hT (.cells zeroR TPr) 14 (v := .int .i64 3) rfl
  clear hT
  go_enter Tryz.func8, Tryz.ntmps8
  go_wp2_with fail
  refine bodyPost_ret (results_row_tmp rfl _ _ w.heap.size TPr _ (0, 0) _ rfl (World.alloc_heap_new w _) Tryz.underlying27 rfl (size5 _ _ _ _ _)) rfl ?_
  exact ⟨rfl, (Below.refl _ w).alloc (Nat.le_refl _) _⟩

set_option maxRecDepth 100000 in
theorem of_4 (w : World) (hT : Tab w) : Calls Tryz.prog 8 #[.int .i64 4] w (OfSaid 4 w) := by
  have c0 := tab_cell hT (.cells zeroR TPr) 15 (v := .string ⟨#[105, 99]⟩) rfl
  have c1 := tab_cell hT (.cells zeroR TPr) 16 (v := .int .i64 8) rfl
  have c2 := tab_cell hT (.cells zeroR TPr) 17 (v := .int .u32 285) rfl
  have c3 := tab_cell hT (.cells zeroR TPr) 18 (v := .int .u8 105) rfl
  have c4 := tab_cell hT (.cells zeroR TPr) 19 (v := .int .i64 4) rfl
  clear hT
  go_enter Tryz.func8, Tryz.ntmps8
  go_wp2_with fail
  refine bodyPost_ret (results_row_tmp rfl _ _ w.heap.size TPr _ (0, 0) _ rfl (World.alloc_heap_new w _) Tryz.underlying27 rfl (size5 _ _ _ _ _)) rfl ?_
  exact ⟨rfl, (Below.refl _ w).alloc (Nat.le_refl _) _⟩

set_option maxRecDepth 100000 in
theorem of_5 (w : World) (hT : Tab w) : Calls Tryz.prog 8 #[.int .i64 5] w (OfSaid 5 w) := by
  have c0 := tab_cell hT (.cells zeroR TPr) 20 (v := .string ⟨#[98, 98]⟩) rfl
  have c1 := tab_cell hT (.cells zeroR TPr) 21 (v := .int .i64 8) rfl
  have c2 := tab_cell hT (.cells zeroR TPr) 22 (v := .int .u32 285) rfl
  have c3 := tab_cell hT (.cells zeroR TPr) 23 (v := .int .u8 98) rfl
  have c4 := tab_cell hT (.cells zeroR TPr) 24 (v := .int .i64 4) rfl
  clear hT
  go_enter Tryz.func8, Tryz.ntmps8
  go_wp2_with fail
  refine bodyPost_ret (results_row_tmp rfl _ _ w.heap.size TPr _ (0, 0) _ rfl (World.alloc_heap_new w _) Tryz.underlying27 rfl (size5 _ _ _ _ _)) rfl ?_
  exact ⟨rfl, (Below.refl _ w).alloc (Nat.le_refl _) _⟩

set_option maxRecDepth 100000 in
theorem of_6 (w : World) (hT : Tab w) : Calls Tryz.prog 8 #[.int .i64 6] w (OfSaid 6 w) := by
  have c0 := tab_cell hT (.cells zeroR TPr) 25 (v := .string ⟨#[107, 112]⟩) rfl
  have c1 := tab_cell hT (.cells zeroR TPr) 26 (v := .int .i64 8) rfl
  have c2 := tab_cell hT (.cells zeroR TPr) 27 (v := .int .u32 285) rfl
  have c3 := tab_cell hT (.cells zeroR TPr) 28 (v := .int .u8 112) rfl
  have c4 := tab_cell hT (.cells zeroR TPr) 29 (v := .int .i64 4) rfl
  clear hT
  go_enter Tryz.func8, Tryz.ntmps8
  go_wp2_with fail
  refine bodyPost_ret (results_row_tmp rfl _ _ w.heap.size TPr _ (0, 0) _ rfl (World.alloc_heap_new w _) Tryz.underlying27 rfl (size5 _ _ _ _ _)) rfl ?_
  exact ⟨rfl, (Below.refl _ w).alloc (Nat.le_refl _) _⟩

theorem of8 (p : Int) (w : World) (hT : Tab w) : Calls Tryz.prog 8 #[.int .i64 p] w (OfSaid p w) := by
  by_cases h : 1 ≤ p ∧ p ≤ 6
  · obtain rfl | rfl | rfl | rfl | rfl | rfl : p = 1 ∨ p = 2 ∨ p = 3 ∨ p = 4 ∨ p = 5 ∨ p = 6 := by omega
    · exact of_1 w hT
    · exact of_2 w hT
    · exact of_3 w hT
    · exact of_4 w hT
    · exact of_5 w hT
    · exact of_6 w hT
  · exact of_out p h w

set_option maxRecDepth 100000 in
theorem rof_out (p : Int) (hp : ¬ (1 ≤ p ∧ p ≤ 6)) (w : World) :
    Calls Tryz.prog 9 #[.int .i64 p] w (OfSaid p w) := by
  have HE := Lib.hid (show OfSaid p w (.returned (.tuple #[.agg zeroR, .bool false])) (w.alloc (.cells zeroR TRw)) from ⟨by rw [(row_out hp).1, (row_out hp).2], (Below.refl _ w).alloc (Nat.le_refl _) _⟩)
  have n1 : (p == 1) = false := by simp; omega
  have n2 : (p == 2) = false := by simp; omega
  have n3 : (p == 3) = false := by simp; omega
  have n4 : (p == 4) = false := by simp; omega
  have n5 : (p == 5) = false := by simp; omega
  have n6 : (p == 6) = false := by simp; omega
  go_enter Tryz.func9, Tryz.ntmps9
  go_wp2_with fail
  refine bodyPost_ret (results_row_tmp rfl _ _ w.heap.size TRw _ (0, 0) _ rfl (World.alloc_heap_new w _) Tryz.underlying30 rfl (size5r _ _ _ _ _)) rfl ?_
  exact HE.out

set_option maxRecDepth 100000 in
theorem rof_1 (w : World) : Calls Tryz.prog 9 #[.int .i64 1] w (OfSaid 1 w) := by
  go_enter Tryz.func9, Tryz.ntmps9
  go_wp2_with fail
  refine bodyPost_ret (results_row_tmp rfl _ _ w.heap.size TRw _ (0, 0) _ rfl (World.alloc_heap_new w _) Tryz.underlying30 rfl (size5r _ _ _ _ _)) rfl ?_
  exact ⟨rfl, (Below.refl _ w).alloc (Nat.le_refl _) _⟩

set_option maxRecDepth 100000 in
theorem rof_2 (w : World) : Calls Tryz.prog 9 #[.int .i64 2] w (OfSaid 2 w) := by
  go_enter Tryz.func9, Tryz.ntmps9
  go_wp2_with fail
  refine bodyPost_ret (results_row_tmp rfl _ _ w.heap.size TRw _ (0, 0) _ rfl (World.alloc_heap_new w _) Tryz.underlying30 rfl (size5r _ _ _ _ _)) rfl ?_
  exact ⟨rfl, (Below.refl _ w).alloc (Nat.le_refl _) _⟩

set_option maxRecDepth 100000 in
theorem rof_3 (w : World) : Calls Tryz.prog 9 #[.int .i64 3] w (OfSaid 3 w) := by
  go_enter Tryz.func9, Tryz.ntmps9
  go_wp2_with fail
  refine bodyPost_ret (results_row_tmp rfl _ _ w.heap.size TRw _ (0, 0) _ rfl (World.alloc_heap_new w _) Tryz.underlying30 rfl (size5r _ _ _ _ _)) rfl ?_
  exact ⟨rfl, (Below.refl _ w).alloc (Nat.le_refl _) _⟩

set_option maxRecDepth 100000 in
theorem rof_4 (w : World) : Calls Tryz.prog 9 #[.int .i64 4] w (OfSaid 4 w) := by
  go_enter Tryz.func9, Tryz.ntmps9
  go_wp2_with fail
  refine bodyPost_ret (results_row_tmp rfl _ _ w.heap.size TRw _ (0, 0) _ rfl (World.alloc_heap_new w _) Tryz.underlying30 rfl (size5r _ _ _ _ _)) rfl ?_
  exact ⟨rfl, (Below.refl _ w).alloc (Nat.le_refl _) _⟩

set_option maxRecDepth 100000 in
theorem rof_5 (w : World) : Calls Tryz.prog 9 #[.int .i64 5] w (OfSaid 5 w) := by
  go_enter Tryz.func9, Tryz.ntmps9
  go_wp2_with fail
  refine bodyPost_ret (results_row_tmp rfl _ _ w.heap.size TRw _ (0, 0) _ rfl (World.alloc_heap_new w _) Tryz.underlying30 rfl (size5r _ _ _ _ _)) rfl ?_
  exact ⟨rfl, (Below.refl _ w).alloc (Nat.le_refl _) _⟩

set_option maxRecDepth 100000 in
theorem rof_6 (w : World) : Calls Tryz.prog 9 #[.int .i64 6] w (OfSaid 6 w) := by
  go_enter Tryz.func9, Tryz.ntmps9
  go_wp2_with fail
  refine bodyPost_ret (results_row_tmp rfl _ _ w.heap.size TRw _ (0, 0) _ rfl (World.alloc_heap_new w _) Tryz.underlying30 rfl (size5r _ _ _ _ _)) rfl ?_
  exact ⟨rfl, (Below.refl _ w).alloc (Nat.le_refl _) _⟩

theorem rof9 (p : Int) (w : World) : Calls Tryz.prog 9 #[.int .i64 p] w (OfSaid p w) := by
  by_cases h : 1 ≤ p ∧ p ≤ 6
  · obtain rfl | rfl | rfl | rfl | rfl | rfl : p = 1 ∨ p = 2 ∨ p = 3 ∨ p = 4 ∨ p = 5 ∨ p = 6 := by omega
    · exact rof_1 w
    · exact rof_2 w
    · exact rof_3 w
    · exact rof_4 w
    · exact rof_5 w
    · exact rof_6 w
  · exact rof_out p h w
end Go.Proofs.YtdidlfeolbcblaaGreatDoor
