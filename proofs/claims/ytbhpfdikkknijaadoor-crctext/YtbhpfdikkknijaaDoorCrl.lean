/- Layer 13: what is read of the library's own variables; strings.Clone's part; errors of strconv. -/
import Derived.Test.YtbhpfdikkknijaaDoorBsa
import Derived.Test.YtbhpfdikkknijaaDoorCrd
import Derived.Lib.BufferWrite
import Derived.Lib.UnsafeStr
import Derived.Lib.IfaceEq
import Derived.Laws.MakeOwn
import Derived.Deep.RegionHeld3
namespace Go.Proofs.YtbhpfdikkknijaaDoor
open Go.RowKit

/-- strconv's two errors are there; of the table by which bits are counted the cell that 16 asks for -/
structure Env (w : World) : Prop where
  es : ∃ t p, w.cell? ⟨0, 0, none⟩ = some (.iface t p)
  er : ∃ t p, w.cell? ⟨1, 0, none⟩ = some (.iface t p)
  db : w.cell? ⟨4, 15, none⟩ = some (.int .u8 4)
theorem Env.below {w w' : World} (h : Env w) (hb : Below w.heap.size w w') : Env w' := by
  obtain ⟨t, p, h1⟩ := h.es
  obtain ⟨t2, p2, h2⟩ := h.er
  exact ⟨⟨t, p, (hb.cell (lt_of_cell h1)).trans h1⟩, ⟨t2, p2, (hb.cell (lt_of_cell h2)).trans h2⟩, (hb.cell (lt_of_cell h.db)).trans h.db⟩
theorem Env.drew {w : World} (h : Env w) : Env w.drew := ⟨h.es, h.er, h.db⟩

abbrev TPB : Nat := 73
abbrev TEr : Nat := 51

set_option maxRecDepth 100000 in
set_option maxHeartbeats 1000000 in
theorem clone39 (s : ByteArray) (hs : s.size ≤ 281474976710656) (w : World) : Calls Tryd.prog 39 #[.string s] w fun e w' => e = .returned (.string s) ∧ Below w.heap.size w w' := by
  by_cases h0 : s.size = 0
  · have he : s = ⟨#[]⟩ := ByteArray.ext (Array.eq_empty_of_size_eq_zero h0)
    subst he
    go_enter Tryd.func39, Tryd.ntmps39
    go_wp2_with fail
    go_ret
    exact ⟨rfl, Below.refl _ _⟩
  obtain ⟨i, i1, i2, i3, i4⟩ := info_parts infoB
  have hco : Tryd.prog.cellsOf TB = 1 := by simp [Program.cellsOf, i1, i3]
  obtain ⟨M, hM⟩ : ∃ M, madeCells (Value.int .u8 0).cells (((s.size : Nat) : Int).toNat * i.size) = M := ⟨_, rfl⟩
  have hMs : M.size = s.size := by rw [← hM, size_madeCells, i3]; simp
  have hmk : ∀ W : World, (Instr.makeSlice TBs (.int .i64 (s.size : Int)) (.int .i64 (s.size : Int))).run Tryd.prog W = .ok (.slice (some ⟨W.heap.size, 0, none⟩) s.size s.size) (W.alloc (.cells M TB)) := fun W => by
    have h := run_make (P := Tryd.prog) W TBs TB i (.int .u8 0) Tryd.underlying23 i1 i2 .i64 .i64 (s.size : Int) (s.size : Int) (by omega) (by omega) (by rw [i4]; omega) (by omega)
    rw [hM] at h
    simpa using h
  obtain ⟨v, hv⟩ : ∃ v, w.alloc (.cells M TB) = v := ⟨_, rfl⟩
  obtain ⟨_, v2, v3⟩ := one_box hv
  have hcp := Lib.run_copy_row_string (P := Tryd.prog) v TBs TStr TI TB w.heap.size 0 s.size s.size s M TB Tryd.underlying23 (by rw [i1]; simp [i3]) v2 (Nat.le_refl _) (by omega)
  obtain ⟨Y, hY⟩ : ∃ Y, (M.toList.take 0 ++ Lib.byteCells s.data.toList ++ M.toList.drop (0 + s.size)).toArray = Y := ⟨_, rfl⟩
  rw [hY] at hcp
  have hYl : Y.toList = Lib.byteCells s.data.toList := by
    rw [← hY, List.toList_toArray, List.take_zero, List.nil_append, List.drop_of_length_le (by rw [Array.length_toList]; omega), List.append_nil]
  have hYs : Y.size = s.size := by rw [← Array.length_toList, hYl, Lib.byteCells_length, ← Lib.size_eq]
  have hg : (v.setRow w.heap.size Y).heap[w.heap.size]? = some (.cells Y TB (0, 0)) := setRow_heap _ _ M _ TB (0, 0) v2
  have hne : s.data.toList ≠ [] := fun e => h0 (by rw [Lib.size_eq, e]; rfl)
  have hus := Lib.run_unsafeString_row (P := Tryd.prog) (v.setRow w.heap.size Y) TPB TI TStr TB Tryd.underlying73 hco w.heap.size Y.size (by unfold World.shape?; rw [hg]) s.data.toList hne (by rw [← Lib.size_eq]; omega) (by rw [← Lib.size_eq]; omega)
    (fun j x hx => Lib.cells_of_row hg Y.size j _ (by rw [List.take_of_length_le (by rw [Array.length_toList]; exact Nat.le_refl _), hYl]; simp [Lib.byteCells, hx]))
  rw [← Lib.size_eq] at hus
  have HB := Lib.hid (Lib.below_freeze (v3.trans (show Below w.heap.size v (v.setRow w.heap.size Y) from ⟨rfl, rfl, rfl, by simp [World.setRow], fun k hk => setRow_other _ _ _ _ (by omega)⟩)) (p := ⟨w.heap.size, 0, none⟩) (Nat.le_refl _) s.size)
  clear hY hM hYl hg v2 v3 i1 i2 i3 i4
  go_enter Tryd.func39, Tryd.ntmps39
  go_wp2_with fail
  go_ret
  exact ⟨rfl, HB.out⟩

set_option maxRecDepth 100000 in
set_option maxHeartbeats 1000000 in
theorem synErr31 (fn s : ByteArray) (hs : s.size ≤ 281474976710656) (w : World) (hE : Env w) : Calls Tryd.prog 31 #[.string fn, .string s] w fun e w' => (∃ p, e = .returned (.pointer p)) ∧ Below w.heap.size w w' := by
  obtain ⟨t, p, h1⟩ := hE.es
  have HC := Lib.hid (fun W => clone39 s hs W)
  have KEEP := Lib.hid (show ∀ w', Below w.heap.size w w' → w'.cell? ⟨0, 0, none⟩ = some (.iface t p) from fun w' hb => (hb.cell (lt_of_cell h1)).trans h1)
  have HD := Lib.hid (Below.refl w.heap.size w).drew
  have h2 := KEEP.out _ HD.out
  clear hE hs h1
  go_enter Tryd.func31, Tryd.ntmps31
  go_wp2_with fail
  go_region_held3 (fun w' => w'.cell? ⟨0, 0, none⟩ = some (.iface t p))
    (first | exact h2 | exact KEEP.out _ HD.out | exact KEEP.out _ (HD.out.trans hb2) | exact KEEP.out _ ((HD.out.trans hb2).alloc (HD.out.trans hb2).size _) | assumption)
    (first | (go_at_call 39; refine (HC.out _).mono ?_; rintro e w2 ⟨rfl, hb2⟩))
  go_wp2_with fail
  go_ret
  exact ⟨⟨_, rfl⟩, (HD.out.trans hb2).alloc (HD.out.trans hb2).size _⟩

set_option maxRecDepth 100000 in
set_option maxHeartbeats 1000000 in
theorem rngErr32 (fn s : ByteArray) (hs : s.size ≤ 281474976710656) (w : World) (hE : Env w) : Calls Tryd.prog 32 #[.string fn, .string s] w fun e w' => (∃ p, e = .returned (.pointer p)) ∧ Below w.heap.size w w' := by
  obtain ⟨t, p, h1⟩ := hE.er
  have HC := Lib.hid (fun W => clone39 s hs W)
  have KEEP := Lib.hid (show ∀ w', Below w.heap.size w w' → w'.cell? ⟨1, 0, none⟩ = some (.iface t p) from fun w' hb => (hb.cell (lt_of_cell h1)).trans h1)
  have HD := Lib.hid (Below.refl w.heap.size w).drew
  have h2 := KEEP.out _ HD.out
  clear hE hs h1
  go_enter Tryd.func32, Tryd.ntmps32
  go_wp2_with fail
  go_region_held3 (fun w' => w'.cell? ⟨1, 0, none⟩ = some (.iface t p))
    (first | exact h2 | exact KEEP.out _ HD.out | exact KEEP.out _ (HD.out.trans hb2) | exact KEEP.out _ ((HD.out.trans hb2).alloc (HD.out.trans hb2).size _) | assumption)
    (first | (go_at_call 39; refine (HC.out _).mono ?_; rintro e w2 ⟨rfl, hb2⟩))
  go_wp2_with fail
  go_ret
  exact ⟨⟨_, rfl⟩, (HD.out.trans hb2).alloc (HD.out.trans hb2).size _⟩

theorem ifEq (a b : Int) (w : World) : (binOp .eql 46 (.iface TEr (.int .i64 a)) (.iface TEr (.int .i64 b))).run Tryd.prog w = .ok (.bool (a == b)) w :=
  Lib.run_eql_iface_int w a b Tryd.underlying46 (by kernel_rfl) Tryd.underlying51

set_option maxRecDepth 100000 in
set_option maxHeartbeats 1000000 in
/-- an error of the syntax (2), or of the range (1), as an error of strconv's -/
theorem toErr27 (fn s : ByteArray) (hs : s.size ≤ 281474976710656) (c : Int) (hc : c = 1 ∨ c = 2) (w : World) (hE : Env w) :
    Calls Tryd.prog 27 #[.string fn, .string s, .int .i64 16, .int .i64 32, .iface TEr (.int .i64 c)] w fun e w' => (∃ t p, e = .returned (.iface t p)) ∧ Below w.heap.size w w' := by
  have q12 := fun W => ifEq 1 2 W
  have q11 := fun W => ifEq 1 1 W
  have q22 := fun W => ifEq 2 2 W
  have HS := Lib.hid (synErr31 fn s hs w hE)
  have HR := Lib.hid (rngErr32 fn s hs w hE)
  clear hE hs
  rcases hc with rfl | rfl
  · go_enter Tryd.func27, Tryd.ntmps27
    go_wp2_with fail
    refine HR.out.mono ?_
    rintro e w' ⟨⟨p, rfl⟩, hb⟩
    go_wp2_with fail
    go_ret
    exact ⟨⟨_, _, rfl⟩, hb⟩
  · go_enter Tryd.func27, Tryd.ntmps27
    go_wp2_with fail
    refine HS.out.mono ?_
    rintro e w' ⟨⟨p, rfl⟩, hb⟩
    go_wp2_with fail
    go_ret
    exact ⟨⟨_, _, rfl⟩, hb⟩
end Go.Proofs.YtbhpfdikkknijaaDoor
