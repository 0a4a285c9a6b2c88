/- The object of package gf, as it lies in memory; contracts of its plain questions: Bits, Size, has, units, of a field and of nil. -/
import Derived.Test.YtomlfmfahlcedaaGfm
import Derived.Test.YtomlfmfahlcedaaOnc
import Derived.Deep.OwnRows
namespace Go.Proofs.Ytomlfmfahlcedaa
open Go.RowKit

/-- w' is as w was, but for block b; memory only grew -/
structure Turned (b : Nat) (w w' : World) : Prop where
  os : w'.os = w.os
  tape : w'.tape = w.tape
  output : w'.output = w.output
  size : w.heap.size ≤ w'.heap.size
  block : ∀ k, k < w.heap.size → k ≠ b → w'.heap[k]? = w.heap[k]?

theorem Turned.refl (b : Nat) (w : World) : Turned b w w := ⟨rfl, rfl, rfl, Nat.le_refl _, fun _ _ _ => rfl⟩
theorem Turned.trans {b : Nat} {x y z : World} (h : Turned b x y) (k : Turned b y z) : Turned b x z :=
  ⟨k.os.trans h.os, k.tape.trans h.tape, k.output.trans h.output, Nat.le_trans h.size k.size, fun i hi hb => (k.block i (Nat.lt_of_lt_of_le hi h.size) hb).trans (h.block i hi hb)⟩
theorem Turned.below {b n : Nat} {w w' : World} (h : Turned b w w') (hb : n ≤ b) (hn : n ≤ w.heap.size) : Below n w w' :=
  ⟨h.os, h.tape, h.output, h.size, fun k hk => h.block k (by omega) (by omega)⟩
theorem Turned.of_below {b : Nat} {w w' : World} (h : Below w.heap.size w w') : Turned b w w' := ⟨h.os, h.tape, h.output, h.size, fun k hk _ => h.block k hk⟩
theorem Turned.setCell {b : Nat} {w w' : World} (h : Turned b w w') (o : Nat) (v : Value) : Turned b w (w'.setCell ⟨b, o, none⟩ v) :=
  h.trans ⟨rfl, rfl, rfl, by simp [World.setCell], fun k _ hb => Below.heap_setCell _ _ _ _ hb⟩
theorem Turned.drew {b : Nat} {w w' : World} (h : Turned b w w') : Turned b w w'.drew := ⟨h.os, h.tape, h.output, h.size, h.block⟩
theorem Turned.cell {b : Nat} {w w' : World} (h : Turned b w w') {q : Addr} (hq : q.block < w.heap.size) (hb : q.block ≠ b) : w'.cell? q = w.cell? q := World.cell?_of_block (w := w) (h.block q.block hq hb)
theorem Turned.row {b : Nat} {w w' : World} (h : Turned b w w') {k t n : Nat} {f : Nat → Value} (hr : w.rowIs k t n f) (hb : k ≠ b) : w'.rowIs k t n f := hr.of_block (h.block k hr.lt hb)

/-- how wide a field is, and how many numbers but 0 it has -/
def Kind (wd c : Nat) : Prop := (wd = 8 ∧ c = 255) ∨ (wd = 16 ∧ c = 65535)

theorem Kind.bounds {wd c : Nat} (h : Kind wd c) : 8 ≤ wd ∧ wd ≤ 16 ∧ 255 ≤ c ∧ c ≤ 65535 := by rcases h with ⟨rfl, rfl⟩ | ⟨rfl, rfl⟩ <;> omega

/-- the seven cells of a field -/
def fcells (wd p d s : Int) (pv lv : Value) : Nat → Value
  | 0 => .int .i64 wd
  | 1 => .int .u32 p
  | 2 => .int .u32 d
  | 3 => .int .i32 s
  | 4 => .int .u32 0
  | 5 => pv
  | _ => lv

abbrev nilS : Value := .slice none 0 0
abbrev sl (g n : Nat) : Value := .slice (some ⟨g, 0, none⟩) n n
/-- the types' numbers: a field, a number of 16 bits -/
abbrev TF : Nat := 83
abbrev T16 : Nat := 102

/-- a field whose tables aren't made -/
def Raw (p b wd : Nat) (w : World) : Prop := w.rowIs b TF 7 (fcells wd p 0 0 nilS nilS)
/-- a field whose tables are made -/
def Made (p b wd : Nat) (w : World) : Prop :=
  ∃ g h, g ≠ b ∧ h ≠ b ∧ w.rowIs b TF 7 (fcells wd p 1 0 (sl g (M.ord p)) (sl h (M.ord p + 1))) ∧
    w.rowIs g T16 (M.ord p) (fun i => .int .u16 (M.pw 2 p i)) ∧ w.rowIs h T16 (M.ord p + 1) (fun a => .int .u16 (M.lg p a))

/-- what p must be, of a field of wd bits -/
structure Good (p wd : Nat) : Prop where
  prim : M.Prim p
  kind : Kind wd (M.ord p)
  len : M.blen p = wd + 1
  small : p ≤ 131071

/-- at block b there is the field of p -/
def Fld (p b wd : Nat) (w : World) : Prop := Good p wd ∧ (Raw p b wd w ∨ Made p b wd w)

theorem Fld.made {p b wd : Nat} {w : World} (hg : Good p wd) (h : Made p b wd w) : Fld p b wd w := ⟨hg, Or.inr h⟩

theorem Fld.lt {p b wd : Nat} {w : World} (h : Fld p b wd w) : b < w.heap.size := by
  rcases h.2 with h | ⟨_, _, _, _, h, _⟩
  · exact World.rowIs.lt h
  · exact h.lt
theorem Fld.c0 {p b wd : Nat} {w : World} (h : Fld p b wd w) : w.cell? ⟨b, 0, none⟩ = some (.int .i64 wd) := by
  rcases h.2 with h | ⟨_, _, _, _, h, _⟩
  · exact World.rowIs.cell h (i := 0) (by omega)
  · exact h.cell (i := 0) (by omega)

/-- what leaves the field's blocks alone leaves the field -/
theorem Fld.of_below {p b wd : Nat} {w w' : World} (h : Fld p b wd w) (hb : Below w.heap.size w w') : Fld p b wd w' := by
  refine ⟨h.1, ?_⟩
  rcases h.2 with h | ⟨g, l, g1, g2, h1, h2, h3⟩
  · exact Or.inl (World.rowIs.of_block h (hb.block _ (World.rowIs.lt h)))
  · exact Or.inr ⟨g, l, g1, g2, h1.of_block (hb.block _ h1.lt), h2.of_block (hb.block _ h2.lt), h3.of_block (hb.block _ h3.lt)⟩
theorem Fld.drew {p b wd : Nat} {w : World} (h : Fld p b wd w) : Fld p b wd w.drew := h.of_below (Below.refl _ _).drew

theorem good_of {p wd : Nat} (h : M.Prim p) (hl : M.blen p = wd + 1) (hw : wd = 8 ∨ wd = 16) : Good p wd := by
  have h1 := M.lt_pow_blen p
  refine ⟨h, ?_, hl, ?_⟩
  · unfold M.ord Kind
    rw [hl]
    rcases hw with rfl | rfl
    · exact Or.inl ⟨rfl, by decide⟩
    · exact Or.inr ⟨rfl, by decide⟩
  · rw [hl] at h1
    rcases hw with rfl | rfl <;> omega

set_option maxRecDepth 100000 in
theorem bits14 (b : Nat) (v : Int) (w : World) (hc : w.cell? ⟨b, 0, none⟩ = some (.int .i64 v)) :
    Calls Try.prog 49 #[.pointer (some ⟨b, 0, none⟩)] w fun e w' => e = .returned (.int .i64 v) ∧ w = w' := by
  go_enter Try.func49, Try.ntmps49
  go_wp2_with fail
  go_ret
  exact ⟨rfl, rfl⟩

set_option maxRecDepth 100000 in
theorem bits_nil (w : World) :
    Calls Try.prog 49 #[.pointer none] w fun e w' => e = .returned (.int .i64 0) ∧ w = w' := by
  go_enter Try.func49, Try.ntmps49
  go_wp2_with fail
  go_ret
  exact ⟨rfl, rfl⟩

set_option maxRecDepth 100000 in
theorem size_nil (w : World) :
    Calls Try.prog 40 #[.pointer none] w fun e w' => e = .returned (.int .i64 0) ∧ w = w' := by
  go_enter Try.func40, Try.ntmps40
  go_wp2_with fail
  refine (bits_nil _).mono ?_
  rintro e w' ⟨rfl, rfl⟩
  go_wp2_with fail
  go_ret
  exact ⟨rfl, rfl⟩

set_option maxRecDepth 100000 in
theorem size13 (b wd c : Nat) (hk : Kind wd c) (w : World) (hc : w.cell? ⟨b, 0, none⟩ = some (.int .i64 wd)) :
    Calls Try.prog 40 #[.pointer (some ⟨b, 0, none⟩)] w fun e w' => e = .returned (.int .i64 ((c : Int) + 1)) ∧ w = w' := by
  rcases hk with ⟨rfl, rfl⟩ | ⟨rfl, rfl⟩
  all_goals
    go_enter Try.func40, Try.ntmps40
    go_wp2_with fail
    refine (bits14 b _ _ hc).mono ?_
    rintro e w' ⟨rfl, rfl⟩
    go_wp2_with fail
    refine (bits14 b _ _ hc).mono ?_
    rintro e w' ⟨rfl, rfl⟩
    go_wp2_with fail
    go_ret
    exact ⟨rfl, rfl⟩

set_option maxRecDepth 100000 in
theorem units35 (b wd c : Nat) (hk : Kind wd c) (w : World) (hc : w.cell? ⟨b, 0, none⟩ = some (.int .i64 wd)) :
    Calls Try.prog 60 #[.pointer (some ⟨b, 0, none⟩)] w fun e w' => e = .returned (.int .i64 c) ∧ w = w' := by
  have hb := hk.bounds
  go_enter Try.func60, Try.ntmps60
  go_wp2_with fail
  refine (size13 b wd c hk _ hc).mono ?_
  rintro e w' ⟨rfl, rfl⟩
  go_wp2_with fail
  go_ret
  exact ⟨rfl, rfl⟩

set_option maxRecDepth 100000 in
theorem has_yes (b wd c : Nat) (hk : Kind wd c) (a : Int) (a0 : 0 ≤ a) (a1 : a ≤ c) (w : World) (hc : w.cell? ⟨b, 0, none⟩ = some (.int .i64 wd)) :
    Calls Try.prog 57 #[.pointer (some ⟨b, 0, none⟩), .int .i64 a] w fun e w' => e = .returned (.bool true) ∧ w = w' := by
  go_enter Try.func57, Try.ntmps57
  go_wp2_with fail
  refine (size13 b wd c hk _ hc).mono ?_
  rintro e w' ⟨rfl, rfl⟩
  have hd : decide (a < (c : Int) + 1) = true := by simp; omega
  go_wp2_with fail
  go_ret
  exact ⟨rfl, rfl⟩

set_option maxRecDepth 100000 in
theorem has_no (b wd c : Nat) (hk : Kind wd c) (a : Int) (ha : a < 0 ∨ c < a) (w : World) (hc : w.cell? ⟨b, 0, none⟩ = some (.int .i64 wd)) :
    Calls Try.prog 57 #[.pointer (some ⟨b, 0, none⟩), .int .i64 a] w fun e w' => e = .returned (.bool false) ∧ w = w' := by
  by_cases h0 : 0 ≤ a
  · have hd : decide (a < (c : Int) + 1) = false := by simp; omega
    clear ha
    go_enter Try.func57, Try.ntmps57
    go_wp2_with fail
    refine (size13 b wd c hk _ hc).mono ?_
    rintro e w' ⟨rfl, rfl⟩
    go_wp2_with fail
    go_ret
    exact ⟨rfl, rfl⟩
  · clear ha
    have hd : decide (0 ≤ a) = false := by simpa using h0
    go_enter Try.func57, Try.ntmps57
    go_wp2_with fail
    go_ret
    exact ⟨rfl, rfl⟩

set_option maxRecDepth 100000 in
theorem has_nil (a : Int) (w : World) :
    Calls Try.prog 57 #[.pointer none, .int .i64 a] w fun e w' => e = .returned (.bool false) ∧ w = w' := by
  by_cases h0 : 0 ≤ a
  · have hd : decide (a < 0) = false := by simpa using h0
    go_enter Try.func57, Try.ntmps57
    go_wp2_with fail
    refine (size_nil _).mono ?_
    rintro e w' ⟨rfl, rfl⟩
    go_wp2_with fail
    go_ret
    exact ⟨rfl, rfl⟩
  · have hd : decide (0 ≤ a) = false := by simpa using h0
    go_enter Try.func57, Try.ntmps57
    go_wp2_with fail
    go_ret
    exact ⟨rfl, rfl⟩
end Go.Proofs.Ytomlfmfahlcedaa
