/- Contracts of sync.Once, one goroutine: the parts of its slow road, and Do where it is done. The object of package gf, as it lies in memory; contracts of its plain questions: Bits, Size, has, units, of a field and of nil. The contract of fillTables: the tables of all powers and of all logarithms. The contract of sync.Once's Do with fillTables: behind it the tables are made. Contracts of the field's Log and Exp. Contracts of the field's Mul, Inv, Div and Pow. -/
import Derived.Test.YtgdgimknnjbieaaGreatDoorRows
import Derived.Lib.Hide
import Derived.WalkKit
import Derived.Defers
import Derived.Laws.Pointers
import Derived.Laws.LoneSync
import Derived.RegionTactic
import Derived.RegionCalls
import Derived.Test.YtgdgimknnjbieaaGreatDoorGxa
import Derived.Test.YtgdgimknnjbieaaGreatDoorBsa
import Derived.Deep.OwnRows
import Derived.Deep.RegionWith
import Derived.Deep.DeepCutAuto

namespace Go.Proofs.YtgdgimknnjbieaaGreatDoor
open Go.RowKit

theorem disable (w : World) : (callFunc 197 #[]).run Tryz.prog w = .ok (.value (.tuple #[])) w := run_call_mark0 Tryz.func197 (by kernel_rfl) (by kernel_rfl) (by kernel_rfl) .disable (by kernel_rfl) w
theorem enable (w : World) : (callFunc 199 #[]).run Tryz.prog w = .ok (.value (.tuple #[])) w := run_call_mark0 Tryz.func199 (by kernel_rfl) (by kernel_rfl) (by kernel_rfl) .enable (by kernel_rfl) w
theorem acquire (a : Addr) (w : World) : (callFunc 200 #[.pointer (some a)]).run Tryz.prog w = .ok (.value (.tuple #[])) w := run_call_marked Tryz.func200 (by kernel_rfl) (by kernel_rfl) (by kernel_rfl) .acquire (by kernel_rfl) a w
theorem releaseMerge (a : Addr) (w : World) : (callFunc 202 #[.pointer (some a)]).run Tryz.prog w = .ok (.value (.tuple #[])) w := run_call_marked Tryz.func202 (by kernel_rfl) (by kernel_rfl) (by kernel_rfl) .releaseMerge (by kernel_rfl) a w

set_option maxRecDepth 100000 in
/-- '(*sync/atomic.Bool).Store(true)', entered as a deferred call: the cell holds 1. -/
theorem store_deferred (a : Addr) (x : Value) (u : FrameMode) (w : World) (hc : w.cell? a = some x) (hz : w.frozen? a = false) :
    CallsD Tryz.prog 192 #[.pointer (some a), .bool true] u w fun e u' w' => u' = u ∧ (e = .returned (.tuple #[]) ∧ w' = w.drew.setCell a (.int .u32 1)) := by
  have hc' : w.drew.cell? a = some x := by go_simp
  have hz' : w.drew.frozen? a = false := by go_simp
  have hst := run_call_store (P := Tryz.prog) Tryz.func195 (by kernel_rfl) (by kernel_rfl) (by kernel_rfl) (by kernel_rfl) (k := .u32) (y := 1) hc' hz'
  go_enter_d Tryz.func192, Tryz.ntmps192
  go_wp2
  go_region_calls
  all_goals (go_end0; exact ⟨rfl, rfl⟩)

set_option maxRecDepth 100000 in
/-- '(*sync.Mutex).Unlock', entered as a deferred call, the lock held and nobody waiting (state 1): state 0. -/
theorem unlock_deferred (a : Addr) (u : FrameMode) (w : World) (hc : w.cell? a = some (.int .i32 1)) (hz : w.frozen? a = false) :
    CallsD Tryz.prog 191 #[.pointer (some a)] u w fun e u' w' => u' = u ∧ (e = .returned (.tuple #[]) ∧ w' = w.setCell a (.int .i32 0)) := by
  have hd := disable
  have he := enable
  have hr := releaseMerge
  have hadd := run_call_add (P := Tryz.prog) Tryz.func203 (by kernel_rfl) (by kernel_rfl) (by kernel_rfl) .i32 (by kernel_rfl) (y := -1) (s := 0) hc hz (by simp [go_sem]; rfl)
  have hcv := run_convert_to_unsafe (P := Tryz.prog) (src := 225) (dst := 229) Tryz.underlying225 Tryz.underlying229 (by kernel_rfl) hc
  go_enter_d Tryz.func191, Tryz.ntmps191
  go_wp2
  go_end0
  go_wp2
  go_end0
  exact ⟨rfl, rfl⟩

set_option maxRecDepth 100000 in
/-- '(*sync.Mutex).Lock', the lock free (state 0): state 1. -/
theorem lock_free (a : Addr) (w : World) (hc : w.cell? a = some (.int .i32 0)) (hz : w.frozen? a = false) :
    Calls Tryz.prog 190 #[.pointer (some a)] w fun e w' => e = .returned (.tuple #[]) ∧ w' = w.setCell a (.int .i32 1) := by
  have hd := disable
  have he := enable
  have ha := acquire
  have hcas := run_call_cas_hit (P := Tryz.prog) Tryz.func198 (by kernel_rfl) (by kernel_rfl) (by kernel_rfl) .i32 (by kernel_rfl) (y := 1) hc hz
  have hc' : (w.setCell a (.int .i32 1)).cell? a = some (.int .i32 1) := World.cell?_setCell_same w a _ hc
  have hcv := run_convert_to_unsafe (P := Tryz.prog) (src := 225) (dst := 229) Tryz.underlying225 Tryz.underlying229 (by kernel_rfl) hc'
  go_enter Tryz.func190, Tryz.ntmps190
  go_wp2
  first | go_end0 | (simp only [Exit.inBlock, Exit.then]; refine bodyPost_ret (results_none rfl _ _ _) rfl ?_) | refine bodyPost_ret (results_none rfl _ _ _) rfl ?_
  go_wp2
  go_end0
  exact ⟨rfl, rfl⟩

set_option maxRecDepth 100000 in
/-- '(*sync/atomic.Bool).Load'. -/
theorem load_bool (a : Addr) (d : Int) (w : World) (h0 : w.cell? a = some (.int .u32 d)) :
    Calls Tryz.prog 182 #[.pointer (some a)] w fun e w' => e = .returned (.bool (d != 0)) ∧ w = w' := by
  have hl := run_call_load (P := Tryz.prog) Tryz.func189 (by kernel_rfl) (by kernel_rfl) (by kernel_rfl) .u32 (by kernel_rfl) h0
  go_enter Tryz.func182, Tryz.ntmps182
  go_wp2
  go_ret
  exact ⟨rfl, rfl⟩

set_option maxRecDepth 100000 in
/-- '(*sync.Once).Do', done already: the function is not called. -/
theorem do_done (a : Addr) (fv : Value) (w : World) (h0 : w.cell? a = some (.int .u32 1)) :
    Calls Tryz.prog 171 #[.pointer (some a), fv] w fun e w' => e = .returned (.tuple #[]) ∧ w = w' := by
  have hnot : ∀ (x : Bool) (w : World), (Op.unary .not (.bool x)).run Tryz.prog w = .ok (.bool (!x)) w := fun _ _ => rfl
  go_enter Tryz.func171, Tryz.ntmps171
  go_wp2_with fail
  refine (load_bool a 1 _ h0).mono ?_
  rintro e w' ⟨rfl, rfl⟩
  go_wp2_with fail
  go_end0
  exact ⟨rfl, rfl⟩
end Go.Proofs.YtgdgimknnjbieaaGreatDoor

namespace Go.Proofs.YtgdgimknnjbieaaGreatDoor
open Go.RowKit

/-- how wide a field is, and how many numbers but 0 it has -/
def Kind (wd c : Nat) : Prop := (wd = 8 ∧ c = 255) ∨ (wd = 16 ∧ c = 65535)

theorem Kind.bounds {wd c : Nat} (h : Kind wd c) : 8 ≤ wd ∧ wd ≤ 16 ∧ 255 ≤ c ∧ c ≤ 65535 := by rcases h with ⟨rfl, rfl⟩ | ⟨rfl, rfl⟩ <;> omega

/-- the seven cells of a field -/
def fcells (wd p d s : Int) (pv lv : Value) : Nat → Value
  | 0 => .int .i64 wd
  | 1 => .int .u32 p
  | 2 => .int .u32 d
  | 3 => .int .i32 s
  | 4 => .int .u32 0
  | 5 => pv
  | _ => lv

/-- the types' numbers: a field, a number of 16 bits -/
abbrev TF : Nat := 159
abbrev T16 : Nat := 207

/-- a field whose tables aren't made -/
def Raw (p b wd : Nat) (w : World) : Prop := w.rowIs b TF 7 (fcells wd p 0 0 nilS nilS)
/-- a field whose tables are made -/
def Made (p b wd : Nat) (w : World) : Prop :=
  ∃ g h, g ≠ b ∧ h ≠ b ∧ w.rowIs b TF 7 (fcells wd p 1 0 (sl g (M.ord p)) (sl h (M.ord p + 1))) ∧
    w.rowIs g T16 (M.ord p) (fun i => .int .u16 (M.pw 2 p i)) ∧ w.rowIs h T16 (M.ord p + 1) (fun a => .int .u16 (M.lg p a))

/-- what p must be, of a field of wd bits -/
structure Good (p wd : Nat) : Prop where
  prim : M.Prim p
  kind : Kind wd (M.ord p)
  len : M.blen p = wd + 1
  small : p ≤ 131071

/-- at block b there is the field of p -/
def Fld (p b wd : Nat) (w : World) : Prop := Good p wd ∧ (Raw p b wd w ∨ Made p b wd w)

theorem Fld.made {p b wd : Nat} {w : World} (hg : Good p wd) (h : Made p b wd w) : Fld p b wd w := ⟨hg, Or.inr h⟩

theorem Fld.lt {p b wd : Nat} {w : World} (h : Fld p b wd w) : b < w.heap.size := by
  rcases h.2 with h | ⟨_, _, _, _, h, _⟩
  · exact World.rowIs.lt h
  · exact h.lt
theorem Fld.c0 {p b wd : Nat} {w : World} (h : Fld p b wd w) : w.cell? ⟨b, 0, none⟩ = some (.int .i64 wd) := by
  rcases h.2 with h | ⟨_, _, _, _, h, _⟩
  · exact World.rowIs.cell h (i := 0) (by omega)
  · exact h.cell (i := 0) (by omega)

/-- what leaves the field's blocks alone leaves the field -/
theorem Fld.of_below {p b wd : Nat} {w w' : World} (h : Fld p b wd w) (hb : Below w.heap.size w w') : Fld p b wd w' := by
  refine ⟨h.1, ?_⟩
  rcases h.2 with h | ⟨g, l, g1, g2, h1, h2, h3⟩
  · exact Or.inl (World.rowIs.of_block h (hb.block _ (World.rowIs.lt h)))
  · exact Or.inr ⟨g, l, g1, g2, h1.of_block (hb.block _ h1.lt), h2.of_block (hb.block _ h2.lt), h3.of_block (hb.block _ h3.lt)⟩
theorem Fld.drew {p b wd : Nat} {w : World} (h : Fld p b wd w) : Fld p b wd w.drew := h.of_below (Below.refl _ _).drew

theorem good_of {p wd : Nat} (h : M.Prim p) (hl : M.blen p = wd + 1) (hw : wd = 8 ∨ wd = 16) : Good p wd := by
  have h1 := M.lt_pow_blen p
  refine ⟨h, ?_, hl, ?_⟩
  · unfold M.ord Kind
    rw [hl]
    rcases hw with rfl | rfl
    · exact Or.inl ⟨rfl, by decide⟩
    · exact Or.inr ⟨rfl, by decide⟩
  · rw [hl] at h1
    rcases hw with rfl | rfl <;> omega

set_option maxRecDepth 100000 in
theorem bits14 (b : Nat) (v : Int) (w : World) (hc : w.cell? ⟨b, 0, none⟩ = some (.int .i64 v)) :
    Calls Tryz.prog 170 #[.pointer (some ⟨b, 0, none⟩)] w fun e w' => e = .returned (.int .i64 v) ∧ w = w' := by
  go_enter Tryz.func170, Tryz.ntmps170
  go_wp2_with fail
  go_ret
  exact ⟨rfl, rfl⟩

set_option maxRecDepth 100000 in
theorem size13 (b wd c : Nat) (hk : Kind wd c) (w : World) (hc : w.cell? ⟨b, 0, none⟩ = some (.int .i64 wd)) :
    Calls Tryz.prog 132 #[.pointer (some ⟨b, 0, none⟩)] w fun e w' => e = .returned (.int .i64 ((c : Int) + 1)) ∧ w = w' := by
  rcases hk with ⟨rfl, rfl⟩ | ⟨rfl, rfl⟩
  all_goals
    go_enter Tryz.func132, Tryz.ntmps132
    go_wp2_with fail
    refine (bits14 b _ _ hc).mono ?_
    rintro e w' ⟨rfl, rfl⟩
    go_wp2_with fail
    refine (bits14 b _ _ hc).mono ?_
    rintro e w' ⟨rfl, rfl⟩
    go_wp2_with fail
    go_ret
    exact ⟨rfl, rfl⟩

set_option maxRecDepth 100000 in
theorem units35 (b wd c : Nat) (hk : Kind wd c) (w : World) (hc : w.cell? ⟨b, 0, none⟩ = some (.int .i64 wd)) :
    Calls Tryz.prog 168 #[.pointer (some ⟨b, 0, none⟩)] w fun e w' => e = .returned (.int .i64 c) ∧ w = w' := by
  have hb := hk.bounds
  go_enter Tryz.func168, Tryz.ntmps168
  go_wp2_with fail
  refine (size13 b wd c hk _ hc).mono ?_
  rintro e w' ⟨rfl, rfl⟩
  go_wp2_with fail
  go_ret
  exact ⟨rfl, rfl⟩

set_option maxRecDepth 100000 in
theorem has_yes (b wd c : Nat) (hk : Kind wd c) (a : Int) (a0 : 0 ≤ a) (a1 : a ≤ c) (w : World) (hc : w.cell? ⟨b, 0, none⟩ = some (.int .i64 wd)) :
    Calls Tryz.prog 167 #[.pointer (some ⟨b, 0, none⟩), .int .i64 a] w fun e w' => e = .returned (.bool true) ∧ w = w' := by
  go_enter Tryz.func167, Tryz.ntmps167
  go_wp2_with fail
  refine (size13 b wd c hk _ hc).mono ?_
  rintro e w' ⟨rfl, rfl⟩
  have hd : decide (a < (c : Int) + 1) = true := by simp; omega
  go_wp2_with fail
  go_ret
  exact ⟨rfl, rfl⟩

set_option maxRecDepth 100000 in
theorem has_no (b wd c : Nat) (hk : Kind wd c) (a : Int) (ha : a < 0 ∨ c < a) (w : World) (hc : w.cell? ⟨b, 0, none⟩ = some (.int .i64 wd)) :
    Calls Tryz.prog 167 #[.pointer (some ⟨b, 0, none⟩), .int .i64 a] w fun e w' => e = .returned (.bool false) ∧ w = w' := by
  by_cases h0 : 0 ≤ a
  · have hd : decide (a < (c : Int) + 1) = false := by simp; omega
    clear ha
    go_enter Tryz.func167, Tryz.ntmps167
    go_wp2_with fail
    refine (size13 b wd c hk _ hc).mono ?_
    rintro e w' ⟨rfl, rfl⟩
    go_wp2_with fail
    go_ret
    exact ⟨rfl, rfl⟩
  · clear ha
    have hd : decide (0 ≤ a) = false := by simpa using h0
    go_enter Tryz.func167, Tryz.ntmps167
    go_wp2_with fail
    go_ret
    exact ⟨rfl, rfl⟩

end Go.Proofs.YtgdgimknnjbieaaGreatDoor

namespace Go.Proofs.YtgdgimknnjbieaaGreatDoor
open Go.RowKit

theorem info16 : (Tryz.prog.info? T16).map (fun i => (i.zero, i.size, i.bytes)) = some (some (.int .u16 0), 1, 2) := by kernel_rfl

/-- behind both makes -/
def MadeTwo (c : Nat) (w : World) (s3 s4 : Value) (wr : World) : Prop :=
  ∃ g h, g ≠ h ∧ w.heap.size ≤ g ∧ w.heap.size ≤ h ∧ s3 = sl g c ∧ s4 = sl h (c + 1) ∧ wr.rowIs g T16 c (fun _ => .int .u16 0) ∧ wr.rowIs h T16 (c + 1) (fun _ => .int .u16 0) ∧ Below w.heap.size w wr

theorem madeTwo1 (c : Nat) (w : World) : MadeTwo c w (sl w.heap.size c) (sl (w.heap.size + 1) (c + 1)) ((w.alloc (.cells (madeCells #[.int .u16 0] c) T16)).alloc (.cells (madeCells #[.int .u16 0] (c + 1)) T16)).drew := by
  have h1 := World.rowIs_made w (.int .u16 0) c T16
  have h2 := World.rowIs_made (w.alloc (.cells (madeCells #[.int .u16 0] c) T16)) (.int .u16 0) (c + 1) T16
  rw [World.size_alloc] at h2
  exact ⟨_, _, by omega, Nat.le_refl _, by omega, rfl, rfl, (h1.alloc _).drew, h2.drew, (((Below.refl _ _).alloc (Nat.le_refl _) _).alloc (by simp) _).drew⟩

theorem madeTwo2 (c : Nat) (w : World) : MadeTwo c w (sl (w.heap.size + 1) c) (sl w.heap.size (c + 1)) ((w.alloc (.cells (madeCells #[.int .u16 0] (c + 1)) T16)).alloc (.cells (madeCells #[.int .u16 0] c) T16)).drew := by
  have h1 := World.rowIs_made w (.int .u16 0) (c + 1) T16
  have h2 := World.rowIs_made (w.alloc (.cells (madeCells #[.int .u16 0] (c + 1)) T16)) (.int .u16 0) c T16
  rw [World.size_alloc] at h2
  exact ⟨_, _, by omega, by omega, Nat.le_refl _, rfl, rfl, h2.drew, (h1.alloc _).drew, (((Below.refl _ _).alloc (Nat.le_refl _) _).alloc (by simp) _).drew⟩

/-- in the loop, behind k rounds -/
def FillAt (p c g h : Nat) (w : World) (s5 s17 : Value) (wr : World) : Prop :=
  ∃ k : Nat, k ≤ c ∧ s17 = .int .i64 k ∧ s5 = .int .u32 (M.pw 2 p k) ∧ wr.rowIs g T16 c (fun i => .int .u16 (if i < k then M.pw 2 p i else 0 : Nat)) ∧ wr.rowIs h T16 (c + 1) (fun a => .int .u16 (M.lgTo p a k)) ∧ Below w.heap.size w wr

/-- what is laid behind all -/
def Filled (p b wd : Nat) (d s : Int) (w : World) (e : Ending) (w' : World) : Prop :=
  e = .returned (.tuple #[]) ∧ ∃ g h, g ≠ b ∧ h ≠ b ∧ w'.rowIs b TF 7 (fcells wd p d s (sl g (M.ord p)) (sl h (M.ord p + 1))) ∧
    w'.rowIs g T16 (M.ord p) (fun i => .int .u16 (M.pw 2 p i)) ∧ w'.rowIs h T16 (M.ord p + 1) (fun a => .int .u16 (M.lg p a)) ∧ Turned b w w'

theorem fillAt_start {p c g h : Nat} {w wr : World} (hp : M.pw 2 p 0 = 1) (h1 : wr.rowIs g T16 c (fun _ => .int .u16 0)) (h2 : wr.rowIs h T16 (c + 1) (fun _ => .int .u16 0)) (hb : Below w.heap.size w wr) :
    FillAt p c g h w (.int .u32 1) (.int .i64 0) wr :=
  ⟨0, Nat.zero_le _, rfl, by rw [hp]; rfl, h1.congr (fun i _ => by simp), h2.congr (fun i _ => by simp [M.lgTo]), hb⟩

theorem fillAt_step {p c g h k x : Nat} {w wr : World} {s5 : Value} (hk : k < c) (hgh : g ≠ h) (gn : w.heap.size ≤ g) (hn : w.heap.size ≤ h) (hx : M.pw 2 p k = x) (hs : s5 = .int .u32 (M.pw 2 p (k + 1)))
    (h1 : wr.rowIs g T16 c (fun i => .int .u16 (if i < k then M.pw 2 p i else 0 : Nat))) (h2 : wr.rowIs h T16 (c + 1) (fun a => .int .u16 (M.lgTo p a k))) (hb : Below w.heap.size w wr) :
    FillAt p c g h w s5 (.int .i64 (k + 1 : Nat)) ((wr.setCell ⟨g, k, none⟩ (.int .u16 x)).setCell ⟨h, x, none⟩ (.int .u16 k)) := by
  refine ⟨k + 1, hk, rfl, hs, ?_, ?_, (hb.setCell (p := ⟨g, k, none⟩) gn _).setCell (p := ⟨h, x, none⟩) hn _⟩
  · refine ((h1.set k (.int .u16 x)).setOther (a := ⟨h, x, none⟩) hgh _).congr (fun i _ => ?_)
    rcases Nat.lt_trichotomy i k with hl | hl | hl
    · rw [if_neg (by omega), if_pos hl, if_pos (by omega)]
    · subst hl; rw [if_pos rfl, if_pos (by omega), hx]
    · rw [if_neg (by omega), if_neg (by omega), if_neg (by omega)]
  · refine ((h2.setOther (a := ⟨g, k, none⟩) (Ne.symm hgh) (.int .u16 x)).set x (.int .u16 k)).congr (fun i _ => ?_)
    rw [M.lgTo_succ, hx]
    by_cases hi : i = x
    · rw [if_pos hi, if_pos hi.symm]
    · rw [if_neg hi, if_neg (fun e => hi e.symm)]

theorem filled_end {p b c wd g h : Nat} {d s : Int} {pv lv : Value} {w wr : World} (hc : M.ord p = c) (hr : w.rowIs b TF 7 (fcells wd p d s pv lv)) (gn : w.heap.size ≤ g) (hn : w.heap.size ≤ h)
    (h1 : wr.rowIs g T16 c (fun i => .int .u16 (if i < c then M.pw 2 p i else 0 : Nat))) (h2 : wr.rowIs h T16 (c + 1) (fun a => .int .u16 (M.lgTo p a c))) (hb : Below w.heap.size w wr) :
    Filled p b wd d s w (.returned (.tuple #[])) ((wr.setCell ⟨b, 5, none⟩ (sl g c)).setCell ⟨b, 6, none⟩ (sl h (c + 1))) := by
  subst hc
  have hbl := hr.lt
  refine ⟨rfl, g, h, by omega, by omega, ?_, ?_, ?_, ((Turned.of_below hb).setCell 5 _).setCell 6 _⟩
  · refine (((hr.of_block (hb.block b hbl)).set 5 (sl g (M.ord p))).set 6 (sl h (M.ord p + 1))).congr (fun i hi => ?_)
    match i, hi with
    | 0, _ => rfl
    | 1, _ => rfl
    | 2, _ => rfl
    | 3, _ => rfl
    | 4, _ => rfl
    | 5, _ => rfl
    | 6, _ => rfl
  · exact ((h1.setOther (a := ⟨b, 5, none⟩) (by simp; omega) _).setOther (a := ⟨b, 6, none⟩) (by simp; omega) _).congr (fun i hi => by rw [if_pos hi])
  · exact (h2.setOther (a := ⟨b, 5, none⟩) (by simp; omega) _).setOther (a := ⟨b, 6, none⟩) (by simp; omega) _

set_option maxRecDepth 100000 in
set_option maxHeartbeats 1000000 in
theorem fill38 (p b wd : Nat) (hg : Good p wd) (d s : Int) (pv lv : Value) (w : World) (hr : w.rowIs b TF 7 (fcells wd p d s pv lv)) :
    Calls Tryz.prog 172 #[.pointer (some ⟨b, 0, none⟩)] w (Filled p b wd d s w) := by
  have hk := hg.kind
  have kb := hk.bounds
  generalize hc : M.ord p = c at *
  have HC := Lib.hid hc
  clear hc
  have hc0 : w.cell? ⟨b, 0, none⟩ = some (.int .i64 wd) := hr.cell (i := 0) (by omega)
  have hmk1 := run_make_row' (P := Tryz.prog) 157 T16 (.int .u16 0) 2 Tryz.underlying157 info16 rfl .i64 .i64 c (by omega) (by omega)
  have hmk2 := run_make_row' (P := Tryz.prog) 157 T16 (.int .u16 0) 2 Tryz.underlying157 info16 rfl .u32 .u32 (c + 1) (by omega) (by omega)
  rw [show ((c + 1 : Nat) : Int) = (c : Int) + 1 from rfl] at hmk2
  have hca : ∀ o : Obj, (w.alloc o).cell? ⟨b, 0, none⟩ = some (.int .i64 wd) := fun o => (World.cell?_alloc_past _ _ _ hr.lt).trans hc0
  go_enter Tryz.func172, Tryz.ntmps172
  go_wp2_with fail
  refine (size13 b wd c hk _ hc0).mono ?_
  rintro e w' ⟨rfl, rfl⟩
  go_wp2_with fail
  go_cut [3, 4] (fun s3 s4 wr => MadeTwo c w s3 s4 wr)
  case first =>
    go_region_with (go_at_call 168; refine (units35 b wd c hk _ (by go_simp)).mono ?_; rintro e w' ⟨rfl, rfl⟩)
    all_goals
      go_wp2_with fail
      go_meet
      case rel => first | exact madeTwo1 c w | exact madeTwo2 c w
  case rest =>
    obtain ⟨g, h, hgh, gn, hn, rfl, rfl, r1, r2, hb⟩ := hcut
    clear hmk1 hmk2 hca
    have hp0 : M.pw 2 p 0 = 1 := M.md_one (M.irr_blen hg.prim.1).1
    have hst := fillAt_start hp0 r1 r2 hb
    clear r1 r2 hb hp0
    go_wp2_with fail
    go_loopw [5, 17] (fun s5 s17 wr => FillAt p c g h w s5 s17 wr) (fun _ s17 _ => c - (intOf s17).toNat)
    case atStart => exact hst
    case round =>
      obtain ⟨k, hkc, rfl, rfl, r1, r2, hb⟩ := hrel
      by_cases hlt : k < c
      · have hxr := M.pw_range hg.prim k
        rw [HC.out] at hxr
        have HS := Lib.hid (M.pw_step (k := k) hg.prim.1)
        obtain ⟨x, hx⟩ : ∃ x, M.pw 2 p k = x := ⟨_, rfl⟩
        have HX := Lib.hid hx
        rw [hx] at hxr HS ⊢
        clear hx
        have hbl := hr.lt
        have g1 : wr.cell? ⟨g, k, none⟩ = some (.int .u16 0) := by rw [r1.cell hlt]; simp
        have f1 : wr.frozen? ⟨g, k, none⟩ = false := r1.frozen k
        have r2' := r2.setOther (a := ⟨g, k, none⟩) (Ne.symm hgh) (.int .u16 x)
        have g2 : (wr.setCell ⟨g, k, none⟩ (.int .u16 x)).cell? ⟨h, x, none⟩ = some (.int .u16 (M.lgTo p x k)) := r2'.cell (by omega)
        have f2 : (wr.setCell ⟨g, k, none⟩ (.int .u16 x)).frozen? ⟨h, x, none⟩ = false := r2'.frozen x
        have rb := ((hr.of_block (hb.block b hbl)).setOther (a := ⟨g, k, none⟩) (by simp; omega) (.int .u16 x)).setOther (a := ⟨h, x, none⟩) (by simp; omega) (.int .u16 k)
        have g3 : ((wr.setCell ⟨g, k, none⟩ (.int .u16 x)).setCell ⟨h, x, none⟩ (.int .u16 k)).cell? ⟨b, 1, none⟩ = some (.int .u32 p) := rb.cell (i := 1) (by omega)
        clear rb r2'
        have R1 := Lib.hid r1
        have R2 := Lib.hid r2
        have HB := Lib.hid hb
        clear r1 r2 hb
        have HO := Lib.hid (M.ord_succ hg.prim.1)
        have hps := hg.small
        by_cases hov : c + 1 ≤ 2 * x
        · go_wp2_with fail
          refine ⟨fillAt_step hlt hgh gn hn HX.out ?_ R1.out R2.out HB.out, by simp [intOf]; omega⟩
          rw [HS.out, if_pos (by rw [← HO.out, HC.out]; exact hov), u32_xor _ _ (by omega) (by omega) (by omega) (by omega)]
          congr 4
          omega
        · go_wp2_with fail
          refine ⟨fillAt_step hlt hgh gn hn HX.out ?_ R1.out R2.out HB.out, by simp [intOf]; omega⟩
          rw [HS.out, if_neg (by rw [← HO.out, HC.out]; exact hov)]
          congr 1
          omega
      · obtain rfl : k = c := by omega
        have hbl := hr.lt
        have rb := hr.of_block (hb.block b hbl)
        have b5 : wr.cell? ⟨b, 5, none⟩ = some pv := rb.cell (i := 5) (by omega)
        have z5 : wr.frozen? ⟨b, 5, none⟩ = false := rb.frozen 5
        have rb' := rb.set 5 (sl g k)
        have b6 : (wr.setCell ⟨b, 5, none⟩ (sl g k)).cell? ⟨b, 6, none⟩ = some lv := rb'.cell (i := 6) (by omega)
        have z6 : (wr.setCell ⟨b, 5, none⟩ (sl g k)).frozen? ⟨b, 6, none⟩ = false := rb'.frozen 6
        have FE := Lib.hid (filled_end (d := d) (s := s) HC.out hr gn hn r1 r2 hb)
        clear rb rb' r1 r2 hb hr hst
        go_wp2_with fail
        go_end0
        exact FE.out
end Go.Proofs.YtgdgimknnjbieaaGreatDoor

namespace Go.Proofs.YtgdgimknnjbieaaGreatDoor
open Go.RowKit

theorem raw_lock {p b wd : Nat} {w : World} (h : Raw p b wd w) : (w.setCell ⟨b, 3, none⟩ (.int .i32 1)).rowIs b TF 7 (fcells wd p 0 1 nilS nilS) :=
  (World.rowIs.set h 3 (.int .i32 1)).congr (fun i hi => by
    match i, hi with
    | 0, _ => rfl
    | 1, _ => rfl
    | 2, _ => rfl
    | 3, _ => rfl
    | 4, _ => rfl
    | 5, _ => rfl
    | 6, _ => rfl)

theorem made_end {p b wd : Nat} {w w1 w2 : World} {e : Ending} (ht : Turned b w w1) (hf : Filled p b wd 0 1 w1 e w2) :
    Made p b wd ((w2.drew.setCell ⟨b, 2, none⟩ (.int .u32 1)).setCell ⟨b, 3, none⟩ (.int .i32 0)) ∧ Turned b w ((w2.drew.setCell ⟨b, 2, none⟩ (.int .u32 1)).setCell ⟨b, 3, none⟩ (.int .i32 0)) := by
  obtain ⟨_, g, h, hg, hh, rb, r1, r2, ht2⟩ := hf
  refine ⟨⟨g, h, hg, hh, ?_, ?_, ?_⟩, ((ht.trans ht2).drew.setCell 2 _).setCell 3 _⟩
  · refine ((rb.drew.set 2 (.int .u32 1)).set 3 (.int .i32 0)).congr (fun i hi => ?_)
    match i, hi with
    | 0, _ => rfl
    | 1, _ => rfl
    | 2, _ => rfl
    | 3, _ => rfl
    | 4, _ => rfl
    | 5, _ => rfl
    | 6, _ => rfl
  · exact (r1.drew.setOther (a := ⟨b, 2, none⟩) hg _).setOther (a := ⟨b, 3, none⟩) hg _
  · exact (r2.drew.setOther (a := ⟨b, 2, none⟩) hh _).setOther (a := ⟨b, 3, none⟩) hh _

def DoPost (p b wd : Nat) (w : World) (e : Ending) (w' : World) : Prop := e = .returned (.tuple #[]) ∧ Made p b wd w' ∧ Turned b w w'

set_option maxRecDepth 100000 in
set_option maxHeartbeats 1600000 in
theorem slow48 (p b wd : Nat) (hg : Good p wd) (w : World) (h : Raw p b wd w) :
    Calls Tryz.prog 183 #[.pointer (some ⟨b, 2, none⟩), .func (.func 172) #[.pointer (some ⟨b, 0, none⟩)] #[]] w (DoPost p b wd w) := by
  have h3 : w.cell? ⟨b, 3, none⟩ = some (.int .i32 0) := World.rowIs.cell h (i := 3) (by omega)
  have f3 : w.frozen? ⟨b, 3, none⟩ = false := World.rowIs.frozen h 3
  have rl := raw_lock h
  have ht : Turned b w (w.setCell ⟨b, 3, none⟩ (.int .i32 1)) := (Turned.refl b w).setCell 3 _
  have hnot : ∀ (x : Bool) (w : World), (Op.unary .not (.bool x)).run Tryz.prog w = .ok (.bool (!x)) w := fun _ _ => rfl
  go_enter_defers Tryz.func183, Tryz.ntmps183
  go_wp2_with fail
  refine (lock_free ⟨b, 3, none⟩ _ h3 f3).mono ?_
  rintro e w' ⟨rfl, rfl⟩
  clear h h3 f3
  generalize w.setCell ⟨b, 3, none⟩ (.int .i32 1) = w1 at *
  have l2 : w1.cell? ⟨b, 2, none⟩ = some (.int .u32 0) := rl.cell (i := 2) (by omega)
  go_wp2_with fail
  refine (load_bool ⟨b, 2, none⟩ 0 _ l2).mono ?_
  rintro e w' ⟨rfl, rfl⟩
  go_wp2_with fail
  refine (fill38 p b wd hg 0 1 nilS nilS _ rl).mono ?_
  intro e w2 hf
  obtain ⟨hM, hT⟩ := made_end ht hf
  obtain ⟨rfl, g, l, _, _, rb, _, _, _⟩ := hf
  have hP : DoPost p b wd w (.returned (.tuple #[])) ((w2.drew.setCell ⟨b, 2, none⟩ (.int .u32 1)).setCell ⟨b, 3, none⟩ (.int .i32 0)) := ⟨rfl, hM, hT⟩
  have HP := Lib.hid hP
  clear hP hM hT ht rl l2
  have c2 : w2.cell? ⟨b, 2, none⟩ = some (.int .u32 0) := rb.cell (i := 2) (by omega)
  have z2 : w2.frozen? ⟨b, 2, none⟩ = false := rb.frozen 2
  have rb2 := rb.drew.set 2 (.int .u32 1)
  have c3 : (w2.drew.setCell ⟨b, 2, none⟩ (.int .u32 1)).cell? ⟨b, 3, none⟩ = some (.int .i32 1) := rb2.cell (i := 3) (by omega)
  have z3 : (w2.drew.setCell ⟨b, 2, none⟩ (.int .u32 1)).frozen? ⟨b, 3, none⟩ = false := rb2.frozen 3
  go_wp2_with fail
  refine leaves_cons (f := 192) (args := #[.pointer (some ⟨b, 2, none⟩), .bool true]) (by simp) (by simp [go_sem]) ?_
  refine (store_deferred ⟨b, 2, none⟩ (.int .u32 0) .returning _ c2 z2).mono ?_
  rintro e u' w'' ⟨rfl, rfl, rfl⟩
  refine leaves_cons (f := 191) (args := #[.pointer (some ⟨b, 3, none⟩)]) (by simp [settle]) (by simp [go_sem]) ?_
  refine (unlock_deferred ⟨b, 3, none⟩ _ _ c3 z3).mono ?_
  rintro e u' w'' ⟨rfl, rfl, rfl⟩
  exact ⟨_, results_none rfl _ _ _, HP.out⟩

set_option maxRecDepth 100000 in
set_option maxHeartbeats 1000000 in
theorem do_first (p b wd : Nat) (hg : Good p wd) (w : World) (h : Raw p b wd w) :
    Calls Tryz.prog 171 #[.pointer (some ⟨b, 2, none⟩), .func (.func 172) #[.pointer (some ⟨b, 0, none⟩)] #[]] w (DoPost p b wd w) := by
  have hnot : ∀ (x : Bool) (w : World), (Op.unary .not (.bool x)).run Tryz.prog w = .ok (.bool (!x)) w := fun _ _ => rfl
  have l2 : w.cell? ⟨b, 2, none⟩ = some (.int .u32 0) := World.rowIs.cell h (i := 2) (by omega)
  have HH := Lib.hid h
  clear h
  go_enter Tryz.func171, Tryz.ntmps171
  go_wp2_with fail
  refine (load_bool ⟨b, 2, none⟩ 0 _ l2).mono ?_
  rintro e w' ⟨rfl, rfl⟩
  go_wp2_with fail
  refine (slow48 p b wd hg _ HH.out).mono ?_
  rintro e w' ⟨rfl, hM, hT⟩
  have HP := Lib.hid (show DoPost p b wd w (.returned (.tuple #[])) w' from ⟨rfl, hM, hT⟩)
  clear hM hT
  go_wp2_with fail
  go_end0
  exact HP.out

/-- Do, whether it is done or not -/
theorem do37 (p b wd : Nat) (w : World) (h : Fld p b wd w) :
    Calls Tryz.prog 171 #[.pointer (some ⟨b, 2, none⟩), .func (.func 172) #[.pointer (some ⟨b, 0, none⟩)] #[]] w (DoPost p b wd w) := by
  obtain ⟨hg, h | h⟩ := h
  · exact do_first p b wd hg w h
  · obtain ⟨g, l, h1, h2, rb, h3⟩ := h
    refine (do_done ⟨b, 2, none⟩ _ w (rb.cell (i := 2) (by omega))).mono ?_
    rintro e w' ⟨rfl, rfl⟩
    exact ⟨rfl, ⟨g, l, h1, h2, rb, h3⟩, Turned.refl _ _⟩
end Go.Proofs.YtgdgimknnjbieaaGreatDoor

namespace Go.Proofs.YtgdgimknnjbieaaGreatDoor
open Go.RowKit

/-- v is told; the field is there; nothing else has turned -/
def Ans (p b wd : Nat) (w : World) (v : Value) (e : Ending) (w' : World) : Prop := e = .returned v ∧ Fld p b wd w' ∧ Turned b w w'

theorem Good.bounds {p wd : Nat} (h : Good p wd) : 255 ≤ M.ord p ∧ M.ord p ≤ 65535 := ⟨h.kind.bounds.2.2.1, h.kind.bounds.2.2.2⟩

set_option maxRecDepth 100000 in
set_option maxHeartbeats 1000000 in
theorem log_yes (p b wd : Nat) (a : Int) (a0 : 1 ≤ a) (a1 : a ≤ M.ord p) (w : World) (h : Fld p b wd w) :
    Calls Tryz.prog 134 #[.pointer (some ⟨b, 0, none⟩), .int .i64 a] w (Ans p b wd w (.tuple #[.int .i64 (M.lg p a.toNat), .bool true])) := by
  have hg := h.1
  have hk := hg.kind
  have kb := hk.bounds
  have hc0 := h.c0
  have hne : (a == 0) = false := by simp; omega
  have HH := Lib.hid h
  clear h
  obtain ⟨A, rfl⟩ := Int.eq_ofNat_of_zero_le (show 0 ≤ a by omega)
  have hl := M.lg_lt p A
  obtain ⟨c, hc⟩ : ∃ c, M.ord p = c := ⟨_, rfl⟩
  rw [hc] at hk kb a1 hl
  have HC := Lib.hid hc
  clear hc
  go_enter Tryz.func134, Tryz.ntmps134
  go_wp2_with fail
  refine (has_yes b wd c hk _ (by omega) a1 _ hc0).mono ?_
  rintro e w' ⟨rfl, rfl⟩
  go_wp2_with fail
  refine (do37 p b wd _ HH.out).mono ?_
  rintro e w' ⟨rfl, hM, hT⟩
  have HP := Lib.hid (show Ans p b wd w (.tuple #[.int .i64 (M.lg p (A : Int).toNat), .bool true]) (.returned (.tuple #[.int .i64 (M.lg p (A : Int).toNat), .bool true])) w' from ⟨rfl, Fld.made hg hM, hT⟩)
  obtain ⟨g, l, _, _, rb, _, r2⟩ := hM
  rw [HC.out] at rb r2
  have c6 : w'.cell? ⟨b, 6, none⟩ = some (sl l (c + 1)) := rb.cell (i := 6) (by omega)
  have cl : w'.cell? ⟨l, A, none⟩ = some (.int .u16 (M.lg p A)) := r2.cell (by omega)
  clear rb r2 hT hc0
  go_wp2_with fail
  go_ret2
  exact HP.out

set_option maxRecDepth 100000 in
theorem log_zero (f : Option Addr) (w : World) :
    Calls Tryz.prog 134 #[.pointer f, .int .i64 0] w fun e w' => e = .returned (.tuple #[.int .i64 0, .bool false]) ∧ w = w' := by
  go_enter Tryz.func134, Tryz.ntmps134
  go_wp2_with fail
  go_ret2
  exact ⟨rfl, rfl⟩

set_option maxRecDepth 100000 in
theorem log_no (p b wd : Nat) (a : Int) (ha : a < 1 ∨ M.ord p < a) (w : World) (h : Fld p b wd w) :
    Calls Tryz.prog 134 #[.pointer (some ⟨b, 0, none⟩), .int .i64 a] w fun e w' => e = .returned (.tuple #[.int .i64 0, .bool false]) ∧ w = w' := by
  by_cases h0 : a = 0
  · subst h0; exact log_zero _ w
  have hk := h.1.kind
  have hc0 := h.c0
  have hne : (a == 0) = false := by simpa using h0
  have HA := Lib.hid (show a < 0 ∨ M.ord p < a by omega)
  clear h ha h0
  go_enter Tryz.func134, Tryz.ntmps134
  go_wp2_with fail
  refine (has_no b wd _ hk _ HA.out _ hc0).mono ?_
  rintro e w' ⟨rfl, rfl⟩
  go_wp2_with fail
  go_ret2
  exact ⟨rfl, rfl⟩

theorem tmod_emod (n : Int) (c : Nat) (hc : 0 < c) : (n.tmod c < 0 → n.tmod c + c = n % c) ∧ (¬ n.tmod c < 0 → n.tmod c = n % c) ∧ -(c : Int) < n.tmod c ∧ n.tmod c < c := by
  have h1 := Int.emod_nonneg n (show (c : Int) ≠ 0 by omega)
  have h2 := Int.emod_lt_of_pos n (show (0 : Int) < c by omega)
  have h3 := Int.tmod_eq_emod (a := n) (b := c)
  by_cases hn : 0 ≤ n ∨ (c : Int) ∣ n
  · rw [if_pos hn] at h3
    refine ⟨fun h => ?_, fun h => ?_, ?_, ?_⟩ <;> omega
  · rw [if_neg hn] at h3
    have hz : n % c ≠ 0 := fun e => hn (Or.inr (Int.dvd_of_emod_eq_zero e))
    refine ⟨fun h => ?_, fun h => ?_, ?_, ?_⟩ <;> simp at h3 <;> omega

set_option maxRecDepth 100000 in
set_option maxHeartbeats 1000000 in
theorem exp25 (p b wd : Nat) (n : Int) (w : World) (h : Fld p b wd w) :
    Calls Tryz.prog 135 #[.pointer (some ⟨b, 0, none⟩), .int .i64 n] w (Ans p b wd w (.int .i64 (M.ex p n))) := by
  have hg := h.1
  have hk := hg.kind
  have kb := hk.bounds
  have hc0 := h.c0
  have HH := Lib.hid h
  have hxr := M.ex_range hg.prim n
  clear h
  have HE := Lib.hid (M.ex_mod (p := p) n)
  obtain ⟨c, hc⟩ : ∃ c, M.ord p = c := ⟨_, rfl⟩
  rw [hc] at hk kb HE hxr
  have HC := Lib.hid hc
  clear hc
  have hz : ((c : Int) + 1 == 0) = false := by simp; omega
  have hz2 : ((c : Int) == 0) = false := by simp; omega
  obtain ⟨t1, t2, t3, t4⟩ := tmod_emod n c (by omega)
  have T1 := Lib.hid t1
  have T2 := Lib.hid t2
  clear t1 t2
  go_enter Tryz.func135, Tryz.ntmps135
  go_wp2_with fail
  refine (size13 b wd c hk _ hc0).mono ?_
  rintro e w' ⟨rfl, rfl⟩
  go_wp2_with fail
  refine (do37 p b wd _ HH.out).mono ?_
  rintro e w' ⟨rfl, hM, hT⟩
  have HP := Lib.hid (show Ans p b wd w (.int .i64 (M.ex p n)) (.returned (.int .i64 (M.ex p n))) w' from ⟨rfl, Fld.made hg hM, hT⟩)
  obtain ⟨g, l, _, _, rb, r1, _⟩ := hM
  rw [HC.out] at rb r1
  have hc0' : w'.cell? ⟨b, 0, none⟩ = some (.int .i64 wd) := rb.cell (i := 0) (by omega)
  have c5 : w'.cell? ⟨b, 5, none⟩ = some (sl g c) := rb.cell (i := 5) (by omega)
  have R1 := Lib.hid r1
  clear rb r1 hT hc0
  go_wp2_with fail
  refine (units35 b wd c hk _ hc0').mono ?_
  rintro e w' ⟨rfl, rfl⟩
  by_cases hneg : n.tmod c < 0
  · have hq := T1.out hneg
    have cg : w'.cell? ⟨g, (n.tmod c + c).toNat, none⟩ = some (.int .u16 (M.ex p n)) := by
      rw [R1.out.cell (i := (n.tmod c + c).toNat) (by omega), hq, HE.out]
    clear hq
    go_wp2_with fail
    refine (units35 b wd c hk _ hc0').mono ?_
    rintro e w' ⟨rfl, rfl⟩
    go_wp2_with fail
    go_ret
    exact HP.out
  · have hq := T2.out (by omega)
    have cg : w'.cell? ⟨g, (n.tmod c).toNat, none⟩ = some (.int .u16 (M.ex p n)) := by
      rw [R1.out.cell (i := (n.tmod c).toNat) (by omega), hq, HE.out]
    clear hq
    go_wp2_with fail
    go_ret
    exact HP.out
end Go.Proofs.YtgdgimknnjbieaaGreatDoor

namespace Go.Proofs.YtgdgimknnjbieaaGreatDoor
open Go.RowKit

/-- is a one of the numbers 0 .. c? -/
def inB (c : Nat) (a : Int) : Bool := decide (0 ≤ a ∧ a ≤ c)
theorem inB_iff {c : Nat} {a : Int} : inB c a = true ↔ 0 ≤ a ∧ a ≤ c := by simp [inB]
theorem inB_false {c : Nat} {a : Int} : inB c a = false ↔ ¬ (0 ≤ a ∧ a ≤ c) := by simp [inB]

/-- the field's product -/
def fmul (p : Nat) (a b : Int) : Int := if inB (M.ord p) a && inB (M.ord p) b then (M.md (M.mul a.toNat b.toNat) p : Nat) else 0
/-- the field's power -/
def fpow (p : Nat) (a n : Int) : Int := if inB (M.ord p) a && decide (0 ≤ n) then (M.pw a.toNat p n.toNat : Nat) else 0
/-- the field's inverse -/
def finv (p : Nat) (a : Int) : Value := if inB (M.ord p) a && decide (a ≠ 0) then .tuple #[.int .i64 (M.inv p a.toNat), .bool true] else .tuple #[.int .i64 0, .bool false]
/-- the field's quotient -/
def fdiv (p : Nat) (a b : Int) : Value := if inB (M.ord p) a && (inB (M.ord p) b && decide (b ≠ 0)) then .tuple #[.int .i64 (M.md (M.mul a.toNat (M.inv p b.toNat)) p : Nat), .bool true] else .tuple #[.int .i64 0, .bool false]

theorem fmul_in {p : Nat} {a b : Int} (a0 : 0 ≤ a) (a1 : a ≤ M.ord p) (b0 : 0 ≤ b) (b1 : b ≤ M.ord p) : fmul p a b = (M.md (M.mul a.toNat b.toNat) p : Nat) := by
  unfold fmul
  rw [inB_iff.2 ⟨a0, a1⟩, inB_iff.2 ⟨b0, b1⟩]; rfl

theorem fmul_lg {p : Nat} (h : M.Prim p) {a b : Int} (a0 : 1 ≤ a) (a1 : a ≤ M.ord p) (b0 : 1 ≤ b) (b1 : b ≤ M.ord p) : fmul p a b = (M.ex p ((M.lg p a.toNat : Int) + (M.lg p b.toNat : Int)) : Nat) := by
  rw [fmul_in (by omega) a1 (by omega) b1, M.mul_lg h (a := a.toNat) (b := b.toNat) (by omega) (by omega) (by omega) (by omega), ← M.ex_nat h]
  rfl

theorem fmul_none {p : Nat} {a b : Int} (h : (a < 1 ∨ M.ord p < a) ∨ (b < 1 ∨ M.ord p < b)) : fmul p a b = 0 := by
  unfold fmul
  split
  · rename_i hh
    rw [Bool.and_eq_true, inB_iff, inB_iff] at hh
    have : a = 0 ∨ b = 0 := by omega
    rcases this with rfl | rfl
    · rw [show (0 : Int).toNat = 0 from rfl, M.zero_mul, M.md_zero]; rfl
    · rw [show (0 : Int).toNat = 0 from rfl, M.mul_zero, M.md_zero]; rfl
  · rfl

theorem ans_still {p b wd : Nat} {w : World} (h : Fld p b wd w) (v : Value) : Ans p b wd w v (.returned v) w := ⟨rfl, h, Turned.refl _ _⟩

set_option maxRecDepth 100000 in
set_option maxHeartbeats 1000000 in
theorem mul12_yes (p b wd : Nat) (x y : Int) (x0 : 1 ≤ x) (x1 : x ≤ M.ord p) (y0 : 1 ≤ y) (y1 : y ≤ M.ord p) (w : World) (h : Fld p b wd w) :
    Calls Tryz.prog 85 #[.pointer (some ⟨b, 0, none⟩), .int .i64 x, .int .i64 y] w (Ans p b wd w (.int .i64 (fmul p x y))) := by
  have hg := h.1
  have kb := hg.bounds
  rw [fmul_lg hg.prim x0 x1 y0 y1]
  have hx := M.lg_lt p x.toNat
  have hy := M.lg_lt p y.toNat
  have HH := Lib.hid h
  have X1 := Lib.hid x1
  have Y1 := Lib.hid y1
  clear h x1 y1
  go_enter Tryz.func85, Tryz.ntmps85
  go_wp2_with fail
  refine (log_yes p b wd x x0 X1.out _ HH.out).mono ?_
  rintro e w1 ⟨rfl, h1, t1⟩
  have HT1 := Lib.hid t1
  have H1 := Lib.hid h1
  clear h1 t1
  go_wp2_with fail
  refine (log_yes p b wd y y0 Y1.out _ H1.out).mono ?_
  rintro e w2 ⟨rfl, h2, t2⟩
  have HT2 := Lib.hid (HT1.out.trans t2)
  have H2 := Lib.hid h2
  clear h2 t2 HT1 H1 HH
  obtain ⟨i, hi⟩ : ∃ i, M.lg p x.toNat = i := ⟨_, rfl⟩
  obtain ⟨j, hj⟩ : ∃ j, M.lg p y.toNat = j := ⟨_, rfl⟩
  rw [hi] at hx ⊢
  rw [hj] at hy ⊢
  have HI := Lib.hid hi
  have HJ := Lib.hid hj
  clear hi hj
  go_wp2_with fail
  refine (exp25 p b wd _ _ H2.out).mono ?_
  rintro e w3 ⟨rfl, h3, t3⟩
  have HP := Lib.hid (show Ans p b wd w (.int .i64 (M.ex p ((i : Int) + (j : Int)))) (.returned (.int .i64 (M.ex p ((i : Int) + (j : Int))))) w3 from ⟨rfl, h3, HT2.out.trans t3⟩)
  clear h3 t3
  go_wp2_with fail
  go_ret
  rw [HI.out, HJ.out]
  exact HP.out

/-- Log, of any number: what it tells -/
def LogSaid (p b wd : Nat) (a : Int) (w : World) (e : Ending) (w' : World) : Prop :=
  ∃ (v : Int) (t : Bool), e = .returned (.tuple #[.int .i64 v, .bool t]) ∧ (t = true ↔ 1 ≤ a ∧ a ≤ M.ord p) ∧ Fld p b wd w' ∧ Turned b w w'
theorem log_any (p b wd : Nat) (a : Int) (w : World) (h : Fld p b wd w) :
    Calls Tryz.prog 134 #[.pointer (some ⟨b, 0, none⟩), .int .i64 a] w (LogSaid p b wd a w) := by
  by_cases ha : 1 ≤ a ∧ a ≤ M.ord p
  · exact (log_yes p b wd a ha.1 ha.2 w h).mono fun e w' ⟨he, hf, ht⟩ => ⟨_, true, he, by simp [ha], hf, ht⟩
  · refine (log_no p b wd a (by omega) w h).mono fun e w' ⟨he, hw⟩ => ⟨0, false, he, by simp; omega, hw ▸ h, hw ▸ Turned.refl _ _⟩

set_option maxRecDepth 100000 in
set_option maxHeartbeats 1000000 in
theorem mul12_no (p b wd : Nat) (x y : Int) (hn : (x < 1 ∨ M.ord p < x) ∨ (y < 1 ∨ M.ord p < y)) (w : World) (h : Fld p b wd w) :
    Calls Tryz.prog 85 #[.pointer (some ⟨b, 0, none⟩), .int .i64 x, .int .i64 y] w (Ans p b wd w (.int .i64 (fmul p x y))) := by
  rw [fmul_none hn]
  have HN := Lib.hid hn
  have HH := Lib.hid h
  clear h hn
  go_enter Tryz.func85, Tryz.ntmps85
  go_wp2_with fail
  refine (log_any p b wd x _ HH.out).mono ?_
  rintro e w1 ⟨v1, b1, rfl, hb1, h1, t1⟩
  have HB1 := Lib.hid hb1
  have HT1 := Lib.hid t1
  have H1 := Lib.hid h1
  clear h1 t1 hb1
  go_wp2_with fail
  refine (log_any p b wd y _ H1.out).mono ?_
  rintro e w2 ⟨v2, b2, rfl, hb2, h2, t2⟩
  have HB2 := Lib.hid hb2
  have HP := Lib.hid (show Ans p b wd w (.int .i64 0) (.returned (.int .i64 0)) w2 from ⟨rfl, h2, HT1.out.trans t2⟩)
  clear h2 t2 HT1 H1 HH hb2
  cases b1
  · go_wp2_with fail
    go_ret
    exact HP.out
  · cases b2
    · go_wp2_with fail
      go_ret
      exact HP.out
    · exfalso
      have u1 := HB1.out
      have u2 := HB2.out
      have u3 := HN.out
      simp at u1 u2
      omega

/-- Mul, of any numbers -/
theorem fmul12 (p b wd : Nat) (x y : Int) (w : World) (h : Fld p b wd w) :
    Calls Tryz.prog 85 #[.pointer (some ⟨b, 0, none⟩), .int .i64 x, .int .i64 y] w (Ans p b wd w (.int .i64 (fmul p x y))) := by
  by_cases hn : (x < 1 ∨ M.ord p < x) ∨ (y < 1 ∨ M.ord p < y)
  · exact mul12_no p b wd x y hn w h
  · exact mul12_yes p b wd x y (by omega) (by omega) (by omega) (by omega) w h

theorem finv_yes {p : Nat} {a : Int} (a0 : 1 ≤ a) (a1 : a ≤ M.ord p) : finv p a = .tuple #[.int .i64 (M.inv p a.toNat), .bool true] := by
  unfold finv
  rw [inB_iff.2 ⟨by omega, a1⟩, show decide (a ≠ 0) = true by simp; omega]; rfl
theorem finv_no {p : Nat} {a : Int} (h : a < 1 ∨ M.ord p < a) : finv p a = .tuple #[.int .i64 0, .bool false] := by
  unfold finv
  split
  · rename_i hh
    rw [Bool.and_eq_true, inB_iff, decide_eq_true_eq] at hh
    omega
  · rfl

set_option maxRecDepth 100000 in
set_option maxHeartbeats 1000000 in
/-- Inv, of any number -/
theorem finv18 (p b wd : Nat) (x : Int) (w : World) (h : Fld p b wd w) :
    Calls Tryz.prog 153 #[.pointer (some ⟨b, 0, none⟩), .int .i64 x] w (Ans p b wd w (finv p x)) := by
  have hg := h.1
  have kb := hg.bounds
  by_cases hn : x < 1 ∨ M.ord p < x
  · rw [finv_no hn]
    have HN := Lib.hid hn
    have HP := Lib.hid (ans_still h (.tuple #[.int .i64 0, .bool false]))
    have HH := Lib.hid h
    clear h hn
    go_enter Tryz.func153, Tryz.ntmps153
    go_wp2_with fail
    refine (log_no p b wd x HN.out _ HH.out).mono ?_
    rintro e w1 ⟨rfl, rfl⟩
    go_wp2_with fail
    go_ret2
    exact HP.out
  · have x0 : 1 ≤ x := by omega
    have x1 : x ≤ M.ord p := by omega
    rw [finv_yes x0 x1, ← M.ex_neg hg.prim (a := x.toNat) (by omega) (by omega)]
    have hx := M.lg_lt p x.toNat
    have X1 := Lib.hid x1
    have HH := Lib.hid h
    clear h hn x1
    go_enter Tryz.func153, Tryz.ntmps153
    go_wp2_with fail
    refine (log_yes p b wd x x0 X1.out _ HH.out).mono ?_
    rintro e w1 ⟨rfl, h1, t1⟩
    have HT1 := Lib.hid t1
    have H1 := Lib.hid h1
    clear h1 t1
    obtain ⟨i, hi⟩ : ∃ i, M.lg p x.toNat = i := ⟨_, rfl⟩
    rw [hi] at hx ⊢
    have HI := Lib.hid hi
    clear hi
    go_wp2_with fail
    refine (exp25 p b wd _ _ H1.out).mono ?_
    rintro e w3 ⟨rfl, h3, t3⟩
    have HP := Lib.hid (show Ans p b wd w (.tuple #[.int .i64 (M.ex p (-(i : Int))), .bool true]) (.returned (.tuple #[.int .i64 (M.ex p (-(i : Int))), .bool true])) w3 from ⟨rfl, h3, HT1.out.trans t3⟩)
    clear h3 t3
    go_wp2_with fail
    go_ret2
    rw [HI.out]
    exact HP.out

theorem fdiv_yes {p : Nat} {a b : Int} (a0 : 0 ≤ a) (a1 : a ≤ M.ord p) (b0 : 1 ≤ b) (b1 : b ≤ M.ord p) : fdiv p a b = .tuple #[.int .i64 (M.md (M.mul a.toNat (M.inv p b.toNat)) p : Nat), .bool true] := by
  unfold fdiv
  rw [inB_iff.2 ⟨a0, a1⟩, inB_iff.2 ⟨by omega, b1⟩, show decide (b ≠ 0) = true by simp; omega]; rfl
theorem fdiv_no {p : Nat} {a b : Int} (h : (a < 0 ∨ M.ord p < a) ∨ (b < 1 ∨ M.ord p < b)) : fdiv p a b = .tuple #[.int .i64 0, .bool false] := by
  unfold fdiv
  split
  · rename_i hh
    rw [Bool.and_eq_true, Bool.and_eq_true, inB_iff, inB_iff, decide_eq_true_eq] at hh
    omega
  · rfl

set_option maxRecDepth 100000 in
set_option maxHeartbeats 1000000 in
/-- Div, of any numbers -/
theorem fdiv16 (p b wd : Nat) (x y : Int) (w : World) (h : Fld p b wd w) :
    Calls Tryz.prog 161 #[.pointer (some ⟨b, 0, none⟩), .int .i64 x, .int .i64 y] w (Ans p b wd w (fdiv p x y)) := by
  have hg := h.1
  have hk := hg.kind
  have kb := hg.bounds
  by_cases hy : y < 1 ∨ M.ord p < y
  · rw [fdiv_no (Or.inr hy)]
    have hi := finv_no hy
    have HI := Lib.hid hi
    have HH := Lib.hid h
    clear h hy hi
    go_enter Tryz.func161, Tryz.ntmps161
    go_wp2_with fail
    refine (finv18 p b wd y _ HH.out).mono ?_
    rintro e w1 ⟨rfl, h1, t1⟩
    rw [HI.out]
    have HP := Lib.hid (show Ans p b wd w (.tuple #[.int .i64 0, .bool false]) (.returned (.tuple #[.int .i64 0, .bool false])) w1 from ⟨rfl, h1, t1⟩)
    clear h1 t1
    go_wp2_with fail
    go_ret2
    exact HP.out
  · have y0 : 1 ≤ y := by omega
    have y1 : y ≤ M.ord p := by omega
    have HI := Lib.hid (finv_yes y0 y1)
    have hir := M.inv_range hg.prim (a := y.toNat) (by omega) (by omega)
    by_cases hx : x < 0 ∨ M.ord p < x
    · rw [fdiv_no (Or.inl hx)]
      have HX := Lib.hid hx
      have HH := Lib.hid h
      clear h hy hx
      go_enter Tryz.func161, Tryz.ntmps161
      go_wp2_with fail
      refine (finv18 p b wd y _ HH.out).mono ?_
      rintro e w1 ⟨rfl, h1, t1⟩
      rw [HI.out]
      have HP := Lib.hid (show Ans p b wd w (.tuple #[.int .i64 0, .bool false]) (.returned (.tuple #[.int .i64 0, .bool false])) w1 from ⟨rfl, h1, t1⟩)
      have hc0 := h1.c0
      clear h1 t1
      go_wp2_with fail
      refine (has_no b wd _ hk x HX.out _ hc0).mono ?_
      rintro e w' ⟨rfl, rfl⟩
      go_wp2_with fail
      go_ret2
      exact HP.out
    · have x0 : 0 ≤ x := by omega
      have x1 : x ≤ M.ord p := by omega
      rw [fdiv_yes x0 x1 y0 y1]
      have hm := fmul_in (p := p) (a := x) (b := (M.inv p y.toNat : Nat)) x0 x1 (by omega) (by omega)
      rw [Int.toNat_natCast] at hm
      rw [← hm]
      have HH := Lib.hid h
      have X1 := Lib.hid x1
      clear h hy hx hm x1 y1
      obtain ⟨i, hi⟩ : ∃ i, M.inv p y.toNat = i := ⟨_, rfl⟩
      rw [hi] at HI hir ⊢
      clear hi
      go_enter Tryz.func161, Tryz.ntmps161
      go_wp2_with fail
      refine (finv18 p b wd y _ HH.out).mono ?_
      rintro e w1 ⟨rfl, h1, t1⟩
      rw [HI.out]
      have hc0 := h1.c0
      have H1 := Lib.hid h1
      have HT1 := Lib.hid t1
      clear h1 t1
      go_wp2_with fail
      refine (has_yes b wd _ hk x x0 X1.out _ hc0).mono ?_
      rintro e w' ⟨rfl, rfl⟩
      go_wp2_with fail
      refine (fmul12 p b wd x _ _ H1.out).mono ?_
      rintro e w2 ⟨rfl, h2, t2⟩
      have HP := Lib.hid (show Ans p b wd w (.tuple #[.int .i64 (fmul p x i), .bool true]) (.returned (.tuple #[.int .i64 (fmul p x i), .bool true])) w2 from ⟨rfl, h2, HT1.out.trans t2⟩)
      clear h2 t2
      go_wp2_with fail
      go_ret2
      exact HP.out
end Go.Proofs.YtgdgimknnjbieaaGreatDoor
