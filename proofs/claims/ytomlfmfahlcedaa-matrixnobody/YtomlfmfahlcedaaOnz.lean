/- The contract of sync.Once's Do with fillTables: behind it the tables are made. -/
import Derived.Test.YtomlfmfahlcedaaFil
namespace Go.Proofs.Ytomlfmfahlcedaa
open Go.RowKit

theorem raw_lock {p b wd : Nat} {w : World} (h : Raw p b wd w) : (w.setCell ⟨b, 3, none⟩ (.int .i32 1)).rowIs b TF 7 (fcells wd p 0 1 nilS nilS) :=
  (World.rowIs.set h 3 (.int .i32 1)).congr (fun i hi => by
    match i, hi with
    | 0, _ => rfl
    | 1, _ => rfl
    | 2, _ => rfl
    | 3, _ => rfl
    | 4, _ => rfl
    | 5, _ => rfl
    | 6, _ => rfl)

theorem made_end {p b wd : Nat} {w w1 w2 : World} {e : Ending} (ht : Turned b w w1) (hf : Filled p b wd 0 1 w1 e w2) :
    Made p b wd ((w2.drew.setCell ⟨b, 2, none⟩ (.int .u32 1)).setCell ⟨b, 3, none⟩ (.int .i32 0)) ∧ Turned b w ((w2.drew.setCell ⟨b, 2, none⟩ (.int .u32 1)).setCell ⟨b, 3, none⟩ (.int .i32 0)) := by
  obtain ⟨_, g, h, hg, hh, rb, r1, r2, ht2⟩ := hf
  refine ⟨⟨g, h, hg, hh, ?_, ?_, ?_⟩, ((ht.trans ht2).drew.setCell 2 _).setCell 3 _⟩
  · refine ((rb.drew.set 2 (.int .u32 1)).set 3 (.int .i32 0)).congr (fun i hi => ?_)
    match i, hi with
    | 0, _ => rfl
    | 1, _ => rfl
    | 2, _ => rfl
    | 3, _ => rfl
    | 4, _ => rfl
    | 5, _ => rfl
    | 6, _ => rfl
  · exact (r1.drew.setOther (a := ⟨b, 2, none⟩) hg _).setOther (a := ⟨b, 3, none⟩) hg _
  · exact (r2.drew.setOther (a := ⟨b, 2, none⟩) hh _).setOther (a := ⟨b, 3, none⟩) hh _

def DoPost (p b wd : Nat) (w : World) (e : Ending) (w' : World) : Prop := e = .returned (.tuple #[]) ∧ Made p b wd w' ∧ Turned b w w'

set_option maxRecDepth 100000 in
set_option maxHeartbeats 1600000 in
theorem slow48 (p b wd : Nat) (hg : Good p wd) (w : World) (h : Raw p b wd w) :
    Calls Try.prog 67 #[.pointer (some ⟨b, 2, none⟩), .func (.func 59) #[.pointer (some ⟨b, 0, none⟩)] #[]] w (DoPost p b wd w) := by
  have h3 : w.cell? ⟨b, 3, none⟩ = some (.int .i32 0) := World.rowIs.cell h (i := 3) (by omega)
  have f3 : w.frozen? ⟨b, 3, none⟩ = false := World.rowIs.frozen h 3
  have rl := raw_lock h
  have ht : Turned b w (w.setCell ⟨b, 3, none⟩ (.int .i32 1)) := (Turned.refl b w).setCell 3 _
  have hnot : ∀ (x : Bool) (w : World), (Op.unary .not (.bool x)).run Try.prog w = .ok (.bool (!x)) w := fun _ _ => rfl
  go_enter_defers Try.func67, Try.ntmps67
  go_wp2_with fail
  refine (lock_free ⟨b, 3, none⟩ _ h3 f3).mono ?_
  rintro e w' ⟨rfl, rfl⟩
  clear h h3 f3
  generalize w.setCell ⟨b, 3, none⟩ (.int .i32 1) = w1 at *
  have l2 : w1.cell? ⟨b, 2, none⟩ = some (.int .u32 0) := rl.cell (i := 2) (by omega)
  go_wp2_with fail
  refine (load_bool ⟨b, 2, none⟩ 0 _ l2).mono ?_
  rintro e w' ⟨rfl, rfl⟩
  go_wp2_with fail
  refine (fill38 p b wd hg 0 1 nilS nilS _ rl).mono ?_
  intro e w2 hf
  obtain ⟨hM, hT⟩ := made_end ht hf
  obtain ⟨rfl, g, l, _, _, rb, _, _, _⟩ := hf
  have hP : DoPost p b wd w (.returned (.tuple #[])) ((w2.drew.setCell ⟨b, 2, none⟩ (.int .u32 1)).setCell ⟨b, 3, none⟩ (.int .i32 0)) := ⟨rfl, hM, hT⟩
  have HP := Lib.hid hP
  clear hP hM hT ht rl l2
  have c2 : w2.cell? ⟨b, 2, none⟩ = some (.int .u32 0) := rb.cell (i := 2) (by omega)
  have z2 : w2.frozen? ⟨b, 2, none⟩ = false := rb.frozen 2
  have rb2 := rb.drew.set 2 (.int .u32 1)
  have c3 : (w2.drew.setCell ⟨b, 2, none⟩ (.int .u32 1)).cell? ⟨b, 3, none⟩ = some (.int .i32 1) := rb2.cell (i := 3) (by omega)
  have z3 : (w2.drew.setCell ⟨b, 2, none⟩ (.int .u32 1)).frozen? ⟨b, 3, none⟩ = false := rb2.frozen 3
  go_wp2_with fail
  refine leaves_cons (f := 71) (args := #[.pointer (some ⟨b, 2, none⟩), .bool true]) (by simp) (by simp [go_sem]) ?_
  refine (store_deferred ⟨b, 2, none⟩ (.int .u32 0) .returning _ c2 z2).mono ?_
  rintro e u' w'' ⟨rfl, rfl, rfl⟩
  refine leaves_cons (f := 70) (args := #[.pointer (some ⟨b, 3, none⟩)]) (by simp [settle]) (by simp [go_sem]) ?_
  refine (unlock_deferred ⟨b, 3, none⟩ _ _ c3 z3).mono ?_
  rintro e u' w'' ⟨rfl, rfl, rfl⟩
  exact ⟨_, results_none rfl _ _ _, HP.out⟩

set_option maxRecDepth 100000 in
set_option maxHeartbeats 1000000 in
theorem do_first (p b wd : Nat) (hg : Good p wd) (w : World) (h : Raw p b wd w) :
    Calls Try.prog 58 #[.pointer (some ⟨b, 2, none⟩), .func (.func 59) #[.pointer (some ⟨b, 0, none⟩)] #[]] w (DoPost p b wd w) := by
  have hnot : ∀ (x : Bool) (w : World), (Op.unary .not (.bool x)).run Try.prog w = .ok (.bool (!x)) w := fun _ _ => rfl
  have l2 : w.cell? ⟨b, 2, none⟩ = some (.int .u32 0) := World.rowIs.cell h (i := 2) (by omega)
  have HH := Lib.hid h
  clear h
  go_enter Try.func58, Try.ntmps58
  go_wp2_with fail
  refine (load_bool ⟨b, 2, none⟩ 0 _ l2).mono ?_
  rintro e w' ⟨rfl, rfl⟩
  go_wp2_with fail
  refine (slow48 p b wd hg _ HH.out).mono ?_
  rintro e w' ⟨rfl, hM, hT⟩
  have HP := Lib.hid (show DoPost p b wd w (.returned (.tuple #[])) w' from ⟨rfl, hM, hT⟩)
  clear hM hT
  go_wp2_with fail
  go_end0
  exact HP.out

/-- Do, whether it is done or not -/
theorem do37 (p b wd : Nat) (w : World) (h : Fld p b wd w) :
    Calls Try.prog 58 #[.pointer (some ⟨b, 2, none⟩), .func (.func 59) #[.pointer (some ⟨b, 0, none⟩)] #[]] w (DoPost p b wd w) := by
  obtain ⟨hg, h | h⟩ := h
  · exact do_first p b wd hg w h
  · obtain ⟨g, l, h1, h2, rb, h3⟩ := h
    refine (do_done ⟨b, 2, none⟩ _ w (rb.cell (i := 2) (by omega))).mono ?_
    rintro e w' ⟨rfl, rfl⟩
    exact ⟨rfl, ⟨g, l, h1, h2, rb, h3⟩, Turned.refl _ _⟩
end Go.Proofs.Ytomlfmfahlcedaa
