/- The contract of fillTables: the tables of all powers and of all logarithms. -/
import Derived.Test.YtomlfmfahlcedaaFob
import Derived.Deep.RegionWith
import Derived.Deep.DeepCutAuto
namespace Go.Proofs.Ytomlfmfahlcedaa
open Go.RowKit

theorem info16 : (Try.prog.info? T16).map (fun i => (i.zero, i.size, i.bytes)) = some (some (.int .u16 0), 1, 2) := by kernel_rfl

/-- behind both makes -/
def MadeTwo (c : Nat) (w : World) (s3 s4 : Value) (wr : World) : Prop :=
  ∃ g h, g ≠ h ∧ w.heap.size ≤ g ∧ w.heap.size ≤ h ∧ s3 = sl g c ∧ s4 = sl h (c + 1) ∧ wr.rowIs g T16 c (fun _ => .int .u16 0) ∧ wr.rowIs h T16 (c + 1) (fun _ => .int .u16 0) ∧ Below w.heap.size w wr

theorem madeTwo1 (c : Nat) (w : World) : MadeTwo c w (sl w.heap.size c) (sl (w.heap.size + 1) (c + 1)) ((w.alloc (.cells (madeCells #[.int .u16 0] c) T16)).alloc (.cells (madeCells #[.int .u16 0] (c + 1)) T16)).drew := by
  have h1 := World.rowIs_made w (.int .u16 0) c T16
  have h2 := World.rowIs_made (w.alloc (.cells (madeCells #[.int .u16 0] c) T16)) (.int .u16 0) (c + 1) T16
  rw [World.size_alloc] at h2
  exact ⟨_, _, by omega, Nat.le_refl _, by omega, rfl, rfl, (h1.alloc _).drew, h2.drew, (((Below.refl _ _).alloc (Nat.le_refl _) _).alloc (by simp) _).drew⟩

theorem madeTwo2 (c : Nat) (w : World) : MadeTwo c w (sl (w.heap.size + 1) c) (sl w.heap.size (c + 1)) ((w.alloc (.cells (madeCells #[.int .u16 0] (c + 1)) T16)).alloc (.cells (madeCells #[.int .u16 0] c) T16)).drew := by
  have h1 := World.rowIs_made w (.int .u16 0) (c + 1) T16
  have h2 := World.rowIs_made (w.alloc (.cells (madeCells #[.int .u16 0] (c + 1)) T16)) (.int .u16 0) c T16
  rw [World.size_alloc] at h2
  exact ⟨_, _, by omega, by omega, Nat.le_refl _, rfl, rfl, h2.drew, (h1.alloc _).drew, (((Below.refl _ _).alloc (Nat.le_refl _) _).alloc (by simp) _).drew⟩

/-- in the loop, behind k rounds -/
def FillAt (p c g h : Nat) (w : World) (s5 s17 : Value) (wr : World) : Prop :=
  ∃ k : Nat, k ≤ c ∧ s17 = .int .i64 k ∧ s5 = .int .u32 (M.pw 2 p k) ∧ wr.rowIs g T16 c (fun i => .int .u16 (if i < k then M.pw 2 p i else 0 : Nat)) ∧ wr.rowIs h T16 (c + 1) (fun a => .int .u16 (M.lgTo p a k)) ∧ Below w.heap.size w wr

/-- what is laid behind all -/
def Filled (p b wd : Nat) (d s : Int) (w : World) (e : Ending) (w' : World) : Prop :=
  e = .returned (.tuple #[]) ∧ ∃ g h, g ≠ b ∧ h ≠ b ∧ w'.rowIs b TF 7 (fcells wd p d s (sl g (M.ord p)) (sl h (M.ord p + 1))) ∧
    w'.rowIs g T16 (M.ord p) (fun i => .int .u16 (M.pw 2 p i)) ∧ w'.rowIs h T16 (M.ord p + 1) (fun a => .int .u16 (M.lg p a)) ∧ Turned b w w'

theorem fillAt_start {p c g h : Nat} {w wr : World} (hp : M.pw 2 p 0 = 1) (h1 : wr.rowIs g T16 c (fun _ => .int .u16 0)) (h2 : wr.rowIs h T16 (c + 1) (fun _ => .int .u16 0)) (hb : Below w.heap.size w wr) :
    FillAt p c g h w (.int .u32 1) (.int .i64 0) wr :=
  ⟨0, Nat.zero_le _, rfl, by rw [hp]; rfl, h1.congr (fun i _ => by simp), h2.congr (fun i _ => by simp [M.lgTo]), hb⟩

theorem fillAt_step {p c g h k x : Nat} {w wr : World} {s5 : Value} (hk : k < c) (hgh : g ≠ h) (gn : w.heap.size ≤ g) (hn : w.heap.size ≤ h) (hx : M.pw 2 p k = x) (hs : s5 = .int .u32 (M.pw 2 p (k + 1)))
    (h1 : wr.rowIs g T16 c (fun i => .int .u16 (if i < k then M.pw 2 p i else 0 : Nat))) (h2 : wr.rowIs h T16 (c + 1) (fun a => .int .u16 (M.lgTo p a k))) (hb : Below w.heap.size w wr) :
    FillAt p c g h w s5 (.int .i64 (k + 1 : Nat)) ((wr.setCell ⟨g, k, none⟩ (.int .u16 x)).setCell ⟨h, x, none⟩ (.int .u16 k)) := by
  refine ⟨k + 1, hk, rfl, hs, ?_, ?_, (hb.setCell (p := ⟨g, k, none⟩) gn _).setCell (p := ⟨h, x, none⟩) hn _⟩
  · refine ((h1.set k (.int .u16 x)).setOther (a := ⟨h, x, none⟩) hgh _).congr (fun i _ => ?_)
    rcases Nat.lt_trichotomy i k with hl | hl | hl
    · rw [if_neg (by omega), if_pos hl, if_pos (by omega)]
    · subst hl; rw [if_pos rfl, if_pos (by omega), hx]
    · rw [if_neg (by omega), if_neg (by omega), if_neg (by omega)]
  · refine ((h2.setOther (a := ⟨g, k, none⟩) (Ne.symm hgh) (.int .u16 x)).set x (.int .u16 k)).congr (fun i _ => ?_)
    rw [M.lgTo_succ, hx]
    by_cases hi : i = x
    · rw [if_pos hi, if_pos hi.symm]
    · rw [if_neg hi, if_neg (fun e => hi e.symm)]

theorem filled_end {p b c wd g h : Nat} {d s : Int} {pv lv : Value} {w wr : World} (hc : M.ord p = c) (hr : w.rowIs b TF 7 (fcells wd p d s pv lv)) (gn : w.heap.size ≤ g) (hn : w.heap.size ≤ h)
    (h1 : wr.rowIs g T16 c (fun i => .int .u16 (if i < c then M.pw 2 p i else 0 : Nat))) (h2 : wr.rowIs h T16 (c + 1) (fun a => .int .u16 (M.lgTo p a c))) (hb : Below w.heap.size w wr) :
    Filled p b wd d s w (.returned (.tuple #[])) ((wr.setCell ⟨b, 5, none⟩ (sl g c)).setCell ⟨b, 6, none⟩ (sl h (c + 1))) := by
  subst hc
  have hbl := hr.lt
  refine ⟨rfl, g, h, by omega, by omega, ?_, ?_, ?_, ((Turned.of_below hb).setCell 5 _).setCell 6 _⟩
  · refine (((hr.of_block (hb.block b hbl)).set 5 (sl g (M.ord p))).set 6 (sl h (M.ord p + 1))).congr (fun i hi => ?_)
    match i, hi with
    | 0, _ => rfl
    | 1, _ => rfl
    | 2, _ => rfl
    | 3, _ => rfl
    | 4, _ => rfl
    | 5, _ => rfl
    | 6, _ => rfl
  · exact ((h1.setOther (a := ⟨b, 5, none⟩) (by simp; omega) _).setOther (a := ⟨b, 6, none⟩) (by simp; omega) _).congr (fun i hi => by rw [if_pos hi])
  · exact (h2.setOther (a := ⟨b, 5, none⟩) (by simp; omega) _).setOther (a := ⟨b, 6, none⟩) (by simp; omega) _

set_option maxRecDepth 100000 in
set_option maxHeartbeats 1000000 in
theorem fill38 (p b wd : Nat) (hg : Good p wd) (d s : Int) (pv lv : Value) (w : World) (hr : w.rowIs b TF 7 (fcells wd p d s pv lv)) :
    Calls Try.prog 59 #[.pointer (some ⟨b, 0, none⟩)] w (Filled p b wd d s w) := by
  have hk := hg.kind
  have kb := hk.bounds
  generalize hc : M.ord p = c at *
  have HC := Lib.hid hc
  clear hc
  have hc0 : w.cell? ⟨b, 0, none⟩ = some (.int .i64 wd) := hr.cell (i := 0) (by omega)
  have hmk1 := run_make_row' (P := Try.prog) 81 T16 (.int .u16 0) 2 Try.underlying81 info16 rfl .i64 .i64 c (by omega) (by omega)
  have hmk2 := run_make_row' (P := Try.prog) 81 T16 (.int .u16 0) 2 Try.underlying81 info16 rfl .u32 .u32 (c + 1) (by omega) (by omega)
  rw [show ((c + 1 : Nat) : Int) = (c : Int) + 1 from rfl] at hmk2
  have hca : ∀ o : Obj, (w.alloc o).cell? ⟨b, 0, none⟩ = some (.int .i64 wd) := fun o => (World.cell?_alloc_past _ _ _ hr.lt).trans hc0
  go_enter Try.func59, Try.ntmps59
  go_wp2_with fail
  refine (size13 b wd c hk _ hc0).mono ?_
  rintro e w' ⟨rfl, rfl⟩
  go_wp2_with fail
  go_cut [3, 4] (fun s3 s4 wr => MadeTwo c w s3 s4 wr)
  case first =>
    go_region_with (go_at_call 60; refine (units35 b wd c hk _ (by go_simp)).mono ?_; rintro e w' ⟨rfl, rfl⟩)
    all_goals
      go_wp2_with fail
      go_meet
      case rel => first | exact madeTwo1 c w | exact madeTwo2 c w
  case rest =>
    obtain ⟨g, h, hgh, gn, hn, rfl, rfl, r1, r2, hb⟩ := hcut
    clear hmk1 hmk2 hca
    have hp0 : M.pw 2 p 0 = 1 := M.md_one (M.irr_blen hg.prim.1).1
    have hst := fillAt_start hp0 r1 r2 hb
    clear r1 r2 hb hp0
    go_wp2_with fail
    go_loopw [5, 17] (fun s5 s17 wr => FillAt p c g h w s5 s17 wr) (fun _ s17 _ => c - (intOf s17).toNat)
    case atStart => exact hst
    case round =>
      obtain ⟨k, hkc, rfl, rfl, r1, r2, hb⟩ := hrel
      by_cases hlt : k < c
      · have hxr := M.pw_range hg.prim k
        rw [HC.out] at hxr
        have HS := Lib.hid (M.pw_step (k := k) hg.prim.1)
        obtain ⟨x, hx⟩ : ∃ x, M.pw 2 p k = x := ⟨_, rfl⟩
        have HX := Lib.hid hx
        rw [hx] at hxr HS ⊢
        clear hx
        have hbl := hr.lt
        have g1 : wr.cell? ⟨g, k, none⟩ = some (.int .u16 0) := by rw [r1.cell hlt]; simp
        have f1 : wr.frozen? ⟨g, k, none⟩ = false := r1.frozen k
        have r2' := r2.setOther (a := ⟨g, k, none⟩) (Ne.symm hgh) (.int .u16 x)
        have g2 : (wr.setCell ⟨g, k, none⟩ (.int .u16 x)).cell? ⟨h, x, none⟩ = some (.int .u16 (M.lgTo p x k)) := r2'.cell (by omega)
        have f2 : (wr.setCell ⟨g, k, none⟩ (.int .u16 x)).frozen? ⟨h, x, none⟩ = false := r2'.frozen x
        have rb := ((hr.of_block (hb.block b hbl)).setOther (a := ⟨g, k, none⟩) (by simp; omega) (.int .u16 x)).setOther (a := ⟨h, x, none⟩) (by simp; omega) (.int .u16 k)
        have g3 : ((wr.setCell ⟨g, k, none⟩ (.int .u16 x)).setCell ⟨h, x, none⟩ (.int .u16 k)).cell? ⟨b, 1, none⟩ = some (.int .u32 p) := rb.cell (i := 1) (by omega)
        clear rb r2'
        have R1 := Lib.hid r1
        have R2 := Lib.hid r2
        have HB := Lib.hid hb
        clear r1 r2 hb
        have HO := Lib.hid (M.ord_succ hg.prim.1)
        have hps := hg.small
        by_cases hov : c + 1 ≤ 2 * x
        · go_wp2_with fail
          refine ⟨fillAt_step hlt hgh gn hn HX.out ?_ R1.out R2.out HB.out, by simp [intOf]; omega⟩
          rw [HS.out, if_pos (by rw [← HO.out, HC.out]; exact hov), u32_xor _ _ (by omega) (by omega) (by omega) (by omega)]
          congr 4
          omega
        · go_wp2_with fail
          refine ⟨fillAt_step hlt hgh gn hn HX.out ?_ R1.out R2.out HB.out, by simp [intOf]; omega⟩
          rw [HS.out, if_neg (by rw [← HO.out, HC.out]; exact hov)]
          congr 1
          omega
      · obtain rfl : k = c := by omega
        have hbl := hr.lt
        have rb := hr.of_block (hb.block b hbl)
        have b5 : wr.cell? ⟨b, 5, none⟩ = some pv := rb.cell (i := 5) (by omega)
        have z5 : wr.frozen? ⟨b, 5, none⟩ = false := rb.frozen 5
        have rb' := rb.set 5 (sl g k)
        have b6 : (wr.setCell ⟨b, 5, none⟩ (sl g k)).cell? ⟨b, 6, none⟩ = some lv := rb'.cell (i := 6) (by omega)
        have z6 : (wr.setCell ⟨b, 5, none⟩ (sl g k)).frozen? ⟨b, 6, none⟩ = false := rb'.frozen 6
        have FE := Lib.hid (filled_end (d := d) (s := s) HC.out hr gn hn r1 r2 hb)
        clear rb rb' r1 r2 hb hr hst
        go_wp2_with fail
        go_end0
        exact FE.out
end Go.Proofs.Ytomlfmfahlcedaa
