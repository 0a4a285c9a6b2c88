/- Contracts of package region: width, isNumber and Words. -/
import Derived.Test.YtgbipbcejjlpiaaGreatDoorGxh
import Derived.RegionTactic
namespace Go.Proofs.YtgbipbcejjlpiaaGreatDoor
open Go.RowKit

set_option maxRecDepth 100000 in
theorem width30 (b wd n c : Nat) (hw : Wide wd n c) (w : World) (hc : w.cell? ⟨b, 0, none⟩ = some (.int .i64 wd)) :
    Calls Tryz.prog 109 #[.pointer (some ⟨b, 0, none⟩)] w fun e w' => e = .returned (.int .i64 n) ∧ w = w' := by
  rcases hw with ⟨rfl, rfl, rfl⟩ | ⟨rfl, rfl, rfl⟩
  all_goals
    go_enter Tryz.func109, Tryz.ntmps109
    go_wp2_with fail
    refine (bits14 b _ _ hc).mono ?_
    rintro e w' ⟨rfl, rfl⟩
    go_wp2_with fail
    go_ret
    exact ⟨rfl, rfl⟩

set_option maxRecDepth 100000 in
theorem width_nil (w : World) :
    Calls Tryz.prog 109 #[.pointer none] w fun e w' => e = .returned (.int .i64 0) ∧ w = w' := by
  go_enter Tryz.func109, Tryz.ntmps109
  go_wp2_with fail
  refine (bits_nil _).mono ?_
  rintro e w' ⟨rfl, rfl⟩
  go_wp2_with fail
  go_ret
  exact ⟨rfl, rfl⟩

set_option maxRecDepth 100000 in
theorem isnum31 (b wd c : Nat) (hk : Kind wd c) (a : Int) (w : World) (hc : w.cell? ⟨b, 0, none⟩ = some (.int .i64 wd)) :
    Calls Tryz.prog 68 #[.pointer (some ⟨b, 0, none⟩), .int .i64 a] w fun e w' => e = .returned (.bool (inB c a)) ∧ w = w' := by
  by_cases h0 : 0 ≤ a
  · have hd : inB c a = decide (a < (c : Int) + 1) := by unfold inB; apply Bool.eq_iff_iff.2; simp; omega
    rw [hd]
    clear hd
    go_enter Tryz.func68, Tryz.ntmps68
    go_wp2_with fail
    refine (size13 b wd c hk _ hc).mono ?_
    rintro e w' ⟨rfl, rfl⟩
    go_wp2_with fail
    go_ret
    exact ⟨rfl, rfl⟩
  · have hd : inB c a = false := inB_false.2 (by omega)
    rw [hd]
    clear hd
    have hd : decide (0 ≤ a) = false := by simpa using h0
    go_enter Tryz.func68, Tryz.ntmps68
    go_wp2_with fail
    go_ret
    exact ⟨rfl, rfl⟩

set_option maxRecDepth 100000 in
theorem isnum_nil (a : Int) (w : World) :
    Calls Tryz.prog 68 #[.pointer none, .int .i64 a] w fun e w' => e = .returned (.bool false) ∧ w = w' := by
  by_cases h0 : 0 ≤ a
  · have hd : decide (a < 0) = false := by simpa using h0
    go_enter Tryz.func68, Tryz.ntmps68
    go_wp2_with fail
    refine (size_nil _).mono ?_
    rintro e w' ⟨rfl, rfl⟩
    go_wp2_with fail
    go_ret
    exact ⟨rfl, rfl⟩
  · have hd : decide (0 ≤ a) = false := by simpa using h0
    go_enter Tryz.func68, Tryz.ntmps68
    go_wp2_with fail
    go_ret
    exact ⟨rfl, rfl⟩

set_option maxRecDepth 100000 in
theorem words_nil (A : Option Addr) (L cap : Nat) (w : World) :
    Calls Tryz.prog 69 #[.pointer none, .slice A L cap] w fun e w' => e = .returned (.tuple #[nilS, .int .i64 1]) ∧ w = w' := by
  go_enter Tryz.func69, Tryz.ntmps69
  go_wp2_with fail
  refine (width_nil _).mono ?_
  rintro e w' ⟨rfl, rfl⟩
  go_wp2_with fail
  go_ret2
  exact ⟨rfl, rfl⟩

set_option maxRecDepth 100000 in
theorem words_no (b wd n c : Nat) (hw : Wide wd n c) (A : Option Addr) (L cap : Nat) (hL : L % n ≠ 0) (h63 : L ≤ 100000) (w : World) (hc : w.cell? ⟨b, 0, none⟩ = some (.int .i64 wd)) :
    Calls Tryz.prog 69 #[.pointer (some ⟨b, 0, none⟩), .slice A L cap] w fun e w' => e = .returned (.tuple #[nilS, .int .i64 1]) ∧ w = w' := by
  have h2 : n = 2 := by rcases hw with ⟨_, rfl, _⟩ | ⟨_, rfl, _⟩ <;> omega
  subst h2
  have hm : (L : Int) % 2 = 1 := by omega
  go_enter Tryz.func69, Tryz.ntmps69
  go_wp2_with fail
  refine (width30 b wd 2 c hw _ hc).mono ?_
  rintro e w' ⟨rfl, rfl⟩
  go_wp2_with fail
  go_ret2
  exact ⟨rfl, rfl⟩

/-- in Words' loop -/
def WordsAt (n m : Nat) (f : Nat → Nat) (w : World) (s28 : Value) (wr : World) : Prop :=
  ∃ k : Nat, k ≤ n * m ∧ s28 = .int .i64 k ∧ wr.rowIs w.heap.size TI m (fun j => .int .i64 (part n f k j)) ∧ Below w.heap.size w wr
/-- what Words tells -/
def WordsSaid (n m : Nat) (f : Nat → Nat) (w : World) (e : Ending) (w' : World) : Prop :=
  e = .returned (.tuple #[sl w.heap.size m, .int .i64 0]) ∧ w'.rowIs w.heap.size TI m (fun j => .int .i64 (word n f j)) ∧ Below w.heap.size w w'

theorem wordsAt_start (n m : Nat) (f : Nat → Nat) (w : World) : WordsAt n m f w (.int .i64 0) (w.alloc (.cells (madeCells #[.int .i64 0] m) TI)) :=
  ⟨0, Nat.zero_le _, rfl, (World.rowIs_made w (.int .i64 0) m TI).congr (fun j _ => by rw [part_zero]; rfl), (Below.refl _ _).alloc (Nat.le_refl _) _⟩

theorem wordsAt_step {n m k wd c : Nat} {f : Nat → Nat} {w wr : World} (hw : Wide wd n c) (hk : k < n * m) (hrow : wr.rowIs w.heap.size TI m (fun j => .int .i64 (part n f k j))) (hb : Below w.heap.size w wr) {i : Nat} {v : Value} (hi : i = k / n) (hv : v = .int .i64 (part n f (k + 1) (k / n))) :
    WordsAt n m f w (.int .i64 (k + 1 : Nat)) (wr.setCell ⟨w.heap.size, i, none⟩ v).drew := by
  subst hi hv
  refine ⟨k + 1, hk, rfl, ((hrow.set (k / n) _).congr (fun j _ => ?_)).drew, (hb.setCell (p := ⟨w.heap.size, k / n, none⟩) (Nat.le_refl _) _).drew⟩
  by_cases hj : j = k / n
  · rw [if_pos hj, hj]
  · rw [if_neg hj]
    congr 2
    rcases hw with ⟨rfl, rfl, rfl⟩ | ⟨rfl, rfl, rfl⟩
    · have h1 : (j < k) = (j < k + 1) := by apply propext; omega
      simp only [part, h1]; simp
    · have h1 : (2 * j < k) = (2 * j < k + 1) := by apply propext; omega
      have h2 : (2 * j + 1 < k) = (2 * j + 1 < k + 1) := by apply propext; omega
      simp only [part, h1, h2]; simp

theorem or_two {x y : Nat} (hy : y < 256) (hx : x < 256) : bits .or .i64 (y : Int) ((x : Int) * 256) = ((y + 256 * x : Nat) : Int) := by
  have h := i64_or_nat y (x * 256) (by omega) (by omega)
  rw [show ((x * 256 : Nat) : Int) = (x : Int) * 256 by simp] at h
  rw [h, Nat.or_comm, show x * 256 = x <<< 8 by rw [Nat.shiftLeft_eq], ← Nat.shiftLeft_add_eq_or_of_lt (by omega), Nat.shiftLeft_eq]
  omega

set_option maxRecDepth 100000 in
set_option maxHeartbeats 1000000 in
theorem words1 (b c : Nat) (hw : Wide 8 1 c) (f : Nat → Nat) (hf : ∀ j, f j < 256) (A : Option Addr) (m cap : Nat) (hm : m ≤ 100000) (w : World) (hc : w.cell? ⟨b, 0, none⟩ = some (.int .i64 8)) (hr : Rd b w (u8s f) A m) :
    Calls Tryz.prog 69 #[.pointer (some ⟨b, 0, none⟩), .slice A m cap] w (WordsSaid 1 m f w) := by
  have hmk1 := run_make_row' (P := Tryz.prog) TIs TI (.int .i64 0) 8 Tryz.underlying51 infoI rfl .i64 .i64 m (by omega) (by omega)
  have HR := Lib.hid hr
  clear hr
  go_enter Tryz.func69, Tryz.ntmps69
  go_wp2_with fail
  refine (width30 b 8 1 c hw _ hc).mono ?_
  rintro e w' ⟨rfl, rfl⟩
  go_wp2_with fail
  go_loopw [28] (fun s28 wr => WordsAt 1 m f w s28 wr) (fun s28 _ => m - (intOf s28).toNat)
  case atStart => exact wordsAt_start 1 m f w
  case round =>
    obtain ⟨k, hk, rfl, hrow, hb⟩ := hrel
    by_cases hlt : k < m
    · obtain ⟨ad, rfl, hcell⟩ := (HR.out.below hb).at_ hlt
      have g1 := hrow.cell (i := k) hlt
      have f1 := hrow.frozen k
      have HS := Lib.hid (fun (v : Value) (hv : v = .int .i64 (part 1 f (k + 1) k)) => wordsAt_step (i := k) (v := v) hw (by omega) hrow hb (by omega) (by rw [Nat.div_one]; exact hv))
      have hx := hf k
      have hp0 : part 1 f k k = 0 := by simp [part]
      have HP1 := Lib.hid (show part 1 f (k + 1) k = f k by simp [part])
      rw [hp0] at g1
      clear hrow hb hp0
      obtain ⟨x, hfx⟩ : ∃ x, f k = x := ⟨_, rfl⟩
      rw [show u8s f k = .int .u8 (x : Nat) by simp [u8s, hfx]] at hcell
      rw [hfx] at hx HP1
      have HX := Lib.hid hfx
      clear hfx
      go_wp2_with fail
      go_region
      all_goals
        go_wp2_with fail
        refine ⟨HS.out _ ?_, by simp [intOf]; omega⟩
        rw [HP1.out]
        congr 1
        have := i64_or_nat 0 x (by omega) (by omega)
        simp at this ⊢
        omega
    · obtain rfl : k = m := by omega
      have HE := Lib.hid (show WordsSaid 1 k f w (.returned (.tuple #[sl w.heap.size k, .int .i64 0])) wr from ⟨rfl, hrow.congr (fun j hj => by rw [← part_all hw f hj, Nat.one_mul]), hb⟩)
      clear hrow hb
      go_wp2_with fail
      go_ret2
      exact HE.out

set_option maxRecDepth 100000 in
set_option maxHeartbeats 1000000 in
theorem words2 (b c : Nat) (hw : Wide 16 2 c) (f : Nat → Nat) (hf : ∀ j, f j < 256) (A : Option Addr) (L m cap : Nat) (hL : L = 2 * m) (hm : m ≤ 100000) (w : World) (hc : w.cell? ⟨b, 0, none⟩ = some (.int .i64 16)) (hr : Rd b w (u8s f) A L) :
    Calls Tryz.prog 69 #[.pointer (some ⟨b, 0, none⟩), .slice A L cap] w (WordsSaid 2 m f w) := by
  have hmk1 := run_make_row' (P := Tryz.prog) TIs TI (.int .i64 0) 8 Tryz.underlying51 infoI rfl .i64 .i64 m (by omega) (by omega)
  have HR := Lib.hid hr
  clear hr
  have hmod : (L : Int) % 2 = 0 := by omega
  have hdiv : (L : Int) / 2 = m := by omega
  have HL := Lib.hid hL
  have hLb : L ≤ 200000 := by omega
  clear hL
  go_enter Tryz.func69, Tryz.ntmps69
  go_wp2_with fail
  refine (width30 b 16 2 c hw _ hc).mono ?_
  rintro e w' ⟨rfl, rfl⟩
  go_wp2_with fail
  go_loopw [28] (fun s28 wr => WordsAt 2 m f w s28 wr) (fun s28 _ => L - (intOf s28).toNat)
  case atStart => exact wordsAt_start 2 m f w
  case round =>
    obtain ⟨k, hk, rfl, hrow, hb⟩ := hrel
    rw [← HL.out] at hk
    by_cases hlt : k < L
    · obtain ⟨ad, rfl, hcell⟩ := (HR.out.below hb).at_ hlt
      have hLL := HL.out
      have g1 := hrow.cell (i := k / 2) (by omega)
      have f1 := hrow.frozen (k / 2)
      have HS := Lib.hid (fun (v : Value) (hv : v = .int .i64 (part 2 f (k + 1) (k / 2))) => wordsAt_step (i := k / 2) (v := v) hw (by omega) hrow hb rfl hv)
      have hx := hf k
      clear hrow hb
      obtain ⟨x, hfx⟩ : ∃ x, f k = x := ⟨_, rfl⟩
      rw [show u8s f k = .int .u8 (x : Nat) by simp [u8s, hfx]] at hcell
      rw [hfx] at hx
      rcases Nat.mod_two_eq_zero_or_one k with hp | hp
      · obtain ⟨j, hj⟩ : ∃ j, k = 2 * j := ⟨k / 2, by omega⟩
        have ej : k / 2 = j := by omega
        have d1 : (k : Int) / 2 = j := by omega
        have d2 : (k : Int) % 2 = 0 := by omega
        have d3 : j < m := by omega
        rw [ej] at g1 f1 HS
        have hp0 : part 2 f k j = 0 := by have : ¬ 2 * j + 1 < 2 * j := by omega
                                          rw [hj]; simp [part, this]
        have HP1 := Lib.hid (show part 2 f (k + 1) j = x by rw [hj] at hfx ⊢; simp [part, hfx])
        rw [hp0] at g1
        clear hLL hp0 hfx hp ej hj
        go_wp2_with fail
        go_region
        all_goals
          go_wp2_with fail
          refine ⟨HS.out _ ?_, by simp [intOf]; omega⟩
          rw [HP1.out]
          congr 1
          have := i64_or_nat 0 x (by omega) (by omega)
          simp at this ⊢
          omega
      · obtain ⟨j, hj⟩ : ∃ j, k = 2 * j + 1 := ⟨k / 2, by omega⟩
        have ej : k / 2 = j := by omega
        have d1 : (k : Int) / 2 = j := by omega
        have d2 : (k : Int) % 2 = 1 := by omega
        have d3 : j < m := by omega
        rw [ej] at g1 f1 HS
        have hy := hf (2 * j)
        obtain ⟨y, hfy⟩ : ∃ y, f (2 * j) = y := ⟨_, rfl⟩
        have hp0 : part 2 f k j = y := by rw [hj]; simp [part, hfy]
        have HP1 := Lib.hid (show part 2 f (k + 1) j = y + 256 * x by
          have : 2 * j < 2 * j + 1 + 1 := by omega
          rw [hj] at hfx ⊢; simp [part, hfx, hfy, this])
        rw [hp0] at g1
        rw [hfy] at hy
        clear hLL hp0 hfx hp ej hfy hj
        go_wp2_with fail
        go_region
        all_goals
          go_wp2_with fail
          refine ⟨HS.out _ ?_, by simp [intOf]; omega⟩
          rw [HP1.out]
          congr 1
          exact or_two hy hx
    · have hLL := HL.out
      obtain rfl : k = L := by omega
      have HE := Lib.hid (show WordsSaid 2 m f w (.returned (.tuple #[sl w.heap.size m, .int .i64 0])) wr from ⟨rfl, hrow.congr (fun j hj => by rw [← part_all hw f hj, ← hLL]), hb⟩)
      clear hrow hb hLL
      go_wp2_with fail
      go_ret2
      exact HE.out

/-- Words, of bytes that are whole numbers -/
theorem words_yes (b wd n c : Nat) (hw : Wide wd n c) (f : Nat → Nat) (hf : ∀ j, f j < 256) (A : Option Addr) (m L cap : Nat) (hL : L = n * m) (hm : m ≤ 100000) (w : World) (hc : w.cell? ⟨b, 0, none⟩ = some (.int .i64 wd)) (hr : Rd b w (u8s f) A L) :
    Calls Tryz.prog 69 #[.pointer (some ⟨b, 0, none⟩), .slice A L cap] w (WordsSaid n m f w) := by
  rcases id hw with ⟨rfl, rfl, rfl⟩ | ⟨rfl, rfl, rfl⟩
  · obtain rfl : L = m := by omega
    exact words1 b _ hw f hf A L cap hm w hc hr
  · exact words2 b _ hw f hf A L m cap hL hm w hc hr
end Go.Proofs.YtgbipbcejjlpiaaGreatDoor
