/- Contracts of package region: width, isNumber and Words. The contract of package region's Bytes. The contract of package region's Mul. Contracts of layer 3's own first test, and of how its laws choose a field. Contracts of package region: areAlike, Clone, sum and Add. Contracts of the laws' own tests: are two rows of bytes, two lists of numbers, the same; was it an error. Contracts of gambrelref03: Words and Bytes. What came in, as it is read; contracts of Words, Bytes, Mul and Add for any input, in one form each. Products of bytes: plain mathematics. 's[k:]', as one equation. The contract of package region's Dot. append onto a row of the call's own, of whatever bytes, nil let in. Contracts of gambrelref03's Mul and Add; of Mul and Add of package region for any input, in one form each. Contracts of gambrelref03's Few and Dot; of Dot of package region for any input, in one form. -/
import Derived.Test.YtgdgimknnjbieaaGreatDoorGxh
import Derived.RegionTactic
import Derived.Deep.LoopGhost
import Derived.Test.YtgdgimknnjbieaaGreatDoorGxj
import Derived.Laws.BytesArg
import Derived.Lib.SliceRun
import Derived.Laws.BitsAllLaws
import Derived.OpenShut
import Derived.BigQuiet
import Derived.Deep.QuietTactic
import Derived.Deep.RegionHeld3
import Derived.Laws.AppendOwnNone
import Derived.Deep.RegionLaw

namespace Go.Proofs.YtgdgimknnjbieaaGreatDoor
open Go.RowKit

set_option maxRecDepth 100000 in
theorem width30 (b wd n c : Nat) (hw : Wide wd n c) (w : World) (hc : w.cell? ⟨b, 0, none⟩ = some (.int .i64 wd)) :
    Calls Tryz.prog 133 #[.pointer (some ⟨b, 0, none⟩)] w fun e w' => e = .returned (.int .i64 n) ∧ w = w' := by
  rcases hw with ⟨rfl, rfl, rfl⟩ | ⟨rfl, rfl, rfl⟩
  all_goals
    go_enter Tryz.func133, Tryz.ntmps133
    go_wp2_with fail
    refine (bits14 b _ _ hc).mono ?_
    rintro e w' ⟨rfl, rfl⟩
    go_wp2_with fail
    go_ret
    exact ⟨rfl, rfl⟩

set_option maxRecDepth 100000 in
theorem isnum31 (b wd c : Nat) (hk : Kind wd c) (a : Int) (w : World) (hc : w.cell? ⟨b, 0, none⟩ = some (.int .i64 wd)) :
    Calls Tryz.prog 83 #[.pointer (some ⟨b, 0, none⟩), .int .i64 a] w fun e w' => e = .returned (.bool (inB c a)) ∧ w = w' := by
  by_cases h0 : 0 ≤ a
  · have hd : inB c a = decide (a < (c : Int) + 1) := by unfold inB; apply Bool.eq_iff_iff.2; simp; omega
    rw [hd]
    clear hd
    go_enter Tryz.func83, Tryz.ntmps83
    go_wp2_with fail
    refine (size13 b wd c hk _ hc).mono ?_
    rintro e w' ⟨rfl, rfl⟩
    go_wp2_with fail
    go_ret
    exact ⟨rfl, rfl⟩
  · have hd : inB c a = false := inB_false.2 (by omega)
    rw [hd]
    clear hd
    have hd : decide (0 ≤ a) = false := by simpa using h0
    go_enter Tryz.func83, Tryz.ntmps83
    go_wp2_with fail
    go_ret
    exact ⟨rfl, rfl⟩

set_option maxRecDepth 100000 in
theorem words_no (b wd n c : Nat) (hw : Wide wd n c) (A : Option Addr) (L cap : Nat) (hL : L % n ≠ 0) (h63 : L ≤ 100000) (w : World) (hc : w.cell? ⟨b, 0, none⟩ = some (.int .i64 wd)) :
    Calls Tryz.prog 84 #[.pointer (some ⟨b, 0, none⟩), .slice A L cap] w fun e w' => e = .returned (.tuple #[nilS, .int .i64 1]) ∧ w = w' := by
  have h2 : n = 2 := by rcases hw with ⟨_, rfl, _⟩ | ⟨_, rfl, _⟩ <;> omega
  subst h2
  have hm : (L : Int) % 2 = 1 := by omega
  go_enter Tryz.func84, Tryz.ntmps84
  go_wp2_with fail
  refine (width30 b wd 2 c hw _ hc).mono ?_
  rintro e w' ⟨rfl, rfl⟩
  go_wp2_with fail
  go_ret2
  exact ⟨rfl, rfl⟩

/-- in Words' loop -/
def WordsAt (n m : Nat) (f : Nat → Nat) (w : World) (s28 : Value) (wr : World) : Prop :=
  ∃ k : Nat, k ≤ n * m ∧ s28 = .int .i64 k ∧ wr.rowIs w.heap.size TI m (fun j => .int .i64 (part n f k j)) ∧ Below w.heap.size w wr
/-- what Words tells -/
def WordsSaid (n m : Nat) (f : Nat → Nat) (w : World) (e : Ending) (w' : World) : Prop :=
  e = .returned (.tuple #[sl w.heap.size m, .int .i64 0]) ∧ w'.rowIs w.heap.size TI m (fun j => .int .i64 (word n f j)) ∧ Below w.heap.size w w'

theorem wordsAt_start (n m : Nat) (f : Nat → Nat) (w : World) : WordsAt n m f w (.int .i64 0) (w.alloc (.cells (madeCells #[.int .i64 0] m) TI)) :=
  ⟨0, Nat.zero_le _, rfl, (World.rowIs_made w (.int .i64 0) m TI).congr (fun j _ => by rw [part_zero]; rfl), (Below.refl _ _).alloc (Nat.le_refl _) _⟩

theorem wordsAt_step {n m k wd c : Nat} {f : Nat → Nat} {w wr : World} (hw : Wide wd n c) (hk : k < n * m) (hrow : wr.rowIs w.heap.size TI m (fun j => .int .i64 (part n f k j))) (hb : Below w.heap.size w wr) {i : Nat} {v : Value} (hi : i = k / n) (hv : v = .int .i64 (part n f (k + 1) (k / n))) :
    WordsAt n m f w (.int .i64 (k + 1 : Nat)) (wr.setCell ⟨w.heap.size, i, none⟩ v).drew := by
  subst hi hv
  refine ⟨k + 1, hk, rfl, ((hrow.set (k / n) _).congr (fun j _ => ?_)).drew, (hb.setCell (p := ⟨w.heap.size, k / n, none⟩) (Nat.le_refl _) _).drew⟩
  by_cases hj : j = k / n
  · rw [if_pos hj, hj]
  · rw [if_neg hj]
    congr 2
    rcases hw with ⟨rfl, rfl, rfl⟩ | ⟨rfl, rfl, rfl⟩
    · have h1 : (j < k) = (j < k + 1) := by apply propext; omega
      simp only [part, h1]; simp
    · have h1 : (2 * j < k) = (2 * j < k + 1) := by apply propext; omega
      have h2 : (2 * j + 1 < k) = (2 * j + 1 < k + 1) := by apply propext; omega
      simp only [part, h1, h2]; simp

theorem or_two {x y : Nat} (hy : y < 256) (hx : x < 256) : bits .or .i64 (y : Int) ((x : Int) * 256) = ((y + 256 * x : Nat) : Int) := by
  have h := i64_or_nat y (x * 256) (by omega) (by omega)
  rw [show ((x * 256 : Nat) : Int) = (x : Int) * 256 by simp] at h
  rw [h, Nat.or_comm, show x * 256 = x <<< 8 by rw [Nat.shiftLeft_eq], ← Nat.shiftLeft_add_eq_or_of_lt (by omega), Nat.shiftLeft_eq]
  omega

set_option maxRecDepth 100000 in
set_option maxHeartbeats 1000000 in
theorem words1 (b c : Nat) (hw : Wide 8 1 c) (f : Nat → Nat) (hf : ∀ j, f j < 256) (A : Option Addr) (m cap : Nat) (hm : m ≤ 100000) (w : World) (hc : w.cell? ⟨b, 0, none⟩ = some (.int .i64 8)) (hr : Rd b w (u8s f) A m) :
    Calls Tryz.prog 84 #[.pointer (some ⟨b, 0, none⟩), .slice A m cap] w (WordsSaid 1 m f w) := by
  have hmk1 := run_make_row' (P := Tryz.prog) TIs TI (.int .i64 0) 8 Tryz.underlying53 infoI rfl .i64 .i64 m (by omega) (by omega)
  have HR := Lib.hid hr
  clear hr
  go_enter Tryz.func84, Tryz.ntmps84
  go_wp2_with fail
  refine (width30 b 8 1 c hw _ hc).mono ?_
  rintro e w' ⟨rfl, rfl⟩
  go_wp2_with fail
  go_loopw [28] (fun s28 wr => WordsAt 1 m f w s28 wr) (fun s28 _ => m - (intOf s28).toNat)
  case atStart => exact wordsAt_start 1 m f w
  case round =>
    obtain ⟨k, hk, rfl, hrow, hb⟩ := hrel
    by_cases hlt : k < m
    · obtain ⟨ad, rfl, hcell⟩ := (HR.out.below hb).at_ hlt
      have g1 := hrow.cell (i := k) hlt
      have f1 := hrow.frozen k
      have HS := Lib.hid (fun (v : Value) (hv : v = .int .i64 (part 1 f (k + 1) k)) => wordsAt_step (i := k) (v := v) hw (by omega) hrow hb (by omega) (by rw [Nat.div_one]; exact hv))
      have hx := hf k
      have hp0 : part 1 f k k = 0 := by simp [part]
      have HP1 := Lib.hid (show part 1 f (k + 1) k = f k by simp [part])
      rw [hp0] at g1
      clear hrow hb hp0
      obtain ⟨x, hfx⟩ : ∃ x, f k = x := ⟨_, rfl⟩
      rw [show u8s f k = .int .u8 (x : Nat) by simp [u8s, hfx]] at hcell
      rw [hfx] at hx HP1
      have HX := Lib.hid hfx
      clear hfx
      go_wp2_with fail
      go_region
      all_goals
        go_wp2_with fail
        refine ⟨HS.out _ ?_, by simp [intOf]; omega⟩
        rw [HP1.out]
        congr 1
        have := i64_or_nat 0 x (by omega) (by omega)
        simp at this ⊢
        omega
    · obtain rfl : k = m := by omega
      have HE := Lib.hid (show WordsSaid 1 k f w (.returned (.tuple #[sl w.heap.size k, .int .i64 0])) wr from ⟨rfl, hrow.congr (fun j hj => by rw [← part_all hw f hj, Nat.one_mul]), hb⟩)
      clear hrow hb
      go_wp2_with fail
      go_ret2
      exact HE.out

set_option maxRecDepth 100000 in
set_option maxHeartbeats 1000000 in
theorem words2 (b c : Nat) (hw : Wide 16 2 c) (f : Nat → Nat) (hf : ∀ j, f j < 256) (A : Option Addr) (L m cap : Nat) (hL : L = 2 * m) (hm : m ≤ 100000) (w : World) (hc : w.cell? ⟨b, 0, none⟩ = some (.int .i64 16)) (hr : Rd b w (u8s f) A L) :
    Calls Tryz.prog 84 #[.pointer (some ⟨b, 0, none⟩), .slice A L cap] w (WordsSaid 2 m f w) := by
  have hmk1 := run_make_row' (P := Tryz.prog) TIs TI (.int .i64 0) 8 Tryz.underlying53 infoI rfl .i64 .i64 m (by omega) (by omega)
  have HR := Lib.hid hr
  clear hr
  have hmod : (L : Int) % 2 = 0 := by omega
  have hdiv : (L : Int) / 2 = m := by omega
  have HL := Lib.hid hL
  have hLb : L ≤ 200000 := by omega
  clear hL
  go_enter Tryz.func84, Tryz.ntmps84
  go_wp2_with fail
  refine (width30 b 16 2 c hw _ hc).mono ?_
  rintro e w' ⟨rfl, rfl⟩
  go_wp2_with fail
  go_loopw [28] (fun s28 wr => WordsAt 2 m f w s28 wr) (fun s28 _ => L - (intOf s28).toNat)
  case atStart => exact wordsAt_start 2 m f w
  case round =>
    obtain ⟨k, hk, rfl, hrow, hb⟩ := hrel
    rw [← HL.out] at hk
    by_cases hlt : k < L
    · obtain ⟨ad, rfl, hcell⟩ := (HR.out.below hb).at_ hlt
      have hLL := HL.out
      have g1 := hrow.cell (i := k / 2) (by omega)
      have f1 := hrow.frozen (k / 2)
      have HS := Lib.hid (fun (v : Value) (hv : v = .int .i64 (part 2 f (k + 1) (k / 2))) => wordsAt_step (i := k / 2) (v := v) hw (by omega) hrow hb rfl hv)
      have hx := hf k
      clear hrow hb
      obtain ⟨x, hfx⟩ : ∃ x, f k = x := ⟨_, rfl⟩
      rw [show u8s f k = .int .u8 (x : Nat) by simp [u8s, hfx]] at hcell
      rw [hfx] at hx
      rcases Nat.mod_two_eq_zero_or_one k with hp | hp
      · obtain ⟨j, hj⟩ : ∃ j, k = 2 * j := ⟨k / 2, by omega⟩
        have ej : k / 2 = j := by omega
        have d1 : (k : Int) / 2 = j := by omega
        have d2 : (k : Int) % 2 = 0 := by omega
        have d3 : j < m := by omega
        rw [ej] at g1 f1 HS
        have hp0 : part 2 f k j = 0 := by have : ¬ 2 * j + 1 < 2 * j := by omega
                                          rw [hj]; simp [part, this]
        have HP1 := Lib.hid (show part 2 f (k + 1) j = x by rw [hj] at hfx ⊢; simp [part, hfx])
        rw [hp0] at g1
        clear hLL hp0 hfx hp ej hj
        go_wp2_with fail
        go_region
        all_goals
          go_wp2_with fail
          refine ⟨HS.out _ ?_, by simp [intOf]; omega⟩
          rw [HP1.out]
          congr 1
          have := i64_or_nat 0 x (by omega) (by omega)
          simp at this ⊢
          omega
      · obtain ⟨j, hj⟩ : ∃ j, k = 2 * j + 1 := ⟨k / 2, by omega⟩
        have ej : k / 2 = j := by omega
        have d1 : (k : Int) / 2 = j := by omega
        have d2 : (k : Int) % 2 = 1 := by omega
        have d3 : j < m := by omega
        rw [ej] at g1 f1 HS
        have hy := hf (2 * j)
        obtain ⟨y, hfy⟩ : ∃ y, f (2 * j) = y := ⟨_, rfl⟩
        have hp0 : part 2 f k j = y := by rw [hj]; simp [part, hfy]
        have HP1 := Lib.hid (show part 2 f (k + 1) j = y + 256 * x by
          have : 2 * j < 2 * j + 1 + 1 := by omega
          rw [hj] at hfx ⊢; simp [part, hfx, hfy, this])
        rw [hp0] at g1
        rw [hfy] at hy
        clear hLL hp0 hfx hp ej hfy hj
        go_wp2_with fail
        go_region
        all_goals
          go_wp2_with fail
          refine ⟨HS.out _ ?_, by simp [intOf]; omega⟩
          rw [HP1.out]
          congr 1
          exact or_two hy hx
    · have hLL := HL.out
      obtain rfl : k = L := by omega
      have HE := Lib.hid (show WordsSaid 2 m f w (.returned (.tuple #[sl w.heap.size m, .int .i64 0])) wr from ⟨rfl, hrow.congr (fun j hj => by rw [← part_all hw f hj, ← hLL]), hb⟩)
      clear hrow hb hLL
      go_wp2_with fail
      go_ret2
      exact HE.out

/-- Words, of bytes that are whole numbers -/
theorem words_yes (b wd n c : Nat) (hw : Wide wd n c) (f : Nat → Nat) (hf : ∀ j, f j < 256) (A : Option Addr) (m L cap : Nat) (hL : L = n * m) (hm : m ≤ 100000) (w : World) (hc : w.cell? ⟨b, 0, none⟩ = some (.int .i64 wd)) (hr : Rd b w (u8s f) A L) :
    Calls Tryz.prog 84 #[.pointer (some ⟨b, 0, none⟩), .slice A L cap] w (WordsSaid n m f w) := by
  rcases id hw with ⟨rfl, rfl, rfl⟩ | ⟨rfl, rfl, rfl⟩
  · obtain rfl : L = m := by omega
    exact words1 b _ hw f hf A L cap hm w hc hr
  · exact words2 b _ hw f hf A L m cap hL hm w hc hr
end Go.Proofs.YtgdgimknnjbieaaGreatDoor

namespace Go.Proofs.YtgdgimknnjbieaaGreatDoor
open Go.RowKit

/-- t bytes are laid -/
def BytesOwn (n N : Nat) (l : Nat → Int) (w : World) (t : Nat) (v : Value) (wr : World) : Prop :=
  ∃ g, v = .slice (some ⟨g, 0, none⟩) t N ∧ w.heap.size ≤ g ∧ wr.ownsRow w.heap.size TB 1 v t ((List.range t).map (u8s (byt n l))) ∧ Below w.heap.size w wr
/-- in Bytes' loop over the numbers -/
def BytesAt (n m c : Nat) (l : Nat → Int) (w : World) (s7 s22 : Value) (wr : World) : Prop :=
  ∃ k : Nat, k ≤ m ∧ s22 = .int .i64 k ∧ allIn c l k ∧ BytesOwn n (m * n) l w (k * n) s7 wr
/-- in its loop over the bytes of one -/
def ByteAt (n m k : Nat) (l : Nat → Int) (w : World) (s7 s31 : Value) (wr : World) : Prop :=
  ∃ i : Nat, i ≤ n ∧ s31 = .int .i64 i ∧ BytesOwn n (m * n) l w (k * n + i) s7 wr
/-- what Bytes tells -/
def BytesSaid (n m c : Nat) (l : Nat → Int) (w : World) (e : Ending) (w' : World) : Prop :=
  Below w.heap.size w w' ∧ ((allIn c l m ∧ ∃ g, e = .returned (.tuple #[.slice (some ⟨g, 0, none⟩) (m * n) (m * n), .int .i64 0]) ∧ w.heap.size ≤ g ∧ ∀ b, b < w.heap.size → Rd b w' (u8s (byt n l)) (some ⟨g, 0, none⟩) (m * n)) ∨
    (¬ allIn c l m ∧ e = .returned (.tuple #[nilS, .int .i64 1])))

theorem byt_at {wd n c : Nat} (hw : Wide wd n c) (l : Nat → Int) (k i : Nat) (hi : i < n) (h0 : 0 ≤ l k) (h1 : l k ≤ c) : (byt n l (k * n + i) : Int) = (l k / 2 ^ (8 * i)) % 256 := by
  rcases hw with ⟨rfl, rfl, rfl⟩ | ⟨rfl, rfl, rfl⟩
  · obtain rfl : i = 0 := by omega
    simp [byt]; omega
  · obtain rfl | rfl : i = 0 ∨ i = 1 := by omega
    · have e1 : (k * 2 + 0) % 2 = 0 := by omega
      have e2 : (k * 2 + 0) / 2 = k := by omega
      simp only [byt, e1, e2]
      simp; omega
    · have e1 : (k * 2 + 1) % 2 = 1 := by omega
      have e2 : (k * 2 + 1) / 2 = k := by omega
      simp only [byt, e1, e2]
      simp; omega

theorem bytesOwn_step {n N T g : Nat} {l : Nat → Int} {w wr w1 : World} {o : Obj} (hgn : w.heap.size ≤ g) (hb : Below w.heap.size w wr)
    (hown : w1.ownsRow w.heap.size TB 1 (.slice (some ⟨g, 0, none⟩) (T + 1) N) (T + 1) ((List.range T).map (u8s (byt n l)) ++ [.int .u8 (byt n l T)])) (hg : (wr.alloc o).grownBy w1 (some g)) :
    BytesOwn n N l w (T + 1) (.slice (some ⟨g, 0, none⟩) (T + 1) N) w1 := by
  refine ⟨g, rfl, hgn, ?_, ?_⟩
  · rw [range_snoc]; exact hown
  · exact (hb.alloc hb.size o).grown hg (by simp; have := hb.size; omega) (fun q h => by cases h; exact hgn)

set_option maxRecDepth 100000 in
set_option maxHeartbeats 2000000 in
theorem bytes13 (b wd n c : Nat) (hw : Wide wd n c) (l : Nat → Int) (A : Option Addr) (m cap : Nat) (hm : m ≤ 100000) (w : World) (hc : w.cell? ⟨b, 0, none⟩ = some (.int .i64 wd)) (hr : Rd b w (i64s l) A m) (hbl : b < w.heap.size) :
    Calls Tryz.prog 86 #[.pointer (some ⟨b, 0, none⟩), .slice A m cap] w (BytesSaid n m c l w) := by
  obtain ⟨i0, hi, hz0, hz1, hz2⟩ := info_parts infoB
  have hwb := hw.bounds
  have HR := Lib.hid hr
  clear hr
  have hmn : m * n ≤ 200000 := by
    have : m * n ≤ 100000 * 2 := Nat.mul_le_mul hm hwb.2.1
    omega
  obtain ⟨N, hN⟩ : ∃ N, m * n = N := ⟨_, rfl⟩
  have hNi : (m : Int) * n = N := by rw [← hN]; simp
  rw [hN] at hmn
  have HN := Lib.hid hN
  clear hN
  go_enter Tryz.func86, Tryz.ntmps86
  go_wp2_with fail
  refine (width30 b wd n c hw _ hc).mono ?_
  rintro e w' ⟨rfl, rfl⟩
  have hn0 : ((n : Int) == 0) = false := by simp; omega
  go_wp2_with (refine wpList_make_own _ rfl _ _ TBs rfl w.heap.size TB i0 (.int .u8 0) 1 Tryz.underlying35 hi hz0 hz1 .i64 .i64 _ N rfl rfl (by omega) (by rw [hz2]; omega) (by unfold maxLen; omega) (Nat.le_refl _) ?_; intro w1 hown1 hg1)
  have HST := Lib.hid (show BytesAt n m c l w (.slice (some ⟨w.heap.size, 0, none⟩) 0 N) (.int .i64 0) w1 from
    ⟨0, Nat.zero_le _, rfl, fun j hj => absurd hj (by omega), w.heap.size, by rw [Nat.zero_mul, HN.out], Nat.le_refl _, by rw [Nat.zero_mul]; exact hown1, (Below.refl _ _).grown hg1 (Nat.le_refl _) (fun _ h => by cases h)⟩)
  clear hown1 hg1
  go_loopw [7, 22] (fun s7 s22 wr => BytesAt n m c l w s7 s22 wr) (fun _ s22 _ => m - (intOf s22).toNat)
  case atStart => exact HST.out
  case round =>
    clear HST
    obtain ⟨k, hk, rfl, hall, g, rfl, hgn, hown, hb⟩ := hrel
    have HALL := Lib.hid hall
    have HOWN := Lib.hid hown
    have HB := Lib.hid hb
    have hc' : wr.cell? ⟨b, 0, none⟩ = some (.int .i64 wd) := (hb.cell hbl).trans hc
    clear hall hown
    by_cases hlt : k < m
    · obtain ⟨ad, rfl, hcell⟩ := (HR.out.below hb).at_ hlt
      clear hb
      obtain ⟨x, hx⟩ : ∃ x, l k = x := ⟨_, rfl⟩
      rw [show i64s l k = .int .i64 x by simp [i64s, hx]] at hcell
      have HX := Lib.hid hx
      by_cases hin : 0 ≤ x ∧ x ≤ c
      · have HI := Lib.hid (inB_iff.2 hin)
        have h0 := hin.1
        have h1 : x ≤ 65535 := by omega
        clear hin
        go_wp2_with (go_at_call 83; refine (isnum31 b wd c hw.kind x _ hc').mono ?_; rintro e w' ⟨rfl, rfl⟩; rw [HI.out])
        go_loopw [7, 31] (fun s7 s31 wr => ByteAt n m k l w s7 s31 wr) (fun _ s31 _ => n - (intOf s31).toNat)
        case atStart => exact ⟨0, Nat.zero_le _, rfl, g, by rw [HN.out]; rfl, hgn, HOWN.out, HB.out⟩
        case round =>
          obtain ⟨i, hi', rfl, g', rfl, hgn', hown', hb'⟩ := hrel
          by_cases hlt' : i < n
          · have hbt := byt_at hw l k i hlt' (by rw [hx]; exact h0) (by rw [hx]; have := inB_iff.1 HI.out; omega)
            rw [hx] at hbt
            have hTN : k * n + i + 1 ≤ N := by
              have h2 : (k + 1) * n ≤ m * n := Nat.mul_le_mul_right n hlt
              rw [HN.out, Nat.add_mul] at h2
              omega
            rw [HN.out] at hown' ⊢
            obtain ⟨T, hT⟩ : ∃ T, k * n + i = T := ⟨_, rfl⟩
            rw [hT] at hbt hTN hown' ⊢
            have HT := Lib.hid hT
            have HBT := Lib.hid hbt
            have HO' := Lib.hid hown'
            have HB' := Lib.hid hb'
            clear hT hbt hown' hb'
            obtain rfl | rfl : i = 0 ∨ i = 1 := by omega
            · go_wp2_with (at_builtin; refine wpList_append_fits _ rfl _ _ TBs rfl w.heap.size TB i0 1 Tryz.underlying35 hi hz1 g' T N _ rfl (HO'.out.alloc _) ⟨wr.heap.size, 0, none⟩ 1 1 [.int .u8 (byt n l T)] rfl rfl ?c1 (one_u8 _) hTN ?_)
              case c1 => exact news_one (by rw [HBT.out]; simp)
              intro w2 hown2 hg2
              have HST := Lib.hid (bytesOwn_step hgn' HB'.out hown2 hg2)
              clear hown2 hg2
              go_wp2_with fail
              refine ⟨⟨1, by omega, rfl, ?_⟩, by simp [intOf]; omega⟩
              rw [HN.out, show k * n + 1 = T + 1 by rw [← HT.out]]
              exact HST.out
            · go_wp2_with (at_builtin; refine wpList_append_fits _ rfl _ _ TBs rfl w.heap.size TB i0 1 Tryz.underlying35 hi hz1 g' T N _ rfl (HO'.out.alloc _) ⟨wr.heap.size, 0, none⟩ 1 1 [.int .u8 (byt n l T)] rfl rfl ?d1 (one_u8 _) hTN ?_)
              case d1 => exact news_one (by rw [HBT.out, show (2 : Int) ^ (8 * 1) = 256 by decide]; congr 1; omega)
              intro w2 hown2 hg2
              have HST := Lib.hid (bytesOwn_step hgn' HB'.out hown2 hg2)
              clear hown2 hg2
              go_wp2_with fail
              refine ⟨⟨2, by omega, rfl, ?_⟩, by simp [intOf]; omega⟩
              rw [HN.out, show k * n + 2 = T + 1 by rw [← HT.out]]
              exact HST.out
          · obtain rfl : i = n := by omega
            have HE := Lib.hid (show BytesAt i m c l w (.slice (some ⟨g', 0, none⟩) (k * i + i) (m * i)) (.int .i64 (k + 1 : Nat)) wr from
              ⟨k + 1, hlt, rfl, fun j hj => (Nat.lt_succ_iff_lt_or_eq.1 hj).elim (fun h => HALL.out j h) (fun h => by rw [h, hx]; exact inB_iff.1 HI.out), g', by rw [Nat.add_mul, Nat.one_mul], hgn', by rw [Nat.add_mul, Nat.one_mul]; exact hown', hb'⟩)
            clear hown' hb' hx
            go_wp2_with fail
            exact ⟨HE.out, by simp [intOf]; omega⟩
      · have HI := Lib.hid (inB_false.2 hin)
        have HE := Lib.hid (show BytesSaid n m c l w (.returned (.tuple #[nilS, .int .i64 1])) wr from ⟨HB.out, Or.inr ⟨fun h => hin (hx ▸ h k hlt), rfl⟩⟩)
        clear hin hx
        go_wp2_with (go_at_call 83; refine (isnum31 b wd c hw.kind x _ hc').mono ?_; rintro e w' ⟨rfl, rfl⟩; rw [HI.out])
        go_ret2
        exact HE.out
    · obtain rfl : k = m := by omega
      have HE := Lib.hid (show BytesSaid n k c l w (.returned (.tuple #[.slice (some ⟨g, 0, none⟩) (k * n) (k * n), .int .i64 0])) wr from
        ⟨HB.out, Or.inl ⟨HALL.out, g, rfl, hgn, fun b' hb' => by
          obtain ⟨A', c', h1, _, h3⟩ := Rd.of_own (b := b') HOWN.out hb'
          injection h1 with h1
          subst h1
          exact h3⟩⟩)
      clear hb
      go_wp2_with fail
      go_ret2
      exact HE.out
end Go.Proofs.YtgdgimknnjbieaaGreatDoor

namespace Go.Proofs.YtgdgimknnjbieaaGreatDoor
open Go.RowKit

theorem rowIs_type {w : World} {g t t' n n' : Nat} {k k' : Nat → Value} (h : w.rowIs g t n k) (h' : w.rowIs g t' n' k') : t = t' := by
  obtain ⟨c, h1, _⟩ := h
  obtain ⟨c', h2, _⟩ := h'
  rw [h1] at h2
  injection h2 with h2
  injection h2

/-- a store into a row of numbers leaves the field -/
theorem Fld.setInt {p b wd g m i : Nat} {w : World} {k : Nat → Value} {t : Nat} (h : Fld p b wd w) (hr : w.rowIs g t m k) (h1 : t ≠ TF) (h2 : t ≠ T16) (v : Value) : Fld p b wd (w.setCell ⟨g, i, none⟩ v) := by
  refine ⟨h.1, ?_⟩
  rcases h.2 with h | ⟨x, y, g1, g2, r1, r2, r3⟩
  · refine Or.inl (World.rowIs.setOther h (a := ⟨g, i, none⟩) ?_ v)
    rintro rfl
    exact h1 (rowIs_type hr h)
  · refine Or.inr ⟨x, y, g1, g2, r1.setOther (a := ⟨g, i, none⟩) ?_ v, r2.setOther (a := ⟨g, i, none⟩) ?_ v, r3.setOther (a := ⟨g, i, none⟩) ?_ v⟩
    · rintro rfl
      exact h1 (rowIs_type hr r1)
    · rintro rfl
      exact h2 (rowIs_type hr r2)
    · rintro rfl
      exact h2 (rowIs_type hr r3)

theorem Turned.setNew {b g i : Nat} {w w' : World} (h : Turned b w w') (hg : w.heap.size ≤ g) (v : Value) : Turned b w (w'.setCell ⟨g, i, none⟩ v) :=
  ⟨h.os, h.tape, h.output, by simpa [World.setCell] using h.size, fun k hk hb => (Below.heap_setCell _ _ _ _ (by simp; omega)).trans (h.block k hk hb)⟩

theorem fmul_le {p wd : Nat} (hg : Good p wd) (a x : Int) : 0 ≤ fmul p a x ∧ fmul p a x ≤ M.ord p := by
  unfold fmul
  split
  · have := M.md_in hg.prim.1 (M.mul a.toNat x.toNat)
    omega
  · omega

/-- the bytes f, each number of them times a -/
def mulB (p n : Nat) (a : Int) (f : Nat → Nat) : Nat → Nat := byt n (fun j => fmul p a (word n f j))

/-- in Mul's loop -/
def MulAt (p b wd n m : Nat) (a : Int) (f : Nat → Nat) (w : World) (s27 : Value) (wr : World) : Prop :=
  ∃ k : Nat, k ≤ m ∧ s27 = .int .i64 k ∧ wr.rowIs w.heap.size TI m (fun j => .int .i64 (if j < k then fmul p a (word n f j) else (word n f j : Nat))) ∧ Fld p b wd wr ∧ Turned b w wr
/-- what Mul tells -/
def MulSaid (p b wd n L : Nat) (a : Int) (f : Nat → Nat) (w : World) (e : Ending) (w' : World) : Prop :=
  ∃ g, e = .returned (.tuple #[.slice (some ⟨g, 0, none⟩) L L, .int .i64 0]) ∧ w.heap.size ≤ g ∧ Rd b w' (u8s (mulB p n a f)) (some ⟨g, 0, none⟩) L ∧ Fld p b wd w' ∧ Turned b w w'

theorem mulAt_step {p b wd n m k : Nat} {a : Int} {f : Nat → Nat} {w wr : World} (hk : k < m) (hrow : wr.rowIs w.heap.size TI m (fun j => .int .i64 (if j < k then fmul p a (word n f j) else (word n f j : Nat))))
    (hf : Fld p b wd wr) (ht : Turned b w wr) {v : Value} (hv : v = .int .i64 (fmul p a (word n f k))) : MulAt p b wd n m a f w (.int .i64 (k + 1 : Nat)) (wr.setCell ⟨w.heap.size, k, none⟩ v) := by
  subst hv
  refine ⟨k + 1, hk, rfl, (hrow.set k _).congr (fun j _ => ?_), hf.setInt hrow (by decide) (by decide) _, ht.setNew (Nat.le_refl _) _⟩
  rcases Nat.lt_trichotomy j k with h | h | h
  · rw [if_neg (by omega), if_pos h, if_pos (by omega)]
  · subst h; rw [if_pos rfl, if_pos (by omega)]
  · rw [if_neg (by omega), if_neg (by omega), if_neg (by omega)]

set_option maxRecDepth 100000 in
set_option maxHeartbeats 2000000 in
theorem mul_yes (p b wd n : Nat) (hw : Wide wd n (M.ord p)) (a : Int) (a0 : 0 ≤ a) (a1 : a ≤ M.ord p) (f : Nat → Nat) (hf : ∀ j, f j < 256) (A : Option Addr) (m L cap : Nat) (hL : L = n * m) (hm : m ≤ 100000) (w : World) (hfl : Fld p b wd w) (hr : Rd b w (u8s f) A L) :
    Calls Tryz.prog 48 #[.pointer (some ⟨b, 0, none⟩), .int .i64 a, .slice A L cap] w (MulSaid p b wd n L a f w) := by
  have hg := hfl.1
  have hbl := hfl.lt
  have hc0 := hfl.c0
  have HI := Lib.hid (inB_iff.2 ⟨a0, a1⟩)
  have HF := Lib.hid hfl
  have HR := Lib.hid hr
  have HL := Lib.hid hL
  have A1 := Lib.hid a1
  clear hfl hr hL a1
  go_enter Tryz.func48, Tryz.ntmps48
  go_wp2_with fail
  refine (isnum31 b wd _ hw.kind a _ hc0).mono ?_
  rintro e w' ⟨rfl, rfl⟩
  rw [HI.out]
  go_wp2_with fail
  refine (words_yes b wd n _ hw f hf A m L cap HL.out hm _ hc0 HR.out).mono ?_
  rintro e w1 ⟨rfl, hrow, hb⟩
  have HST := Lib.hid (show MulAt p b wd n m a f w (.int .i64 0) w1 from ⟨0, Nat.zero_le _, rfl, hrow.congr (fun j _ => by rw [if_neg (by omega)]), HF.out.of_below hb, Turned.of_below hb⟩)
  clear hrow hb
  go_wp2_with fail
  go_loopw [27] (fun s27 wr => MulAt p b wd n m a f w s27 wr) (fun s27 _ => m - (intOf s27).toNat)
  case atStart => exact HST.out
  case round =>
    clear HST
    obtain ⟨k, hk, rfl, hrow, hf', ht⟩ := hrel
    by_cases hlt : k < m
    · have g1 := hrow.cell (i := k) hlt
      rw [if_neg (by omega)] at g1
      have HW := Lib.hid hrow
      have HF' := Lib.hid hf'
      have HT := Lib.hid ht
      clear hrow hf' ht
      go_wp2_with fail
      refine (fmul12 p b wd a _ _ HF'.out).mono ?_
      rintro e w2 ⟨rfl, hf2, ht2⟩
      have hrow2 := ht2.row HW.out (by omega)
      have g2 := hrow2.cell (i := k) hlt
      rw [if_neg (by omega)] at g2
      have f2 := hrow2.frozen k
      have HS := Lib.hid (mulAt_step hlt hrow2 hf2 (HT.out.trans ht2) rfl)
      clear hrow2 hf2 ht2 HW HF' HT
      go_wp2_with fail
      exact ⟨HS.out, by simp [intOf]; omega⟩
    · obtain rfl : k = m := by omega
      have hin : allIn (M.ord p) (fun j => fmul p a (word n f j)) k := fun j _ => fmul_le hg a _
      have HIN := Lib.hid hin
      have HRD := Lib.hid (Rd.of_row (n := k) (hrow.congr (g := i64s (fun j => fmul p a (word n f j))) (fun j hj => by rw [if_pos hj])) (show w.heap.size ≠ b by omega) (Nat.le_refl _))
      have hc1 := hf'.c0
      have hbl1 := hf'.lt
      have HF' := Lib.hid hf'
      have HT := Lib.hid ht
      clear hrow hf' ht hin
      go_wp2_with fail
      refine (bytes13 b wd n _ hw _ _ k k hm _ hc1 HRD.out hbl1).mono ?_
      rintro e w2 ⟨hb2, ⟨_, g, rfl, hgn, hrd⟩ | ⟨hno, _⟩⟩
      · have HE := Lib.hid (show MulSaid p b wd n L a f w (.returned (.tuple #[.slice (some ⟨g, 0, none⟩) (k * n) (k * n), .int .i64 0])) w2 from
          ⟨g, by rw [HL.out, Nat.mul_comm], Nat.le_trans HT.out.size hgn, by rw [HL.out, Nat.mul_comm]; exact hrd b hbl1, HF'.out.of_below hb2, HT.out.trans (Turned.of_below hb2)⟩)
        clear hb2 hrd
        go_wp2_with fail
        go_ret2
        exact HE.out
      · exact absurd HIN.out hno

set_option maxRecDepth 100000 in
theorem mul_out (p b wd : Nat) (a : Int) (ha : inB (M.ord p) a = false) (v : Value) (w : World) (hfl : Fld p b wd w) :
    Calls Tryz.prog 48 #[.pointer (some ⟨b, 0, none⟩), .int .i64 a, v] w fun e w' => e = .returned (.tuple #[nilS, .int .i64 1]) ∧ w = w' := by
  have hk := hfl.1.kind
  have hc0 := hfl.c0
  have HI := Lib.hid ha
  clear ha hfl
  go_enter Tryz.func48, Tryz.ntmps48
  go_wp2_with fail
  refine (isnum31 b wd _ hk a _ hc0).mono ?_
  rintro e w' ⟨rfl, rfl⟩
  rw [HI.out]
  go_wp2_with fail
  go_ret2
  exact ⟨rfl, rfl⟩

set_option maxRecDepth 100000 in
theorem mul_odd (p b wd n : Nat) (hw : Wide wd n (M.ord p)) (a : Int) (ha : inB (M.ord p) a = true) (A : Option Addr) (L cap : Nat) (hL : L % n ≠ 0) (h63 : L ≤ 100000) (w : World) (hfl : Fld p b wd w) :
    Calls Tryz.prog 48 #[.pointer (some ⟨b, 0, none⟩), .int .i64 a, .slice A L cap] w fun e w' => e = .returned (.tuple #[nilS, .int .i64 1]) ∧ w = w' := by
  have hc0 := hfl.c0
  have HI := Lib.hid ha
  have HL := Lib.hid hL
  clear ha hfl hL
  go_enter Tryz.func48, Tryz.ntmps48
  go_wp2_with fail
  refine (isnum31 b wd _ hw.kind a _ hc0).mono ?_
  rintro e w' ⟨rfl, rfl⟩
  rw [HI.out]
  go_wp2_with fail
  refine (words_no b wd n _ hw A L cap HL.out h63 _ hc0).mono ?_
  rintro e w' ⟨rfl, rfl⟩
  go_wp2_with fail
  go_ret2
  exact ⟨rfl, rfl⟩

end Go.Proofs.YtgdgimknnjbieaaGreatDoor

namespace Go.Proofs.YtgdgimknnjbieaaGreatDoor
open Go.RowKit

theorem fmul_one {p wd : Nat} (hg : Good p wd) {x : Int} (x0 : 0 ≤ x) (x1 : x ≤ M.ord p) : fmul p 1 x = x := by
  have := hg.bounds
  rw [fmul_in (by omega) (by omega) x0 x1, show (1 : Int).toNat = 1 from rfl, M.mul_comm, M.mul_one, M.md_self hg.prim.1 (by omega)]
  omega
theorem mulB_one {p wd n : Nat} (hg : Good p wd) (hw : Wide wd n (M.ord p)) {f : Nat → Nat} (hf : ∀ j, f j < 256) (i : Nat) : mulB p n 1 f i = f i := by
  unfold mulB
  rw [← byt_word hw hf i]
  congr 1
  funext j
  rw [fmul_one hg (by omega) (by have := word_le hw hf j; omega)]
end Go.Proofs.YtgdgimknnjbieaaGreatDoor

namespace Go.Proofs.YtgdgimknnjbieaaGreatDoor
open Go.RowKit

/-- are the first n of the lengths all n0? -/
def alike (n0 : Nat) (Ls : Nat → Nat) (n : Nat) : Bool := (List.range n).all (fun j => Ls j == n0)
theorem alike_iff {n0 : Nat} {Ls : Nat → Nat} {n : Nat} : alike n0 Ls n = true ↔ ∀ j, j < n → Ls j = n0 := by simp [alike]
theorem alike_no {n0 : Nat} {Ls : Nat → Nat} {n k : Nat} (hk : k < n) (h : Ls k ≠ n0) : alike n0 Ls n = false := by
  cases e : alike n0 Ls n
  · rfl
  · exact absurd (alike_iff.1 e k hk) h

set_option maxRecDepth 100000 in
set_option maxHeartbeats 1000000 in
theorem alike32 (b : Nat) (A0 : Option Addr) (n0 c0 : Nat) (As : Nat → Option Addr) (Ls Cs : Nat → Nat) (A : Option Addr) (n c : Nat) (hn : n ≤ 100000) (w : World) (hr : Rd b w (slis As Ls Cs) A n) :
    Calls Tryz.prog 64 #[.slice A0 n0 c0, .slice A n c] w fun e w' => e = .returned (.bool (alike n0 Ls n)) ∧ w = w' := by
  have HR := Lib.hid hr
  clear hr
  obtain ⟨t, ht⟩ : ∃ t, alike n0 Ls n = t := ⟨_, rfl⟩
  rw [ht]
  have HT := Lib.hid ht
  clear ht
  go_enter Tryz.func64, Tryz.ntmps64
  go_wp2_with fail
  go_loop [9] (fun s9 => ∃ k : Nat, k ≤ n ∧ s9 = .int .i64 k ∧ Hid (∀ j, j < k → Ls j = n0)) (fun s9 => n - (intOf s9).toNat)
  case atStart => exact ⟨0, Nat.zero_le _, rfl, Lib.hid (fun j hj => absurd hj (by omega))⟩
  case round =>
    obtain ⟨k, hk, rfl, hall⟩ := hrel
    by_cases hlt : k < n
    · obtain ⟨ad, rfl, hcell⟩ := HR.out.at_ hlt
      simp only [slis] at hcell
      by_cases he : Ls k = n0
      · have hne : (((Ls k : Nat) : Int) != ((n0 : Nat) : Int)) = false := by simp [he]
        have HE := Lib.hid he
        clear he
        go_wp2_with fail
        exact ⟨⟨k + 1, hlt, by go_num, Lib.hid (fun j hj => (Nat.lt_succ_iff_lt_or_eq.1 hj).elim (fun h => hall.out j h) (fun h => h ▸ HE.out))⟩, by simp [intOf]; omega⟩
      · have hne : (((Ls k : Nat) : Int) != ((n0 : Nat) : Int)) = true := by simp; omega
        have hf := alike_no hlt he
        rw [HT.out] at hf
        clear he
        go_wp2_with fail
        go_ret
        exact ⟨rfl, rfl⟩
    · obtain rfl : k = n := by omega
      have hf := alike_iff.2 hall.out
      rw [HT.out] at hf
      go_wp2_with fail
      go_ret
      exact ⟨rfl, rfl⟩

set_option maxRecDepth 100000 in
set_option maxHeartbeats 1000000 in
/-- Clone, of any bytes -/
theorem clone41 (b : Nat) (f : Nat → Nat) (A : Option Addr) (n c : Nat) (hn : n ≤ 100000) (w : World) (hr : Rd b w (u8s f) A n) :
    Calls Tryz.prog 42 #[.slice A n c] w fun e w' => ∃ A' c', e = .returned (.slice A' n c') ∧ Own w.heap.size w' (u8s f) A' n c' ∧ Below w.heap.size w w' := by
  obtain ⟨i0, hi, hz0, hz1, hz2⟩ := info_parts infoB
  rcases A with _ | ad
  · have h0 : n = 0 := by
      rcases Nat.eq_zero_or_pos n with h | h
      · exact h
      · obtain ⟨_, e, _⟩ := hr h
        cases e
    subst h0
    clear hr
    have hnl := Lib.run_eql_slice_nil (P := Tryz.prog) w TBs TB none 0 c 0 0 Tryz.underlying35
    go_enter Tryz.func42, Tryz.ntmps42
    go_wp2_with fail
    go_ret
    exact ⟨none, 0, rfl, ⟨Nat.le_refl _, fun h => absurd h (by omega)⟩, Below.refl _ _⟩
  · have HR := Lib.hid hr
    clear hr
    go_enter Tryz.func42, Tryz.ntmps42
    have hnl := Lib.run_eql_slice_nil (P := Tryz.prog) w TBs TB (some ad) n c 0 0 Tryz.underlying35
    go_wp2_with (at_builtin; refine wpList_append_own _ rfl _ _ TBs rfl w.heap.size TB i0 (.int .u8 0) 1 1 Tryz.underlying35 hi hz0 hz1 hz2 rfl (by decide) _ 0 [] rfl (World.ownsRow_lit w #[] 0 (Nat.le_refl _) (Nat.zero_le _) rfl) ad n c ((List.range n).map (u8s f)) rfl (by simp) ?c1 ?c2 ?c3 ?c4 ?c5 ?_)
    case c1 =>
      intro j u hj
      have hjn : j < n := by
        rcases Nat.lt_or_ge j n with h | h
        · exact h
        · rw [List.getElem?_eq_none (by simpa using h)] at hj; cases hj
      rw [List.getElem?_map, List.getElem?_range hjn] at hj
      obtain ⟨ad', e, _, hlt, hc⟩ := HR.out (by omega)
      injection e with e
      subst e
      rw [World.cell?_alloc_lt w _ _ (by rw [block_of_add]; exact hlt), hc j hjn, ← hj]; rfl
    case c2 =>
      intro u hu
      obtain ⟨j, _, rfl⟩ := List.mem_map.1 hu
      rfl
    case c3 => unfold maxLen; omega
    case c4 => omega
    case c5 => simp
    intro v' w1 hown hg _
    obtain ⟨A', c', rfl, ho⟩ := Own.of_own hown
    have HE := Lib.hid (And.intro ho (((Below.refl _ w).alloc (Nat.le_refl _) _).grown hg (by simp) (fun q h => by simp [Value.ownBlock] at h; omega)))
    clear hown hg ho hnl
    go_wp2_with fail
    go_ret
    exact ⟨A', c', rfl, HE.out⟩

/-- bytes added up -/
def sumB (f : Nat → Nat) (F : Nat → Nat → Nat) : Nat → Nat → Nat
  | 0, i => f i
  | r + 1, i => sumB f F r i ^^^ F r i
theorem sumB_lt {f : Nat → Nat} {F : Nat → Nat → Nat} (hf : ∀ j, f j < 256) (hF : ∀ r j, F r j < 256) : ∀ r i, sumB f F r i < 256
  | 0, i => hf i
  | r + 1, i => Nat.xor_lt_two_pow (n := 8) (sumB_lt hf hF r i) (hF r i)

/-- in sum's loop over the rows -/
def SumAt (m n c : Nat) (A : Option Addr) (f : Nat → Nat) (F : Nat → Nat → Nat) (w : World) (s14 : Value) (wr : World) : Prop :=
  ∃ r : Nat, r ≤ m ∧ s14 = .int .i64 r ∧ Own w.heap.size wr (u8s (sumB f F r)) A n c ∧ Below w.heap.size w wr
/-- in its loop over the bytes -/
def SumIn (r n c : Nat) (A : Option Addr) (f : Nat → Nat) (F : Nat → Nat → Nat) (w : World) (s20 : Value) (wr : World) : Prop :=
  ∃ i : Nat, i ≤ n ∧ s20 = .int .i64 i ∧ Own w.heap.size wr (u8s (fun j => if j < i then sumB f F (r + 1) j else sumB f F r j)) A n c ∧ Below w.heap.size w wr

theorem sumIn_step {r n c i g : Nat} {f : Nat → Nat} {F : Nat → Nat → Nat} {w wr : World} {K : Nat → Value} (hi : i < n) (hn : n ≤ c) (hg : w.heap.size ≤ g) (hr : wr.rowIs g TB c K)
    (hK : ∀ j, j < n → K j = u8s (fun j => if j < i then sumB f F (r + 1) j else sumB f F r j) j) (hb : Below w.heap.size w wr) {v : Value} (hv : v = .int .u8 (sumB f F r i ^^^ F r i : Nat)) :
    SumIn r n c (some ⟨g, 0, none⟩) f F w (.int .i64 (i + 1 : Nat)) (wr.setCell ⟨g, i, none⟩ v) := by
  subst hv
  refine ⟨i + 1, hi, rfl, ⟨hn, fun _ => ⟨g, _, rfl, hg, hr.set i _, fun j hj => ?_⟩⟩, hb.setCell (p := ⟨g, i, none⟩) hg _⟩
  show (if j = i then _ else K j) = _
  rw [hK j hj]
  rcases Nat.lt_trichotomy j i with h | h | h
  · rw [if_neg (by omega)]; simp only [u8s]; rw [if_pos h, if_pos (by omega)]
  · subst h; rw [if_pos rfl]; simp only [u8s]; rw [if_pos (by omega)]; rfl
  · rw [if_neg (by omega)]; simp only [u8s]; rw [if_neg (by omega), if_neg (by omega)]

set_option maxRecDepth 100000 in
set_option maxHeartbeats 1000000 in
theorem sum33 (b : Nat) (f : Nat → Nat) (hf : ∀ j, f j < 256) (F : Nat → Nat → Nat) (hF : ∀ r j, F r j < 256) (A0 : Option Addr) (n c0 : Nat) (hn : n ≤ 100000) (As : Nat → Option Addr) (Ls Cs : Nat → Nat) (A : Option Addr) (m c : Nat) (hm : m ≤ 100000) (w : World) (hbw : b < w.heap.size)
    (hr0 : Rd b w (u8s f) A0 n) (hr : Rd b w (slis As Ls Cs) A m) (hrs : ∀ r, r < m → Ls r = n ∧ Rd b w (u8s (F r)) (As r) n) :
    Calls Tryz.prog 65 #[.slice A0 n c0, .slice A m c] w fun e w' => ∃ v, e = .returned v ∧ BytesTold b n (sumB f F m) w v w' := by
  have HR := Lib.hid hr
  have HRS := Lib.hid hrs
  clear hr hrs
  go_enter Tryz.func65, Tryz.ntmps65
  go_wp2_with fail
  refine (clone41 b f A0 n c0 hn _ hr0).mono ?_
  rintro e w1 ⟨A', c', rfl, ho, hb1⟩
  have HST := Lib.hid (show SumAt m n c' A' f F w (.int .i64 0) w1 from ⟨0, Nat.zero_le _, rfl, ho, hb1⟩)
  clear ho hb1 hr0
  go_wp2_with fail
  go_loopw [14] (fun s14 wr => SumAt m n c' A' f F w s14 wr) (fun s14 _ => m - (intOf s14).toNat)
  case atStart => exact HST.out
  case round =>
    clear HST
    obtain ⟨r, hrm, rfl, ho, hb⟩ := hrel
    by_cases hlt : r < m
    · obtain ⟨ad, rfl, hcell⟩ := (HR.out.below hb).at_ hlt
      obtain ⟨hl, hrr⟩ := HRS.out r hlt
      simp only [slis] at hcell
      rw [hl] at hcell
      have HRR := Lib.hid hrr
      have HO := Lib.hid ho
      have HB := Lib.hid hb
      clear hl hrr ho hb
      go_wp2_with fail
      go_loopw [20] (fun s20 wr => SumIn r n c' A' f F w s20 wr) (fun s20 _ => n - (intOf s20).toNat)
      case atStart => exact ⟨0, Nat.zero_le _, rfl, HO.out.congr (fun j _ => by simp only [u8s]; rw [if_neg (by omega)]), HB.out⟩
      case round =>
        obtain ⟨i, hin, rfl, ho', hb'⟩ := hrel
        by_cases hlt' : i < n
        · obtain ⟨ad2, hA2, hcell2⟩ := (HRR.out.below hb').at_ hlt'
          obtain ⟨g, K, rfl, hgn, hrow, hK⟩ := ho'.2 (by omega)
          have hnc := ho'.1
          have g1 := hrow.cell (i := i) (by omega)
          rw [hK i hlt'] at g1
          simp only [u8s] at g1 hcell2
          rw [if_neg (by omega)] at g1
          have f1 := hrow.frozen i
          have HS := Lib.hid (fun (v : Value) (hv : v = .int .u8 (sumB f F r i ^^^ F r i : Nat)) => sumIn_step (r := r) hlt' hnc hgn hrow hK hb' hv)
          have hx := sumB_lt hf hF r i
          have hy := hF r i
          clear ho' hb' hrow hK
          obtain ⟨x, hxx⟩ : ∃ x, sumB f F r i = x := ⟨_, rfl⟩
          obtain ⟨y, hyy⟩ : ∃ y, F r i = y := ⟨_, rfl⟩
          rw [hxx] at g1 HS hx
          rw [hyy] at hcell2 HS hy
          clear hxx hyy
          rw [hA2]
          go_wp2_with fail
          refine ⟨HS.out _ ?_, by simp [intOf]; omega⟩
          rw [u8_xor_nat x y hx hy]
        · obtain rfl : i = n := by omega
          have HE := Lib.hid (show SumAt m i c' A' f F w (.int .i64 (r + 1 : Nat)) wr from ⟨r + 1, hlt, rfl, ho'.congr (fun j hj => by simp only [u8s]; rw [if_pos hj]), hb'⟩)
          clear ho' hb'
          go_wp2_with fail
          exact ⟨HE.out, by simp [intOf]; omega⟩
    · obtain rfl : r = m := by omega
      have HE := Lib.hid (show BytesTold b n (sumB f F r) w (.slice A' n c') wr from ⟨A', c', rfl, ⟨ho.1, fun g hg => ho.rd hg⟩, ho.rd hbw, hb⟩)
      clear ho hb
      go_wp2_with fail
      go_ret
      exact ⟨_, rfl, HE.out⟩

set_option maxRecDepth 100000 in
set_option maxHeartbeats 1000000 in
theorem add_yes (b : Nat) (f g : Nat → Nat) (hf : ∀ j, f j < 256) (hg : ∀ j, g j < 256) (A B : Option Addr) (n ca cb : Nat) (hn : n ≤ 100000) (w : World) (hbw : b < w.heap.size) (ha : Rd b w (u8s f) A n) (hb : Rd b w (u8s g) B n) :
    Calls Tryz.prog 45 #[.slice A n ca, .slice B n cb] w fun e w' => ∃ v, e = .returned (.tuple #[v, .int .i64 0]) ∧ BytesTold b n (fun i => f i ^^^ g i) w v w' := by
  have HT := Lib.hid (alike_iff.2 (show ∀ j, j < 1 → (fun _ : Nat => n) j = n from fun _ _ => rfl))
  go_enter Tryz.func45, Tryz.ntmps45
  go_wp2_with fail
  refine (alike32 b A n ca (fun _ => B) (fun _ => n) (fun _ => cb) _ 1 1 (by omega) _ (rd_row hbw B n cb)).mono ?_
  rintro e w' ⟨rfl, rfl⟩
  rw [HT.out]
  have hB1 := below_alloc w (.cells #[.slice B n cb] TBs)
  obtain ⟨w1, hw1⟩ : ∃ w1, w.alloc (.cells #[.slice B n cb] TBs) = w1 := ⟨_, rfl⟩
  rw [hw1] at hB1 ⊢
  clear hw1
  have HB1 := Lib.hid hB1
  have ha1 := ha.below hB1
  have hb1 := hb.below hB1
  have hbw1 : b < w1.heap.size := Nat.lt_of_lt_of_le hbw hB1.size
  have HA := Lib.hid ha1
  have HBB := Lib.hid hb1
  clear ha hb ha1 hb1 hB1
  go_wp2_with fail
  refine (sum33 b f hf (fun _ => g) (fun _ => hg) A n ca hn (fun _ => B) (fun _ => n) (fun _ => cb) _ 1 1 (by omega) _ (by simp; omega) (HA.out.below (below_alloc _ _)) (rd_row hbw1 B n cb) (fun r _ => ⟨rfl, HBB.out.below (below_alloc _ _)⟩)).mono ?_
  rintro e w2 ⟨v, rfl, hv⟩
  have HE := Lib.hid ((hv.from (below_alloc _ _)).from HB1.out)
  clear hv
  go_wp2_with fail
  go_ret2
  exact ⟨v, rfl, HE.out⟩

set_option maxRecDepth 100000 in
set_option maxHeartbeats 1000000 in
theorem add_no (b : Nat) (A B : Option Addr) (n m ca cb : Nat) (hnm : n ≠ m) (w : World) (hbw : b < w.heap.size) :
    Calls Tryz.prog 45 #[.slice A n ca, .slice B m cb] w fun e w' => e = .returned (.tuple #[nilS, .int .i64 1]) ∧ Below w.heap.size w w' := by
  have HT := Lib.hid (alike_no (n0 := n) (Ls := fun _ => m) (n := 1) (k := 0) (by omega) (Ne.symm hnm))
  go_enter Tryz.func45, Tryz.ntmps45
  go_wp2_with fail
  refine (alike32 b A n ca (fun _ => B) (fun _ => m) (fun _ => cb) _ 1 1 (by omega) _ (rd_row hbw B m cb)).mono ?_
  rintro e w' ⟨rfl, rfl⟩
  rw [HT.out]
  go_wp2_with fail
  go_ret2
  exact ⟨rfl, below_alloc _ _⟩
end Go.Proofs.YtgdgimknnjbieaaGreatDoor

namespace Go.Proofs.YtgdgimknnjbieaaGreatDoor
open Go.RowKit

end Go.Proofs.YtgdgimknnjbieaaGreatDoor

namespace Go.Proofs.YtgdgimknnjbieaaGreatDoor
open Go.RowKit

/-- in Words' loop -/
def RWordsAt (n L : Nat) (f : Nat → Nat) (w : World) (s6 s8 : Value) (wr : World) : Prop :=
  ∃ k : Nat, n * k ≤ L ∧ s8 = .int .i64 (n * k : Nat) ∧ App w TI (i64s (fun j => word n f j)) k s6 wr

set_option maxRecDepth 100000 in
set_option maxHeartbeats 1000000 in
theorem rwords1 (b : Nat) (f : Nat → Nat) (hf : ∀ j, f j < 256) (A : Option Addr) (L c : Nat) (hL : L ≤ 100000) (w : World) (hbw : b < w.heap.size) (hr : Rd b w (u8s f) A L) :
    Calls Tryz.prog 87 #[.int .i64 8, .slice A L c] w fun e w' => ∃ v, e = .returned (.tuple #[v, .bool true]) ∧ IntsTold b L (fun j => word 1 f j) w v w' := by
  obtain ⟨i0, hi, hz0, hz1, hz2⟩ := info_parts infoI
  have HR := Lib.hid hr
  clear hr
  go_enter Tryz.func87, Tryz.ntmps87
  go_wp2_with fail
  go_loopw [6, 8] (fun s6 s8 wr => RWordsAt 1 L f w s6 s8 wr) (fun _ s8 _ => L - (intOf s8).toNat)
  case atStart => exact ⟨0, Nat.zero_le _, rfl, App.start _ _ _⟩
  case round =>
    obtain ⟨k, hk, rfl, happ⟩ := hrel
    rw [Nat.one_mul] at hk ⊢
    by_cases hlt : k < L
    · obtain ⟨ad, rfl, hcell⟩ := (HR.out.below happ.2).at_ hlt
      have HA := Lib.hid happ
      have hsz := happ.2.size
      have hx := hf k
      have HX := Lib.hid (show word 1 f k = f k by simp [word])
      clear happ
      simp only [u8s] at hcell
      obtain ⟨x, hfx⟩ : ∃ x, f k = x := ⟨_, rfl⟩
      rw [hfx] at hcell hx HX
      clear hfx
      go_wp2_with (at_builtin; refine wpList_append_own _ rfl _ _ TIs rfl w.heap.size TI i0 (.int .i64 0) 1 8 Tryz.underlying53 hi hz0 hz1 hz2 rfl (by decide) _ _ _ rfl (HA.out.1.alloc _) ⟨wr.heap.size, 0, none⟩ 1 1 [.int .i64 (word 1 f k : Nat)] rfl rfl ?c1 (one_i64 _) ?c3 ?c4 ?c5 ?_)
      case c1 => exact news_one (by rw [HX.out])
      case c3 => unfold maxLen; omega
      case c4 => omega
      case c5 => simp; omega
      intro v' w1 hown' hgrow _
      have HS := Lib.hid (HA.out.step hown' hgrow)
      clear hown' hgrow HA
      go_wp2_with fail
      exact ⟨⟨k + 1, by omega, by rw [Nat.one_mul]; go_num, HS.out⟩, by simp [intOf]; omega⟩
    · obtain rfl : k = L := by omega
      have HD := Lib.hid (IntsTold.of happ.drew hbw)
      clear happ
      go_wp2_with fail
      go_region
      all_goals
        go_wp2_with fail
        go_ret2
        exact ⟨_, rfl, HD.out⟩

set_option maxRecDepth 100000 in
set_option maxHeartbeats 1000000 in
theorem rwords2 (b : Nat) (f : Nat → Nat) (hf : ∀ j, f j < 256) (A : Option Addr) (L c : Nat) (hL : L ≤ 100000) (w : World) (hbw : b < w.heap.size) (hr : Rd b w (u8s f) A L) :
    Calls Tryz.prog 87 #[.int .i64 16, .slice A L c] w fun e w' => ∃ v, e = .returned (.tuple #[v, .bool (decide (L % 2 = 0))]) ∧ IntsTold b (L / 2) (fun j => word 2 f j) w v w' := by
  obtain ⟨i0, hi, hz0, hz1, hz2⟩ := info_parts infoI
  have HR := Lib.hid hr
  clear hr
  have HD : decide (L % 2 = 0) = ((L : Int) % 2 == 0) := by apply Bool.eq_iff_iff.2; simp; omega
  rw [HD]
  clear HD
  go_enter Tryz.func87, Tryz.ntmps87
  go_wp2_with fail
  go_loopw [6, 8] (fun s6 s8 wr => RWordsAt 2 L f w s6 s8 wr) (fun _ s8 _ => L - (intOf s8).toNat)
  case atStart => exact ⟨0, Nat.zero_le _, rfl, App.start _ _ _⟩
  case round =>
    obtain ⟨k, hk, rfl, happ⟩ := hrel
    obtain ⟨i, hik⟩ : ∃ i, 2 * k = i := ⟨_, rfl⟩
    rw [hik] at hk ⊢
    have HIK := Lib.hid hik
    by_cases hlt : i + 1 < L
    · obtain ⟨ad, hA, hcell⟩ := (HR.out.below happ.2).at_ (show i < L by omega)
      obtain ⟨ad', hA', hcell2⟩ := (HR.out.below happ.2).at_ hlt
      rw [hA] at hA'
      injection hA' with hA'
      subst hA' hA
      have HA := Lib.hid happ
      have hsz := happ.2.size
      have hx := hf i
      have hy := hf (i + 1)
      have HX := Lib.hid (show word 2 f k = f i + 256 * f (i + 1) by simp [word, hik])
      clear happ
      simp only [u8s] at hcell hcell2
      rw [show ad.add (i + 1) = ⟨ad.block, ad.off + (i + 1), none⟩ by unfold Addr.add; simp] at hcell2
      obtain ⟨x, hfx⟩ : ∃ x, f i = x := ⟨_, rfl⟩
      obtain ⟨y, hfy⟩ : ∃ y, f (i + 1) = y := ⟨_, rfl⟩
      rw [hfx] at hcell hx HX
      rw [hfy] at hcell2 hy HX
      have hk2 : k ≤ 100000 := by omega
      clear hfx hfy hik
      go_wp2_with (at_builtin; refine wpList_append_own _ rfl _ _ TIs rfl w.heap.size TI i0 (.int .i64 0) 1 8 Tryz.underlying53 hi hz0 hz1 hz2 rfl (by decide) _ _ _ rfl (HA.out.1.alloc _) ⟨wr.heap.size, 0, none⟩ 1 1 [.int .i64 (word 2 f k : Nat)] rfl rfl ?c1 (one_i64 _) ?c3 ?c4 ?c5 ?_)
      case c1 => exact news_one (by rw [HX.out]; go_num)
      case c3 => unfold maxLen; omega
      case c4 => omega
      case c5 => simp; omega
      intro v' w1 hown' hgrow _
      have HS := Lib.hid (HA.out.step hown' hgrow)
      clear hown' hgrow HA
      go_wp2_with fail
      have hik := HIK.out
      exact ⟨⟨k + 1, by omega, by rw [Nat.mul_add, hik]; go_num, HS.out⟩, by simp [intOf]; omega⟩
    · obtain rfl : k = L / 2 := by omega
      have HD := Lib.hid (IntsTold.of happ.drew hbw)
      clear happ hik
      go_wp2_with fail
      go_region
      all_goals
        go_wp2_with fail
        go_ret2
        exact ⟨_, rfl, HD.out⟩

/-- Words, of any bytes -/
theorem rwords12 (b wd n c : Nat) (hw : Wide wd n c) (f : Nat → Nat) (hf : ∀ j, f j < 256) (A : Option Addr) (L cap : Nat) (hL : L ≤ 100000) (w : World) (hbw : b < w.heap.size) (hr : Rd b w (u8s f) A L) :
    Calls Tryz.prog 87 #[.int .i64 wd, .slice A L cap] w fun e w' => ∃ v, e = .returned (.tuple #[v, .bool (decide (L % n = 0))]) ∧ IntsTold b (L / n) (fun j => word n f j) w v w' := by
  rcases hw with ⟨rfl, rfl, rfl⟩ | ⟨rfl, rfl, rfl⟩
  · rw [Nat.div_one, show decide (L % 1 = 0) = true by simp [Nat.mod_one]]
    exact rwords1 b f hf A L cap hL w hbw hr
  · exact rwords2 b f hf A L cap hL w hbw hr

/-- in Bytes' loop -/
def RBytesAt (n c m : Nat) (l : Nat → Int) (w : World) (s6 s7 : Value) (wr : World) : Prop :=
  ∃ k : Nat, k ≤ m ∧ s7 = .int .i64 k ∧ allIn c l k ∧ App w TB (u8s (byt n l)) (k * n) s6 wr
/-- what Bytes tells -/
def RBytesSaid (b n m c : Nat) (l : Nat → Int) (w : World) (e : Ending) (w' : World) : Prop :=
  (allIn c l m ∧ ∃ v, e = .returned (.tuple #[v, .bool true]) ∧ BytesTold b (m * n) (byt n l) w v w') ∨ (¬ allIn c l m ∧ e = .returned (.tuple #[nilS, .bool false]) ∧ Below w.heap.size w w')

set_option maxRecDepth 100000 in
set_option maxHeartbeats 2000000 in
theorem rbytes14 (b wd n c : Nat) (hw : Wide wd n c) (l : Nat → Int) (A : Option Addr) (m cap : Nat) (hm : m ≤ 100000) (w : World) (hbw : b < w.heap.size) (hr : Rd b w (i64s l) A m) :
    Calls Tryz.prog 90 #[.int .i64 wd, .slice A m cap] w (RBytesSaid b n m c l w) := by
  obtain ⟨i0, hi, hz0, hz1, hz2⟩ := info_parts infoB
  have hwb := hw.bounds
  have hk' := hw.kind
  have HR := Lib.hid hr
  clear hr
  go_enter Tryz.func90, Tryz.ntmps90
  go_wp2_with fail
  go_loopw [6, 7] (fun s6 s7 wr => RBytesAt n c m l w s6 s7 wr) (fun _ s7 _ => m - (intOf s7).toNat)
  case atStart => exact ⟨0, Nat.zero_le _, rfl, fun j hj => absurd hj (by omega), by rw [Nat.zero_mul]; exact App.start _ _ _⟩
  case round =>
    obtain ⟨k, hk, rfl, hall, happ⟩ := hrel
    by_cases hlt : k < m
    · obtain ⟨ad, rfl, hcell⟩ := (HR.out.below happ.2).at_ hlt
      simp only [i64s] at hcell
      obtain ⟨x, hx⟩ : ∃ x, l k = x := ⟨_, rfl⟩
      rw [hx] at hcell
      have HX := Lib.hid hx
      have HALL := Lib.hid hall
      have HA := Lib.hid happ
      have hsz := happ.2.size
      clear hall
      by_cases hin : 0 ≤ x ∧ x ≤ c
      · have HI := Lib.hid (inB_iff.2 hin)
        have h0 := hin.1
        have h1 : x ≤ 65535 := by omega
        have hkn : k * n ≤ 200000 := by
          have : k * n ≤ 100000 * 2 := Nat.mul_le_mul (by omega) hwb.2.1
          omega
        have HB0 := Lib.hid (byt_at hw l k 0 (by omega) (by rw [hx]; exact h0) (by rw [hx]; exact hin.2))
        have HNX := Lib.hid (show allIn c l (k + 1) from fun j hj => (Nat.lt_succ_iff_lt_or_eq.1 hj).elim (fun h => HALL.out j h) (fun h => by rw [h, hx]; exact hin))
        have HB1 := Lib.hid (fun hn : 1 < n => byt_at hw l k 1 hn (by rw [hx]; exact h0) (by rw [hx]; exact hin.2))
        rw [hx] at HB0 HB1
        clear hin hx happ
        have hs8 : x % 256 ≤ 255 := by omega
        have hs9 : 0 ≤ x % 256 := by omega
        have hkn1 : (k * n : Nat) ≤ 200000 := hkn
        have HR' := Lib.hid (fun (w1 : World) (v1 : Value) (h : App w TB (u8s (byt n l)) (k * n + 1) v1 w1) => ((HR.out.below h.2).at_ hlt))
        rcases hw with ⟨hwd, rfl, rfl⟩ | ⟨hwd, rfl, rfl⟩
        · have h16 : ((wd : Int) == 16) = false := by simp [hwd]
          clear hwd
          rw [Nat.mul_one] at HA HB0 hkn HR'
          go_wp2_with (first
            | (go_at_call 88; refine (rin32 wd _ hk' x _).mono ?_; rintro e w' ⟨rfl, rfl⟩; rw [HI.out])
            | (at_builtin; refine wpList_append_own _ rfl (.tmp 21) (.tmp 28) TBs rfl w.heap.size TB i0 (.int .u8 0) 1 1 Tryz.underlying35 hi hz0 hz1 hz2 rfl (by decide) _ _ _ rfl (HA.out.1.alloc _) ⟨wr.heap.size, 0, none⟩ 1 1 [.int .u8 (byt 1 l k : Nat)] rfl rfl (news_one (by rw [show byt 1 l k = byt 1 l (k + 0) from rfl, HB0.out]; simp)) (one_u8 _) (by unfold maxLen; omega) (by omega) (by simp; omega) ?_))
          intro v1 w1 hown1 hg1 _
          have HA1 := Lib.hid (HA.out.step hown1 hg1)
          clear hown1 hg1
          go_wp2_with fail
          exact ⟨⟨k + 1, hlt, by go_num, HNX.out, by rw [Nat.mul_one]; exact HA1.out⟩, by simp [intOf]; omega⟩
        · have h16 : ((wd : Int) == 16) = true := by simp [hwd]
          clear hwd
          go_wp2_with (first
            | (go_at_call 88; refine (rin32 wd _ hk' x _).mono ?_; rintro e w' ⟨rfl, rfl⟩; rw [HI.out])
            | (at_builtin; refine wpList_append_own _ rfl (.tmp 21) (.tmp 28) TBs rfl w.heap.size TB i0 (.int .u8 0) 1 1 Tryz.underlying35 hi hz0 hz1 hz2 rfl (by decide) _ _ _ rfl (HA.out.1.alloc _) ⟨wr.heap.size, 0, none⟩ 1 1 [.int .u8 (byt 2 l (k * 2) : Nat)] rfl rfl (news_one (by rw [show byt 2 l (k * 2) = byt 2 l (k * 2 + 0) from rfl, HB0.out]; simp)) (one_u8 _) (by unfold maxLen; omega) (by omega) (by simp; omega) ?_; intro v1 w1 hown1 hg1 _; have HA1 := Lib.hid (HA.out.step hown1 hg1); obtain ⟨ad1, e1, hcell1⟩ := HR'.out w1 v1 HA1.out; injection e1 with e1; subst e1; simp only [i64s] at hcell1; rw [HX.out] at hcell1; have hsz1 := HA1.out.2.size; clear hown1 hg1)
            | (at_builtin; refine wpList_append_own _ rfl (.tmp 32) (.tmp 39) TBs rfl w.heap.size TB i0 (.int .u8 0) 1 1 Tryz.underlying35 hi hz0 hz1 hz2 rfl (by decide) _ _ _ rfl (HA1.out.1.alloc _) ⟨w1.heap.size, 0, none⟩ 1 1 [.int .u8 (byt 2 l (k * 2 + 1) : Nat)] rfl rfl (news_one (by rw [HB1.out (by omega), show (2 : Int) ^ (8 * 1) = 256 by decide]; congr 1; omega)) (one_u8 _) (by unfold maxLen; omega) (by omega) (by simp; omega) ?_))
          intro v2 w2 hown2 hg2 _
          have HA2 := Lib.hid (HA1.out.step (by rw [range_snoc, List.append_assoc]; exact hown2) hg2)
          clear hown2 hg2
          go_wp2_with fail
          exact ⟨⟨k + 1, hlt, by go_num, HNX.out, by rw [Nat.add_mul]; exact HA2.out⟩, by simp [intOf]; omega⟩
      · have HI := Lib.hid (inB_false.2 hin)
        have HE := Lib.hid (show RBytesSaid b n m c l w (.returned (.tuple #[nilS, .bool false])) wr from Or.inr ⟨fun h => hin (hx ▸ h k hlt), rfl, happ.2⟩)
        clear hin hx happ
        go_wp2_with (go_at_call 88; refine (rin32 wd _ hk' x _).mono ?_; rintro e w' ⟨rfl, rfl⟩; rw [HI.out])
        go_ret2
        exact HE.out
    · obtain rfl : k = m := by omega
      have HE := Lib.hid (show RBytesSaid b n k c l w (.returned (.tuple #[_, .bool true])) wr from Or.inl ⟨hall, _, rfl, BytesTold.of happ hbw⟩)
      clear happ hall
      go_wp2_with fail
      go_ret2
      exact HE.out
end Go.Proofs.YtgdgimknnjbieaaGreatDoor

namespace Go.Proofs.YtgdgimknnjbieaaGreatDoor
open Go.RowKit

def RBytesAny (b n m c : Nat) (l : Nat → Int) (w : World) (e : Ending) (w' : World) : Prop :=
  ∃ t v, e = .returned (.tuple #[v, .bool t]) ∧ (t = true ↔ allIn c l m) ∧ BytesTold b (cond t (m * n) 0) (byt n l) w v w'

theorem rbytes_any (b wd n c : Nat) (hw : Wide wd n c) (l : Nat → Int) (A : Option Addr) (m cap : Nat) (hm : m ≤ 100000) (w : World) (hbw : b < w.heap.size) (hr : Rd b w (i64s l) A m) :
    Calls Tryz.prog 90 #[.int .i64 wd, .slice A m cap] w (RBytesAny b n m c l w) := by
  refine (rbytes14 b wd n c hw l A m cap hm w hbw hr).mono ?_
  rintro e w' (⟨hall, v, rfl, hv⟩ | ⟨hno, rfl, hb⟩)
  · exact ⟨true, _, rfl, by simp [hall], hv⟩
  · exact ⟨false, _, rfl, by simp [hno], bytesTold_nil hb⟩

end Go.Proofs.YtgdgimknnjbieaaGreatDoor

namespace Go.Proofs.YtgdgimknnjbieaaGreatDoor

theorem mulB_lt (p n : Nat) (a : Int) (f : Nat → Nat) (i : Nat) : mulB p n a f i < 256 := byt_lt _ _ _

/-- a product of a sum is the sum of the products -/
theorem fmul_xor {p wd : Nat} (hg : Good p wd) {a : Int} (a0 : 0 ≤ a) (a1 : a ≤ M.ord p) {x y : Nat} (hx : x ≤ M.ord p) (hy : y ≤ M.ord p) : fmul p a ((x ^^^ y : Nat) : Int) = ((fmul p a x).toNat ^^^ (fmul p a y).toNat : Nat) := by
  have hxy := M.xor_le hg.prim.1 hx hy
  rw [fmul_in a0 a1 (by omega) (by omega), fmul_in a0 a1 (by omega) (by omega), fmul_in a0 a1 (by omega) (by omega)]
  simp only [Int.toNat_natCast]
  rw [M.mul_lin a.toNat x y]
  congr 1
  exact M.md_lin p _ _
theorem xor_mod8 (x y : Nat) : (x ^^^ y) % 256 = (x % 256) ^^^ (y % 256) := Nat.xor_mod_two_pow (n := 8)
theorem xor_div8 (x y : Nat) : (x ^^^ y) / 256 = (x / 256) ^^^ (y / 256) := Nat.xor_div_two_pow (n := 8)
theorem byt_xor {n : Nat} (u v : Nat → Nat) (i : Nat) : byt n (fun j => ((u j ^^^ v j : Nat) : Int)) i = byt n (fun j => (u j : Int)) i ^^^ byt n (fun j => (v j : Int)) i := by
  unfold byt
  simp only [Int.toNat_natCast]
  split
  · exact xor_mod8 _ _
  · split
    · exact xor_mod8 _ _
    · rw [xor_div8, xor_mod8]
theorem word_xor {wd n c : Nat} (hw : Wide wd n c) {f g : Nat → Nat} (hf : ∀ j, f j < 256) (hg : ∀ j, g j < 256) (j : Nat) : word n (fun i => f i ^^^ g i) j = word n f j ^^^ word n g j := by
  rcases hw with ⟨rfl, rfl, rfl⟩ | ⟨rfl, rfl, rfl⟩
  · simp [word]
  · have h1 := hf (2 * j)
    have h2 := hg (2 * j)
    have hz : f (2 * j) ^^^ g (2 * j) < 2 ^ 8 := Nat.xor_lt_two_pow (by omega) (by omega)
    simp only [word]
    have e : ∀ a b : Nat, a < 256 → a + 256 * b = b <<< 8 ^^^ a := fun a b ha => by
      rw [Nat.shiftLeft_eq]
      have hm := xor_mod8 (b * 256) a
      have hd := xor_div8 (b * 256) a
      rw [Nat.mul_mod_left, Nat.mod_eq_of_lt ha, Nat.zero_xor] at hm
      rw [Nat.mul_div_cancel _ (by omega), Nat.div_eq_of_lt ha, Nat.xor_zero] at hd
      have := Nat.div_add_mod (b * 256 ^^^ a) 256
      rw [hm, hd] at this
      show a + 256 * b = b * 256 ^^^ a
      omega
    simp
    rw [e _ _ (by omega), e _ _ h1, e _ _ h2, Nat.shiftLeft_xor_distrib]
    ac_rfl
theorem mulB_xor {p wd n : Nat} (hg : Good p wd) (hw : Wide wd n (M.ord p)) {a : Int} (a0 : 0 ≤ a) (a1 : a ≤ M.ord p) {f g : Nat → Nat} (hf : ∀ j, f j < 256) (hg' : ∀ j, g j < 256) (i : Nat) :
    mulB p n a (fun j => f j ^^^ g j) i = mulB p n a f i ^^^ mulB p n a g i := by
  unfold mulB
  have e : ∀ h : Nat → Nat, (fun j => fmul p a (word n h j)) = fun j => (((fmul p a (word n h j)).toNat : Nat) : Int) := fun h => funext (fun j => by have := (fmul_le hg a (word n h j)).1; omega)
  rw [e f, e g, ← byt_xor]
  congr 1
  funext j
  rw [word_xor hw hf hg', fmul_xor hg a0 a1 (word_le hw hf j) (word_le hw hg' j)]
end Go.Proofs.YtgdgimknnjbieaaGreatDoor

namespace Go.Proofs.YtgdgimknnjbieaaGreatDoor
open Go.RowKit

theorem sizeS (w : World) : (sizeOf TBs).run Tryz.prog w = .ok 1 w := by
  obtain ⟨i0, hi, _, hz1, _⟩ := info_parts infoS
  simp [sizeOf, typeInfo, hi, hz1]
theorem elemS : Tryz.prog.elem TRs = TBs := by kernel_rfl

theorem run_fromS (a : Option Addr) (len cap k : Nat) (hk : k ≤ len) (w : World) : (Instr.slice TRs (.slice a len cap) (some (.int .i64 k)) none none).run Tryz.prog w = .ok (.slice (if cap = k then a else a.map (·.add k)) (len - k) (cap - k)) w := by
  have hu : Tryz.prog.underlying TRs = some (.slice (Tryz.prog.elem TRs)) := by rw [elemS]; exact Tryz.underlying24
  rw [run_slice_l w TRs a len cap hu .i64 k (by omega) (by omega), elemS, sizeS]
  simp [Result.andThen, sliced]
theorem run_atS (a : Option Addr) (len cap k : Nat) (hk : k ≤ len) (w : World) : (Instr.sliceAt TRs (.slice a len cap) (some (.int .i64 k)) none none).run Tryz.prog w = .ok (.slice (if cap = k then a else a.map (·.add k)) (len - k) (cap - k)) w := by
  have hu : Tryz.prog.underlying TRs = some (.slice (Tryz.prog.elem TRs)) := by rw [elemS]; exact Tryz.underlying24
  rw [run_sliceAt_slice w TRs _ _ _ _ hu, run_fromS a len cap k hk]
theorem run_tailS (a : Option Addr) (len cap : Nat) (hk : 1 ≤ len) (w : World) : (Instr.slice TRs (.slice a len cap) (some (.int .i64 1)) none none).run Tryz.prog w = .ok (.slice (if cap = 1 then a else a.map (·.add 1)) (len - 1) (cap - 1)) w := run_fromS a len cap 1 hk w
theorem run_tailAtS (a : Option Addr) (len cap : Nat) (hk : 1 ≤ len) (w : World) : (Instr.sliceAt TRs (.slice a len cap) (some (.int .i64 1)) none none).run Tryz.prog w = .ok (.slice (if cap = 1 then a else a.map (·.add 1)) (len - 1) (cap - 1)) w := run_atS a len cap 1 hk w
end Go.Proofs.YtgdgimknnjbieaaGreatDoor

namespace Go.Proofs.YtgdgimknnjbieaaGreatDoor
open Go.RowKit

/-- may these be a sum? -/
def DotOk (p n N N' : Nat) (cs : Nat → Int) (Ls : Nat → Nat) : Prop := N = N' ∧ 0 < N ∧ ∀ r, r < N → inB (M.ord p) (cs r) = true ∧ Ls r % n = 0 ∧ Ls r = Ls 0
/-- the sum -/
def dotB (p n : Nat) (cs : Nat → Int) (F : Nat → Nat → Nat) (N : Nat) : Nat → Nat := sumB (mulB p n (cs 0) (F 0)) (fun r => mulB p n (cs (1 + r)) (F (1 + r))) (N - 1)


set_option maxRecDepth 100000 in
theorem dot_unlike (fv : Value) (Ac Ar : Option Addr) (N N' cc cr : Nat) (hne : N ≠ N') (w : World) :
    Calls Tryz.prog 29 #[fv, .slice Ac N cc, .slice Ar N' cr] w fun e w' => e = .returned (.tuple #[nilS, .int .i64 1]) ∧ Below w.heap.size w w' := by
  have h1 : (((N : Nat) : Int) != ((N' : Nat) : Int)) = true := by simp; omega
  go_enter Tryz.func29, Tryz.ntmps29
  go_wp2_with fail
  go_quiet (fail)
  go_wp2_with fail
  go_ret2
  exact ⟨rfl, below_drewN' _ _⟩

set_option maxRecDepth 100000 in
theorem dot_none (fv : Value) (Ac Ar : Option Addr) (cc cr : Nat) (w : World) :
    Calls Tryz.prog 29 #[fv, .slice Ac 0 cc, .slice Ar 0 cr] w fun e w' => e = .returned (.tuple #[nilS, .int .i64 1]) ∧ Below w.heap.size w w' := by
  go_enter Tryz.func29, Tryz.ntmps29
  go_wp2_with fail
  go_quiet (fail)
  go_wp2_with fail
  go_ret2
  exact ⟨rfl, below_drewN' _ _⟩

set_option maxRecDepth 100000 in
set_option maxHeartbeats 4000000 in
theorem dot_odd (b : Nat) (fv : Value) (Ac : Option Addr) (N cc cr : Nat) (hN : 0 < N) (hN1 : N ≤ 1000) (As : Nat → Option Addr) (Ls Cs : Nat → Nat) (Ar : Option Addr) (w : World) (hr : Rd b w (slis As Ls Cs) Ar N) (hcr : N ≤ cr) (hno : alike (Ls 0) (fun j => Ls (1 + j)) (N - 1) = false) :
    Calls Tryz.prog 29 #[fv, .slice Ac N cc, .slice Ar N cr] w fun e w' => e = .returned (.tuple #[nilS, .int .i64 1]) ∧ Below w.heap.size w w' := by
  have h1 : (((N : Nat) : Int) != ((N : Nat) : Int)) = false := by simp
  have h2 : (((N : Nat) : Int) == 0) = false := by simp; omega
  obtain ⟨ad, rfl, hcell⟩ := hr.at_ hN
  have hcell0 : w.cell? ad = some (.slice (As 0) (Ls 0) (Cs 0)) := by simpa [Addr.add] using hcell
  have hs1 := run_tailAtS (some ad) N cr (by omega)
  have hs2 := run_tailS (some ad) N cr (by omega)
  have hcut := hr.cut (i := 1) hN hcr
  obtain ⟨A1, hA1⟩ : ∃ A1, (if cr = 1 then some ad else (some ad).map (·.add 1)) = A1 := ⟨_, rfl⟩
  rw [hA1] at hs1 hs2 hcut
  clear hA1
  have HC := Lib.hid hcut
  have HNO := Lib.hid hno
  clear hcut hr hno hcell
  go_enter Tryz.func29, Tryz.ntmps29
  go_wp2_with fail
  go_region_held3 (fun w' => w'.cell? ad = some (.slice (As 0) (Ls 0) (Cs 0)))
    (first | exact hcell0 | assumption)
    ((go_at_call 64; refine (alike32 b (As 0) (Ls 0) (Cs 0) (fun j => As (1 + j)) (fun j => Ls (1 + j)) (fun j => Cs (1 + j)) A1 (N - 1) (cr - 1) (by omega) w.drew HC.out.drew).mono ?_; rintro e w' ⟨rfl, rfl⟩; rw [HNO.out]))
  go_wp2_with fail
  go_ret2
  exact ⟨rfl, (Below.refl _ _).drew⟩

theorem Rd.setOther {b n G i : Nat} {w : World} {k : Nat → Value} {g : Nat} (h : Rd b w k (some ⟨g, 0, none⟩) n) (hg : g ≠ G) (v : Value) : Rd b (w.setCell ⟨G, i, none⟩ v) k (some ⟨g, 0, none⟩) n := fun hn => by
  obtain ⟨ad, e, h1, h2, hc⟩ := h hn
  injection e with e
  subst e
  refine ⟨_, rfl, h1, by simpa [World.setCell] using h2, fun j hj => ?_⟩
  rw [World.cell?_setCell_other]
  · exact hc j hj
  · intro he
    have := congrArg Addr.block he
    rw [block_of_add] at this
    exact hg this.symm

/-- the products, as they lie -/
def prodCells (k L : Nat) (g : Nat → Nat) (j : Nat) : Value := if j < k then .slice (some ⟨g j, 0, none⟩) L L else nilS
/-- in Dot's loop -/
def RegDotAt (p b wd n N L : Nat) (cs : Nat → Int) (F : Nat → Nat → Nat) (w : World) (s37 : Value) (wr : World) : Prop :=
  ∃ (k : Nat) (g : Nat → Nat), k ≤ N ∧ s37 = .int .i64 k ∧ (∀ j, j < k → inB (M.ord p) (cs j) = true ∧ L % n = 0) ∧ wr.rowIs w.heap.size TBs N (prodCells k L g) ∧
    (∀ j, j < k → g j ≠ w.heap.size ∧ Rd b wr (u8s (mulB p n (cs j) (F j))) (some ⟨g j, 0, none⟩) L) ∧ Fld p b wd wr ∧ Turned b w wr
/-- what Dot tells of rows that are all as long -/
def DotGo (p b wd n N L : Nat) (cs : Nat → Int) (F : Nat → Nat → Nat) (w : World) (e : Ending) (w' : World) : Prop :=
  Fld p b wd w' ∧ Turned b w w' ∧ (((∀ j, j < N → inB (M.ord p) (cs j) = true ∧ L % n = 0) ∧ ∃ A c, e = .returned (.tuple #[.slice A L c, .int .i64 0]) ∧ L ≤ c ∧ (∀ g, g < w.heap.size → Rd g w' (u8s (dotB p n cs F N)) A L) ∧ Rd b w' (u8s (dotB p n cs F N)) A L) ∨
    (¬ (∀ j, j < N → inB (M.ord p) (cs j) = true ∧ L % n = 0) ∧ e = .returned (.tuple #[nilS, .int .i64 1])))

theorem dotAt_step {p b wd n N L k gk : Nat} {cs : Nat → Int} {F : Nat → Nat → Nat} {g : Nat → Nat} {w wr w2 : World} (hk : k < N) (hb : b < w.heap.size) (hin : inB (M.ord p) (cs k) = true ∧ L % n = 0) (hall : ∀ j, j < k → inB (M.ord p) (cs j) = true ∧ L % n = 0)
    (hrow : wr.rowIs w.heap.size TBs N (prodCells k L g)) (hrd : ∀ j, j < k → g j ≠ w.heap.size ∧ Rd b wr (u8s (mulB p n (cs j) (F j))) (some ⟨g j, 0, none⟩) L) (ht : Turned b w wr)
    (hf2 : Fld p b wd w2) (ht2 : Turned b wr w2) (hgk : wr.heap.size ≤ gk) (hrk : Rd b w2 (u8s (mulB p n (cs k) (F k))) (some ⟨gk, 0, none⟩) L) {v : Value} (hv : v = .slice (some ⟨gk, 0, none⟩) L L) :
    RegDotAt p b wd n N L cs F w (.int .i64 (k + 1 : Nat)) (w2.setCell ⟨w.heap.size, k, none⟩ v) := by
  subst hv
  have hlt := hrow.lt
  have hrow2 := ht2.row hrow (show w.heap.size ≠ b by omega)
  obtain ⟨g', hg1, hg2⟩ : ∃ g' : Nat → Nat, (∀ j, j ≠ k → g' j = g j) ∧ g' k = gk := ⟨fun j => if j = k then gk else g j, fun j hj => if_neg hj, if_pos rfl⟩
  refine ⟨k + 1, g', hk, rfl, fun j hj => (Nat.lt_succ_iff_lt_or_eq.1 hj).elim (hall j) (fun h => h ▸ hin), (hrow2.set k _).congr (fun j _ => ?_), fun j hj => ?_, hf2.setInt hrow2 (by decide) (by decide) _, (ht.trans ht2).setNew (Nat.le_refl _) _⟩
  · unfold prodCells
    rcases Nat.lt_trichotomy j k with h | h | h
    · rw [if_neg (by omega), if_pos h, if_pos (by omega), hg1 j (by omega)]
    · rw [if_pos h, if_pos (by omega), h, hg2]
    · rw [if_neg (by omega), if_neg (by omega), if_neg (by omega)]
  · by_cases h : j = k
    · subst h
      rw [hg2]
      exact ⟨by omega, hrk.setOther (by omega) _⟩
    · rw [hg1 j h]
      have := hrd j (by omega)
      exact ⟨this.1, (this.2.turned ht2).setOther this.1 _⟩

set_option maxRecDepth 100000 in
set_option maxHeartbeats 4000000 in
theorem dot_go (p b wd n : Nat) (hw : Wide wd n (M.ord p)) (cs : Nat → Int) (F : Nat → Nat → Nat) (hF : ∀ r j, F r j < 256) (Ac : Option Addr) (N cc cr : Nat) (hN : 0 < N) (hN1 : N ≤ 1000) (As : Nat → Option Addr) (Ls Cs : Nat → Nat) (Ar : Option Addr) (L : Nat) (hL : L ≤ 1000) (w : World) (hfl : Fld p b wd w)
    (hc : Rd b w (i64s cs) Ac N) (hr : Rd b w (slis As Ls Cs) Ar N) (hcr : N ≤ cr) (hall : ∀ r, r < N → Ls r = L) (hrs : ∀ r, r < N → Rd b w (u8s (F r)) (As r) L) :
    Calls Tryz.prog 29 #[.pointer (some ⟨b, 0, none⟩), .slice Ac N cc, .slice Ar N cr] w (DotGo p b wd n N L cs F w) := by
  have h1 : (((N : Nat) : Int) != ((N : Nat) : Int)) = false := by simp
  have h2 : (((N : Nat) : Int) == 0) = false := by simp; omega
  have hbl := hfl.lt
  obtain ⟨ad, rfl, hcell⟩ := hr.at_ hN
  have hcell0 : w.cell? ad = some (.slice (As 0) (Ls 0) (Cs 0)) := by simpa [Addr.add] using hcell
  have hs1 := run_tailAtS (some ad) N cr (by omega)
  have hs2 := run_tailS (some ad) N cr (by omega)
  have hcut := hr.cut (i := 1) hN hcr
  obtain ⟨A1, hA1⟩ : ∃ A1, (if cr = 1 then some ad else (some ad).map (·.add 1)) = A1 := ⟨_, rfl⟩
  rw [hA1] at hs1 hs2 hcut
  clear hA1
  have HC := Lib.hid hcut
  have HYES := Lib.hid (show alike (Ls 0) (fun j => Ls (1 + j)) (N - 1) = true from alike_iff.2 (fun j hj => by rw [hall 0 hN, hall (1 + j) (by omega)]))
  have HR := Lib.hid hr
  have HCS := Lib.hid hc
  have HALL := Lib.hid hall
  have HRS := Lib.hid hrs
  have HFL := Lib.hid hfl
  clear hcut hr hcell hc hall hrs hfl
  have hmk := run_make_row' (P := Tryz.prog) TRs TBs nilS 24 Tryz.underlying24 infoS rfl .i64 .i64 N (by omega) (by omega)
  go_enter Tryz.func29, Tryz.ntmps29
  go_wp2_with fail
  go_region_held3 (fun w' => w'.cell? ad = some (.slice (As 0) (Ls 0) (Cs 0)))
    (first | exact hcell0 | assumption)
    ((go_at_call 64; refine (alike32 b (As 0) (Ls 0) (Cs 0) (fun j => As (1 + j)) (fun j => Ls (1 + j)) (fun j => Cs (1 + j)) A1 (N - 1) (cr - 1) (by omega) w.drew HC.out.drew).mono ?_; rintro e w' ⟨rfl, rfl⟩; rw [HYES.out]))
  clear hs1 hs2 hcell0 HC HYES
  rename_i hHeld
  clear hHeld
  have HST := Lib.hid (show RegDotAt p b wd n N L cs F w (.int .i64 0) (w.drew.alloc (.cells (madeCells #[nilS] N) TBs)) from
    ⟨0, fun _ => 0, Nat.zero_le _, rfl, fun j hj => absurd hj (by omega), (World.rowIs_made w.drew nilS N TBs).congr (fun j _ => by unfold prodCells; rw [if_neg (by omega)]), fun j hj => absurd hj (by omega),
      (HFL.out.drew).of_below (below_alloc _ _), ((Turned.refl b w).drew).trans (Turned.of_below (below_alloc _ _))⟩)
  go_wp2_with fail
  go_loopw [37] (fun s37 wr => RegDotAt p b wd n N L cs F w s37 wr) (fun s37 _ => N - (intOf s37).toNat)
  case atStart => exact HST.out
  case round =>
    clear HST hmk
    obtain ⟨k, g, hk, rfl, hall, hrow, hrd, hf, ht⟩ := hrel
    by_cases hlt : k < N
    · obtain ⟨ad', e', hcell⟩ := (HR.out.turned ht).at_ hlt
      injection e' with e'
      subst e'
      obtain ⟨adc, rfl, hcellc⟩ := (HCS.out.turned ht).at_ hlt
      simp only [slis, i64s] at hcell hcellc
      rw [HALL.out k hlt] at hcell
      have RK := Lib.hid ((HRS.out k hlt).turned ht)
      have HF' := Lib.hid hf
      have HT := Lib.hid ht
      have HROW := Lib.hid hrow
      have HRD := Lib.hid hrd
      have HIN := Lib.hid hall
      have hpc := hrow.cell (i := k) hlt
      clear hall hrow hrd hf ht hpc
      obtain ⟨x, hx⟩ : ∃ x, cs k = x := ⟨_, rfl⟩
      rw [hx] at hcellc
      have HX := Lib.hid hx
      clear hx
      by_cases hin : inB (M.ord p) x = true
      · by_cases hLn : L % n = 0
        · have HLn := Lib.hid (show L = n * (L / n) ∧ L / n ≤ 100000 from ⟨(Nat.mul_div_cancel' (Nat.dvd_of_mod_eq_zero hLn)).symm, by have := Nat.div_le_self L n; omega⟩)
          have HB := Lib.hid (inB_iff.1 hin)
          have HOK := Lib.hid (And.intro hin hLn)
          clear hin hLn
          go_wp2_with fail
          refine (mul_yes p b wd n hw x HB.out.1 HB.out.2 (F k) (hF k) (As k) (L / n) L (Cs k) HLn.out.1 HLn.out.2 _ HF'.out RK.out).mono ?_
          rintro e w2 ⟨gk, rfl, hgk, hrk, hf2, ht2⟩
          have hrow2 := ht2.row HROW.out (show w.heap.size ≠ b by omega)
          have g2 := hrow2.cell (i := k) hlt
          have f2 := hrow2.frozen k
          rw [show prodCells k L g k = nilS by unfold prodCells; rw [if_neg (by omega)]] at g2
          have HS := Lib.hid (dotAt_step (v := .slice (some ⟨gk, 0, none⟩) L L) hlt hbl (by rw [HX.out]; exact HOK.out) HIN.out HROW.out HRD.out HT.out hf2 ht2 hgk (by rw [HX.out]; exact hrk) rfl)
          clear hrow2 hf2 ht2 hgk hrk HROW HRD HT HF' RK HIN
          go_wp2_with fail
          exact ⟨HS.out, by simp [intOf]; omega⟩
        · have HI := Lib.hid hin
          have HE := Lib.hid (show DotGo p b wd n N L cs F w (.returned (.tuple #[nilS, .int .i64 1])) wr from ⟨HF'.out, HT.out, Or.inr ⟨fun h => hLn (h k hlt).2, rfl⟩⟩)
          have HLn := Lib.hid hLn
          clear hin hLn
          go_wp2_with fail
          refine (mul_odd p b wd n hw x HI.out (As k) L (Cs k) HLn.out (by omega) _ HF'.out).mono ?_
          rintro e w' ⟨rfl, rfl⟩
          go_wp2_with fail
          go_ret2
          exact HE.out
      · have HI := Lib.hid (show inB (M.ord p) x = false by simpa using hin)
        have HE := Lib.hid (show DotGo p b wd n N L cs F w (.returned (.tuple #[nilS, .int .i64 1])) wr from ⟨HF'.out, HT.out, Or.inr ⟨fun h => hin (by rw [← HX.out]; exact (h k hlt).1), rfl⟩⟩)
        clear hin
        go_wp2_with fail
        refine (mul_out p b wd x HI.out _ _ HF'.out).mono ?_
        rintro e w' ⟨rfl, rfl⟩
        go_wp2_with fail
        go_ret2
        exact HE.out
    · obtain rfl : k = N := by omega
      have hs1 := run_tailAtS (some ⟨w.heap.size, 0, none⟩) k k (by omega)
      have hs2 := run_tailS (some ⟨w.heap.size, 0, none⟩) k k (by omega)
      have hrr := Rd.of_row (b := b) (n := k) hrow (by omega) (Nat.le_refl _)
      have hcut := hrr.cut (i := 1) (cap := k) (by omega) (Nat.le_refl _)
      obtain ⟨A1, hA1⟩ : ∃ A1, (if k = 1 then some (⟨w.heap.size, 0, none⟩ : Addr) else (some (⟨w.heap.size, 0, none⟩ : Addr)).map (·.add 1)) = A1 := ⟨_, rfl⟩
      rw [hA1] at hs1 hs2 hcut
      clear hA1
      have g0 := hrow.cell (i := 0) (by omega)
      rw [show prodCells k L g 0 = .slice (some ⟨g 0, 0, none⟩) L L by unfold prodCells; rw [if_pos hN]] at g0
      have HC := Lib.hid (show Rd b wr.drew (slis (fun j => some ⟨g (1 + j), 0, none⟩) (fun _ => L) (fun _ => L)) A1 (k - 1) from hcut.congr (fun j hj => by unfold prodCells; rw [if_pos (by omega)]))
      have HR0 := Lib.hid (show Rd b wr.drew (u8s (mulB p n (cs 0) (F 0))) (some ⟨g 0, 0, none⟩) L from (hrd 0 hN).2)
      have HRR := Lib.hid (show ∀ r, r < k - 1 → Rd b wr.drew (u8s (mulB p n (cs (1 + r)) (F (1 + r)))) (some ⟨g (1 + r), 0, none⟩) L from fun r hr => (hrd (1 + r) (by omega)).2)
      have hszr : w.heap.size < wr.drew.heap.size := hrow.lt
      have hblr : b < wr.drew.heap.size := hf.lt
      have HF' := Lib.hid hf
      have HT := Lib.hid ht
      have HIN := Lib.hid hall
      clear hrow hrr hcut hrd hf ht hall
      go_wp2_with fail
      go_region_held3 (fun w' => w'.cell? ⟨w.heap.size, 0, none⟩ = some (.slice (some ⟨g 0, 0, none⟩) L L))
        (first | exact g0 | exact (hb2.cell (p := ⟨w.heap.size, 0, none⟩) hszr).trans g0 | assumption)
        ((go_at_call 65; refine (sum33 b (mulB p n (cs 0) (F 0)) (fun j => byt_lt _ _ _) (fun r => mulB p n (cs (1 + r)) (F (1 + r))) (fun r j => byt_lt _ _ _) (some ⟨g 0, 0, none⟩) L L (by omega) (fun j => some ⟨g (1 + j), 0, none⟩) (fun _ => L) (fun _ => L) A1 (k - 1) (k - 1) (by omega) wr.drew hblr HR0.out HC.out (fun r hr => ⟨rfl, HRR.out r hr⟩)).mono ?_; rintro e w2 ⟨v2, rfl, A2, c2, rfl, hc2, hrd2, hb2⟩))
      have HE := Lib.hid (show DotGo p b wd n k L cs F w (.returned (.tuple #[.slice A2 L c2, .int .i64 0])) w2 from ⟨(HF'.out.drew).of_below hb2, HT.out.drew.trans (Turned.of_below hb2), Or.inl ⟨HIN.out, A2, c2, rfl, hc2.1, fun g hg => hc2.2 g (Nat.lt_trans hg hszr), hrd2⟩⟩)
      clear hrd2 hb2 hs1 hs2 hc2
      go_wp2_with fail
      go_ret2
      exact HE.out
end Go.Proofs.YtgdgimknnjbieaaGreatDoor

namespace Go.Proofs.YtgdgimknnjbieaaGreatDoor
open Go.RowKit

end Go.Proofs.YtgdgimknnjbieaaGreatDoor

namespace Go.Proofs.YtgdgimknnjbieaaGreatDoor
open Go.RowKit

/-- what Mul of the document tells -/
def RMulAny (p b n L : Nat) (a : Int) (f : Nat → Nat) (w : World) (e : Ending) (w' : World) : Prop :=
  ∃ t v, e = .returned (.tuple #[v, .bool t]) ∧ (t = true ↔ inB (M.ord p) a = true ∧ L % n = 0) ∧ BytesTold b (cond t L 0) (mulB p n a f) w v w'
/-- in its loop -/
def RMulAt (p n m : Nat) (a : Int) (f : Nat → Nat) (w : World) (s12 s13 : Value) (wr : World) : Prop :=
  ∃ k : Nat, k ≤ m ∧ s13 = .int .i64 k ∧ App w TI (i64s (fun j => fmul p a (word n f j))) k s12 wr

set_option maxRecDepth 100000 in
set_option maxHeartbeats 2000000 in
theorem rmul22 (p b wd n : Nat) (hg : Good p wd) (hw : Wide wd n (M.ord p)) (a : Int) (f : Nat → Nat) (hf : ∀ j, f j < 256) (A : Option Addr) (L cap : Nat) (hL : L ≤ 1000) (w : World) (hbw : b < w.heap.size) (hr : Rd b w (u8s f) A L) :
    Calls Tryz.prog 50 #[.int .i64 wd, .int .u32 p, .int .i64 a, .slice A L cap] w (RMulAny p b n L a f w) := by
  obtain ⟨i0, hi, hz0, hz1, hz2⟩ := info_parts infoI
  have HR := Lib.hid hr
  clear hr
  have hk := hw.kind
  go_enter Tryz.func50, Tryz.ntmps50
  go_wp2_with fail
  refine (rwords12 b wd n _ hw f hf A L cap (by omega) _ hbw HR.out).mono ?_
  rintro e w1 ⟨v1, rfl, A1, c1, rfl, _, hrd1, hb1⟩
  by_cases hd : L % n = 0
  · rw [decide_eq_true hd]
    cases hin : inB (M.ord p) a
    · have HE := Lib.hid (show RMulAny p b n L a f w (.returned (.tuple #[nilS, .bool false])) w1 from ⟨false, _, rfl, by simp [hin], bytesTold_nil hb1⟩)
      have HIN := Lib.hid hin
      clear hin hrd1 hb1 hd
      go_wp2_with fail
      refine (rin32 wd _ hk a _).mono ?_
      rintro e w' ⟨rfl, rfl⟩
      rw [HIN.out]
      go_wp2_with fail
      go_ret2
      exact HE.out
    · have HIN := Lib.hid hin
      have HD := Lib.hid hd
      obtain ⟨m, hm⟩ : ∃ m, L / n = m := ⟨_, rfl⟩
      have hmb : m ≤ 1000 := by have := Nat.div_le_self L n; omega
      have HML := Lib.hid (show m * n = L by rw [← hm]; exact Nat.div_mul_cancel (Nat.dvd_of_mod_eq_zero hd))
      rw [hm] at hrd1 ⊢
      have HR1 := Lib.hid hrd1
      have HB1 := Lib.hid hb1
      have hbl1 := Nat.lt_of_lt_of_le hbw hb1.size
      clear hin hrd1 hb1 hd hm
      go_wp2_with fail
      refine (rin32 wd _ hk a _).mono ?_
      rintro e w' ⟨rfl, rfl⟩
      rw [HIN.out]
      go_wp2_with fail
      go_loopw [12, 13] (fun s12 s13 wr => RMulAt p n m a f w1 s12 s13 wr) (fun _ s13 _ => m - (intOf s13).toNat)
      case atStart => exact ⟨0, Nat.zero_le _, rfl, App.start _ _ _⟩
      case round =>
        obtain ⟨k, hk', rfl, happ⟩ := hrel
        by_cases hlt : k < m
        · obtain ⟨ad, rfl, hcell⟩ := (HR1.out.below happ.2).at_ hlt
          simp only [i64s] at hcell
          have HA := Lib.hid happ
          have hsz := happ.2.size
          clear happ
          go_wp2_with (first
            | (go_at_call 89; refine (rmul20 p wd hg a _ _).mono ?_; rintro e w' ⟨rfl, rfl⟩)
            | (at_builtin; refine wpList_append_own _ rfl _ _ TIs rfl w1.heap.size TI i0 (.int .i64 0) 1 8 Tryz.underlying53 hi hz0 hz1 hz2 rfl (by decide) _ _ _ rfl (HA.out.1.alloc _) ⟨wr.heap.size, 0, none⟩ 1 1 [i64s (fun j => fmul p a (word n f j)) k] rfl rfl (news_one rfl) (one_i64 _) (by unfold maxLen; omega) (by omega) (by simp; omega) ?_))
          intro v' wx hown' hgrow _
          have HS := Lib.hid (HA.out.step hown' hgrow)
          clear hown' hgrow HA
          go_wp2_with fail
          exact ⟨⟨k + 1, hlt, by go_num, HS.out⟩, by simp [intOf]; omega⟩
        · obtain rfl : k = m := by omega
          obtain ⟨A2, c2, rfl, _, hrd2⟩ := happ.rd hbl1
          have hbl2 := Nat.lt_of_lt_of_le hbl1 happ.2.size
          have HB2 := Lib.hid (below_tr HB1.out happ.2)
          have HR2 := Lib.hid hrd2
          clear happ hrd2
          go_wp2_with fail
          refine (rbytes_any b wd n _ hw _ A2 k c2 (by omega) _ hbl2 HR2.out).mono ?_
          rintro e w3 ⟨t, v3, rfl, ht, hv3⟩
          obtain rfl : t = true := ht.2 (fun j _ => fmul_le hg a _)
          have HE := Lib.hid (show RMulAny p b n L a f w (.returned (.tuple #[v3, .bool true])) w3 from ⟨true, v3, rfl, by simp [HIN.out, HD.out], by
            have := BytesTold.from HB2.out hv3
            rw [show cond true (k * n) 0 = L from HML.out] at this
            exact this⟩)
          clear hv3 ht
          go_wp2_with fail
          go_ret2
          exact HE.out
  · rw [decide_eq_false hd]
    have HE := Lib.hid (show RMulAny p b n L a f w (.returned (.tuple #[nilS, .bool false])) w1 from ⟨false, _, rfl, by simp [hd], bytesTold_nil hb1⟩)
    clear hrd1 hb1 hd
    go_wp2_with fail
    go_ret2
    exact HE.out

/-- what Mul tells -/
def MulAny (p b wd n L : Nat) (a : Int) (f : Nat → Nat) (w : World) (e : Ending) (w' : World) : Prop :=
  ∃ t A c, e = .returned (.tuple #[.slice A (cond t L 0) c, .int .i64 (errOf t)]) ∧ (t = true ↔ inB (M.ord p) a = true ∧ L % n = 0) ∧ Rd b w' (u8s (mulB p n a f)) A (cond t L 0) ∧ Fld p b wd w' ∧ Turned b w w'
theorem mul_any (p b wd n : Nat) (hw : Wide wd n (M.ord p)) (a : Int) (f : Nat → Nat) (hf : ∀ j, f j < 256) (A : Option Addr) (L cap : Nat) (hL : L ≤ 1000) (w : World) (hfl : Fld p b wd w) (hr : Rd b w (u8s f) A L) :
    Calls Tryz.prog 48 #[.pointer (some ⟨b, 0, none⟩), .int .i64 a, .slice A L cap] w (MulAny p b wd n L a f w) := by
  cases hin : inB (M.ord p) a
  · refine (mul_out p b wd a hin _ w hfl).mono ?_
    rintro e w' ⟨rfl, rfl⟩
    exact ⟨false, none, 0, rfl, by simp [hin], Rd.zero, hfl, Turned.refl _ _⟩
  · by_cases hd : L % n = 0
    · have h1 := inB_iff.1 hin
      refine (mul_yes p b wd n hw a h1.1 h1.2 f hf A (L / n) L cap (Nat.mul_div_cancel' (Nat.dvd_of_mod_eq_zero hd)).symm (by have := Nat.div_le_self L n; omega) w hfl hr).mono ?_
      rintro e w' ⟨g, rfl, _, h2, h3, h4⟩
      exact ⟨true, _, L, rfl, by simp [hin, hd], h2, h3, h4⟩
    · refine (mul_odd p b wd n hw a hin A L cap hd (by omega) w hfl).mono ?_
      rintro e w' ⟨rfl, rfl⟩
      exact ⟨false, none, 0, rfl, by simp [hd], Rd.zero, hfl, Turned.refl _ _⟩

/-- what Add tells -/
def AddAny (b n m : Nat) (f g : Nat → Nat) (w : World) (e : Ending) (w' : World) : Prop :=
  ∃ t v, e = .returned (.tuple #[v, .int .i64 (errOf t)]) ∧ (t = true ↔ n = m) ∧ BytesTold b (cond t n 0) (fun i => f i ^^^ g i) w v w'
theorem add_any (b : Nat) (f g : Nat → Nat) (hf : ∀ j, f j < 256) (hg : ∀ j, g j < 256) (A B : Option Addr) (n m ca cb : Nat) (hn : n ≤ 1000) (w : World) (hbw : b < w.heap.size) (ha : Rd b w (u8s f) A n) (hb : Rd b w (u8s g) B m) :
    Calls Tryz.prog 45 #[.slice A n ca, .slice B m cb] w (AddAny b n m f g w) := by
  by_cases h : n = m
  · subst h
    refine (add_yes b f g hf hg A B n ca cb (by omega) w hbw ha hb).mono ?_
    rintro e w' ⟨v, rfl, hv⟩
    exact ⟨true, v, rfl, by simp, hv⟩
  · refine (add_no b A B n m ca cb h w hbw).mono ?_
    rintro e w' ⟨rfl, hv⟩
    exact ⟨false, _, rfl, by simp [h], bytesTold_nil hv⟩

/-- what Add of the document tells -/
def RAddAny (b n m : Nat) (f g : Nat → Nat) (w : World) (e : Ending) (w' : World) : Prop :=
  ∃ t v, e = .returned (.tuple #[v, .bool t]) ∧ (t = true ↔ n = m) ∧ BytesTold b (cond t n 0) (fun i => f i ^^^ g i) w v w'
/-- in its loop -/
def RAddAt (n : Nat) (f g : Nat → Nat) (w : World) (s6 s7 : Value) (wr : World) : Prop :=
  ∃ k : Nat, k ≤ n ∧ s7 = .int .i64 k ∧ App w TB (u8s (fun i => f i ^^^ g i)) k s6 wr

set_option maxRecDepth 100000 in
set_option maxHeartbeats 2000000 in
theorem radd24 (b : Nat) (f g : Nat → Nat) (hf : ∀ j, f j < 256) (hg : ∀ j, g j < 256) (A B : Option Addr) (n m ca cb : Nat) (hn : n ≤ 1000) (w : World) (hbw : b < w.heap.size) (ha : Rd b w (u8s f) A n) (hb : Rd b w (u8s g) B m) :
    Calls Tryz.prog 49 #[.slice A n ca, .slice B m cb] w (RAddAny b n m f g w) := by
  obtain ⟨i0, hi, hz0, hz1, hz2⟩ := info_parts infoB
  by_cases h : n = m
  · subst h
    have HA := Lib.hid ha
    have HB := Lib.hid hb
    clear ha hb
    go_enter Tryz.func49, Tryz.ntmps49
    go_wp2_with fail
    go_loopw [6, 7] (fun s6 s7 wr => RAddAt n f g w s6 s7 wr) (fun _ s7 _ => n - (intOf s7).toNat)
    case atStart => exact ⟨0, Nat.zero_le _, rfl, App.start _ _ _⟩
    case round =>
      obtain ⟨k, hk, rfl, happ⟩ := hrel
      by_cases hlt : k < n
      · obtain ⟨ad, rfl, hc1⟩ := (HA.out.below happ.2).at_ hlt
        obtain ⟨ad', rfl, hc2⟩ := (HB.out.below happ.2).at_ hlt
        simp only [u8s] at hc1 hc2
        have hx := hf k
        have hy := hg k
        have HX := Lib.hid (u8_xor_nat (f k) (g k) (by omega) (by omega))
        have HAP := Lib.hid happ
        have hsz := happ.2.size
        obtain ⟨x, hfx⟩ : ∃ x, f k = x := ⟨_, rfl⟩
        obtain ⟨y, hgy⟩ : ∃ y, g k = y := ⟨_, rfl⟩
        have HFX := Lib.hid hfx
        have HGY := Lib.hid hgy
        rw [hfx] at hc1 hx HX
        rw [hgy] at hc2 hy HX
        have KEEP := Lib.hid (show ∀ w', Below w.heap.size w w' → w'.cell? (ad.add k) = some (.int .u8 (x : Nat)) ∧ w'.cell? (ad'.add k) = some (.int .u8 (y : Nat)) from fun w' hb' => by
          obtain ⟨a1, e1, h1⟩ := (HA.out.below hb').at_ hlt
          obtain ⟨a2, e2, h2⟩ := (HB.out.below hb').at_ hlt
          injection e1 with e1
          injection e2 with e2
          subst e1 e2
          rw [h1, h2, ← hfx, ← hgy]
          exact ⟨rfl, rfl⟩)
        clear happ hfx hgy
        go_wp2_with fail
        go_region_held3 (fun w' => w'.cell? (ad.add k) = some (.int .u8 (x : Nat)) ∧ w'.cell? (ad'.add k) = some (.int .u8 (y : Nat)))
          (first | exact ⟨hc1, hc2⟩ | exact KEEP.out _ (HAP.out.2.drew.alloc hsz _) | exact KEEP.out _ (HAP.out.drew.step hownx hgx).2 | assumption)
          (first
            | (refine step_append_lies _ rfl (.tmp 19) (.tmp 29) TBs rfl w.heap.size TB i0 (.int .u8 0) 1 1 Tryz.underlying35 hi hz0 hz1 hz2 rfl (by decide) _ k _ (by simp [Act.eval]) (HAP.out.1.alloc _) ⟨wr.heap.size, 0, none⟩ 1 1 [.int .u8 (f k ^^^ g k : Nat)] (by simp [Act.eval]) rfl (news_one (by rw [HFX.out, HGY.out, ← HX.out])) (one_u8 _) (by omega) (by unfold maxLen; omega) (by omega) (by simp; omega) _ rfl ?_; intro gx cx wx hownx hgx hatx hltx))
        have HS := Lib.hid (HAP.out.drew.step hownx hgx)
        clear hownx hgx hatx hltx
        go_wp2_with fail
        exact ⟨⟨k + 1, hlt, by go_num, HS.out⟩, by simp [intOf]; omega⟩
      · obtain rfl : k = n := by omega
        have HE := Lib.hid (show RAddAny b k k f g w (.returned (.tuple #[_, .bool true])) wr from ⟨true, _, rfl, by simp, BytesTold.of happ hbw⟩)
        clear happ
        go_wp2_with fail
        go_ret2
        exact HE.out
  · have hne : (((n : Nat) : Int) != ((m : Nat) : Int)) = true := by simp; omega
    have HE := Lib.hid (show RAddAny b n m f g w (.returned (.tuple #[nilS, .bool false])) w from ⟨false, _, rfl, by simp [h], bytesTold_nil (Below.refl _ _)⟩)
    clear h ha hb
    go_enter Tryz.func49, Tryz.ntmps49
    go_wp2_with fail
    go_ret2
    exact HE.out
end Go.Proofs.YtgdgimknnjbieaaGreatDoor

namespace Go.Proofs.YtgdgimknnjbieaaGreatDoor
open Go.RowKit

/-- what Dot tells, of any rows -/
def DotAny (p b wd n N N' : Nat) (cs : Nat → Int) (Ls : Nat → Nat) (F : Nat → Nat → Nat) (w : World) (e : Ending) (w' : World) : Prop :=
  ∃ t A c, e = .returned (.tuple #[.slice A (cond t (Ls 0) 0) c, .int .i64 (errOf t)]) ∧ (t = true ↔ DotOk p n N N' cs Ls) ∧ Rd b w' (u8s (dotB p n cs F N)) A (cond t (Ls 0) 0) ∧ Fld p b wd w' ∧ Turned b w w' ∧ cond t (Ls 0) 0 ≤ c ∧ ∀ g, g < w.heap.size → Rd g w' (u8s (dotB p n cs F N)) A (cond t (Ls 0) 0)

theorem dot_any (p b wd n : Nat) (hw : Wide wd n (M.ord p)) (cs : Nat → Int) (F : Nat → Nat → Nat) (hF : ∀ r j, F r j < 256) (Ac : Option Addr) (N N' cc cr : Nat) (hN' : N' ≤ 1000) (As : Nat → Option Addr) (Ls Cs : Nat → Nat) (Ar : Option Addr) (hL : ∀ r, r < N' → Ls r ≤ 1000) (w : World) (hfl : Fld p b wd w)
    (hc : Rd b w (i64s cs) Ac N) (hr : Rd b w (slis As Ls Cs) Ar N') (hcr : N' ≤ cr) (hrs : ∀ r, r < N' → Rd b w (u8s (F r)) (As r) (Ls r)) :
    Calls Tryz.prog 29 #[.pointer (some ⟨b, 0, none⟩), .slice Ac N cc, .slice Ar N' cr] w (DotAny p b wd n N N' cs Ls F w) := by
  by_cases hNN : N = N'
  · subst hNN
    rcases Nat.eq_zero_or_pos N with h0 | h0
    · subst h0
      refine (dot_none _ Ac Ar cc cr w).mono ?_
      rintro e w' ⟨rfl, hb⟩
      exact ⟨false, none, 0, rfl, by simp [DotOk], Rd.zero, hfl.of_below hb, Turned.of_below hb, Nat.zero_le _, fun _ _ => Rd.zero⟩
    · cases ha : alike (Ls 0) (fun j => Ls (1 + j)) (N - 1)
      · refine (dot_odd b _ Ac N cc cr h0 hN' As Ls Cs Ar w hr hcr ha).mono ?_
        rintro e w' ⟨rfl, hb⟩
        refine ⟨false, none, 0, rfl, ?_, Rd.zero, hfl.of_below hb, Turned.of_below hb, Nat.zero_le _, fun _ _ => Rd.zero⟩
        constructor
        · intro h; cases h
        · rintro ⟨_, _, h⟩
          have : alike (Ls 0) (fun j => Ls (1 + j)) (N - 1) = true := alike_iff.2 (fun j hj => (h (1 + j) (by omega)).2.2)
          rw [ha] at this
          exact this
      · have hall : ∀ r, r < N → Ls r = Ls 0 := fun r hr' => by
          rcases Nat.eq_zero_or_pos r with h | h
          · rw [h]
          · have := alike_iff.1 ha (r - 1) (by omega)
            rwa [show 1 + (r - 1) = r by omega] at this
        refine (dot_go p b wd n hw cs F hF Ac N cc cr h0 hN' As Ls Cs Ar (Ls 0) (hL 0 h0) w hfl hc hr hcr hall (fun r hr' => by rw [← hall r hr']; exact hrs r hr')).mono ?_
        rintro e w' ⟨h1, h2, ⟨h3, A, c, rfl, h4, h6, h5⟩ | ⟨h3, rfl⟩⟩
        · refine ⟨true, A, c, rfl, ?_, h5, h1, h2, h4, h6⟩
          simp only [true_iff]
          exact ⟨rfl, h0, fun r hr' => ⟨(h3 r hr').1, by rw [hall r hr']; exact (h3 r hr').2, hall r hr'⟩⟩
        · refine ⟨false, none, 0, rfl, ?_, Rd.zero, h1, h2, Nat.zero_le _, fun _ _ => Rd.zero⟩
          constructor
          · intro h; cases h
          · rintro ⟨_, _, h⟩
            exact absurd (fun r hr' => ⟨(h r hr').1, by rw [← hall r hr']; exact (h r hr').2.1⟩) h3
  · refine (dot_unlike _ Ac Ar N N' cc cr hNN w).mono ?_
    rintro e w' ⟨rfl, hb⟩
    exact ⟨false, none, 0, rfl, by simp [DotOk, hNN], Rd.zero, hfl.of_below hb, Turned.of_below hb, Nat.zero_le _, fun _ _ => Rd.zero⟩

/-- what Dot of the document tells -/
def RDotAny (p b n N N' : Nat) (cs : Nat → Int) (Ls : Nat → Nat) (F : Nat → Nat → Nat) (w : World) (e : Ending) (w' : World) : Prop :=
  ∃ t v, e = .returned (.tuple #[v, .bool t]) ∧ (t = true ↔ DotOk p n N N' cs Ls) ∧ BytesTold b (cond t (Ls 0) 0) (dotB p n cs F N) w v w'
/-- in its loop -/
def RDotAt (p b n N : Nat) (cs : Nat → Int) (Ls : Nat → Nat) (F : Nat → Nat → Nat) (w : World) (s10 s11 : Value) (wr : World) : Prop :=
  ∃ k : Nat, k ≤ N ∧ s11 = .int .i64 k ∧ (∀ r, r < k → inB (M.ord p) (cs r) = true ∧ Ls r % n = 0 ∧ Ls r = Ls 0) ∧ (0 < k → BytesTold b (Ls 0) (dotB p n cs F k) w s10 wr) ∧ Below w.heap.size w wr

theorem rdot_false {p b n N N' : Nat} {cs : Nat → Int} {Ls : Nat → Nat} {F : Nat → Nat → Nat} {w w' : World} (h : ¬ DotOk p n N N' cs Ls) (hb : Below w.heap.size w w') : RDotAny p b n N N' cs Ls F w (.returned (.tuple #[nilS, .bool false])) w' :=
  ⟨false, _, rfl, by simp [h], bytesTold_nil hb⟩
theorem dotB_one (p n : Nat) (cs : Nat → Int) (F : Nat → Nat → Nat) : dotB p n cs F 1 = mulB p n (cs 0) (F 0) := rfl
theorem dotB_succ (p n : Nat) (cs : Nat → Int) (F : Nat → Nat → Nat) {k : Nat} (hk : 0 < k) (i : Nat) : dotB p n cs F (k + 1) i = dotB p n cs F k i ^^^ mulB p n (cs k) (F k) i := by
  obtain ⟨j, rfl⟩ : ∃ j, k = j + 1 := ⟨k - 1, by omega⟩
  show sumB _ _ (j + 1) i = _
  rw [sumB, Nat.add_comm 1 j]
  rfl
theorem dotB_lt (p n : Nat) (cs : Nat → Int) (F : Nat → Nat → Nat) (k i : Nat) : dotB p n cs F k i < 256 := sumB_lt (fun _ => byt_lt _ _ _) (fun _ _ => byt_lt _ _ _) _ _

set_option maxRecDepth 100000 in
set_option maxHeartbeats 4000000 in
theorem rdot20 (p b wd n : Nat) (hg : Good p wd) (hw : Wide wd n (M.ord p)) (cs : Nat → Int) (F : Nat → Nat → Nat) (hF : ∀ r j, F r j < 256) (Ac : Option Addr) (N N' cc cr : Nat) (hN' : N' ≤ 1000) (As : Nat → Option Addr) (Ls Cs : Nat → Nat) (Ar : Option Addr) (hL : ∀ r, r < N' → Ls r ≤ 1000) (w : World) (hbw : b < w.heap.size)
    (hc : Rd b w (i64s cs) Ac N) (hr : Rd b w (slis As Ls Cs) Ar N') (hrs : ∀ r, r < N' → Rd b w (u8s (F r)) (As r) (Ls r)) :
    Calls Tryz.prog 38 #[.int .i64 wd, .int .u32 p, .slice Ac N cc, .slice Ar N' cr] w (RDotAny p b n N N' cs Ls F w) := by
  by_cases hNN : N = N'
  · subst hNN
    rcases Nat.eq_zero_or_pos N with h0 | h0
    · subst h0
      have HE := Lib.hid (show RDotAny p b n 0 0 cs Ls F w (.returned (.tuple #[nilS, .bool false])) w from ⟨false, _, rfl, by simp [DotOk], bytesTold_nil (Below.refl _ _)⟩)
      clear hc hr hrs hL
      go_enter Tryz.func38, Tryz.ntmps38
      go_wp2_with fail
      go_ret2
      exact HE.out
    · have HC := Lib.hid hc
      have HR := Lib.hid hr
      have HRS := Lib.hid hrs
      have HLB := Lib.hid hL
      have hn0 : (((N : Nat) : Int) == 0) = false := by simp; omega
      clear hc hr hrs hL
      go_enter Tryz.func38, Tryz.ntmps38
      go_wp2_with fail
      go_loopw [10, 11] (fun s10 s11 wr => RDotAt p b n N cs Ls F w s10 s11 wr) (fun _ s11 _ => N - (intOf s11).toNat)
      case atStart => exact ⟨0, Nat.zero_le _, rfl, fun r hr => absurd hr (by omega), fun h => absurd h (by omega), Below.refl _ _⟩
      case round =>
        obtain ⟨k, hk, rfl, hall, hout, hb⟩ := hrel
        by_cases hlt : k < N
        · have KEEP := Lib.hid (show ∀ w', Below w.heap.size w w' → ∃ ad ad' : Addr, Ac = some ad ∧ Ar = some ad' ∧ w'.cell? (ad.add k) = some (.int .i64 (cs k)) ∧ w'.cell? (ad'.add k) = some (.slice (As k) (Ls k) (Cs k)) ∧ w'.cell? ad' = some (.slice (As 0) (Ls 0) (Cs 0)) from fun w' hb' => by
            obtain ⟨a1, e1, h1⟩ := (HC.out.below hb').at_ hlt
            obtain ⟨a2, e2, h2⟩ := (HR.out.below hb').at_ hlt
            obtain ⟨a3, e3, h3⟩ := (HR.out.below hb').at_ h0
            rw [e2] at e3
            injection e3 with e3
            subst e3
            exact ⟨a1, a2, e1, e2, h1, h2, by simpa [Addr.add] using h3⟩)
          obtain ⟨ad, ad', rfl, rfl, hc1, hc2, hc3⟩ := KEEP.out wr hb
          have KEEP' := Lib.hid (show ∀ w', Below w.heap.size w w' → w'.cell? (ad.add k) = some (.int .i64 (cs k)) ∧ w'.cell? (ad'.add k) = some (.slice (As k) (Ls k) (Cs k)) ∧ w'.cell? ad' = some (.slice (As 0) (Ls 0) (Cs 0)) from fun w' hb' => by
            obtain ⟨a1, a2, e1, e2, h⟩ := KEEP.out w' hb'
            injection e1 with e1
            injection e2 with e2
            subst e1 e2
            exact h)
          have HALL := Lib.hid hall
          have HOUT := Lib.hid hout
          have HB := Lib.hid hb
          have hLk := HLB.out k hlt
          have hblr := Nat.lt_of_lt_of_le hbw hb.size
          have RK := Lib.hid (show Rd b wr.drew (u8s (F k)) (As k) (Ls k) from (HRS.out k hlt).below hb.drew)
          clear hall hout hb KEEP
          go_wp2_with fail
          go_region_held3 (fun w' => w'.cell? (ad.add k) = some (.int .i64 (cs k)) ∧ w'.cell? (ad'.add k) = some (.slice (As k) (Ls k) (Cs k)))
            (first | exact ⟨hc1, hc2⟩ | exact ⟨(KEEP'.out _ (HB.out.drew.trans (hb2.mono HB.out.drew.size))).1, (KEEP'.out _ (HB.out.drew.trans (hb2.mono HB.out.drew.size))).2.1⟩ | assumption)
            ((go_at_call 50; refine (rmul22 p b wd n hg hw (cs k) (F k) (hF k) (As k) (Ls k) (Cs k) hLk wr.drew hblr RK.out).mono ?_; rintro e w2 ⟨t, v2, rfl, ht, A2, c2, rfl, hcc2, hrd2, hb2⟩))
          have hB2 := HB.out.drew.trans (hb2.mono HB.out.drew.size)
          have hblr2 := Nat.lt_of_lt_of_le hbw hB2.size
          obtain ⟨_, d2, d3⟩ := KEEP'.out w2 hB2
          have HB2 := Lib.hid hB2
          have HT := Lib.hid ht
          have HR2 := Lib.hid hrd2
          have HCC := Lib.hid (show Ls k ≤ c2 ∨ t = false from by cases t; exact Or.inr rfl; exact Or.inl hcc2.1)
          have HRA := Lib.hid (fun g (hg : g < w.heap.size) => hcc2.2 g (Nat.lt_of_lt_of_le hg HB.out.drew.size))
          have HBX := Lib.hid hb2
          clear hrd2 hb2 ht hB2 hc1 hc2 hc3 RK KEEP' hcc2
          cases t
          · have HE := Lib.hid (fun (w' : World) (hb' : Below w.heap.size w w') => rdot_false (p := p) (b := b) (n := n) (N := N) (N' := N) (cs := cs) (F := F) (fun h => Bool.noConfusion (HT.out.2 ⟨(h.2.2 k hlt).1, (h.2.2 k hlt).2.1⟩)) hb')
            go_wp2_with fail
            go_quiet (fail)
            go_wp2_with fail
            go_ret2
            exact HE.out _ (HB2.out.trans ((below_drewN' _ _).mono HB2.out.size))
          · by_cases hLe : Ls k = Ls 0
            · have hne : (((Ls k : Nat) : Int) != ((Ls 0 : Nat) : Int)) = false := by simp [hLe]
              have HLE := Lib.hid hLe
              have HNX := Lib.hid (show ∀ r, r < k + 1 → inB (M.ord p) (cs r) = true ∧ Ls r % n = 0 ∧ Ls r = Ls 0 from fun r hr => (Nat.lt_succ_iff_lt_or_eq.1 hr).elim (fun h => HALL.out r h) (fun h => by
                have := HT.out.1 rfl
                rw [h]; exact ⟨this.1, this.2, hLe⟩))
              clear hLe
              go_wp2_with fail
              go_quiet (fail)
              have HB3 := Lib.hid (HB2.out.trans ((below_drewN' w2 nq).mono HB2.out.size))
              have HR3 := Lib.hid (show Rd b (w2.drewN nq) (u8s (mulB p n (cs k) (F k))) A2 (Ls k) from HR2.out.below (below_drewN' w2 nq))
              have HRA3 := Lib.hid (show ∀ g, g < w.heap.size → Rd g (w2.drewN nq) (u8s (mulB p n (cs k) (F k))) A2 (Ls k) from fun g hg => (HRA.out g hg).below (below_drewN' w2 nq))
              have HX3 := Lib.hid (show Below wr.heap.size wr (w2.drewN nq) from (Below.refl wr.heap.size wr).drew.trans (HBX.out.trans ((below_drewN' w2 nq).mono HBX.out.size)))
              generalize w2.drewN nq = w3 at *
              have hbl3 := Nat.lt_of_lt_of_le hbw HB3.out.size
              clear HB2 HR2 HBX d2 d3 hne HT HRA
              by_cases hk0 : k = 0
              · have hkz : ((k : Int) == 0) = true := by simp [hk0]
                have HE := Lib.hid (show BytesTold b (Ls 0) (dotB p n cs F (k + 1)) w (.slice A2 (Ls k) c2) w3 from ⟨A2, c2, by rw [HLE.out], ⟨by rw [← HLE.out]; exact HCC.out.resolve_right Bool.noConfusion, by rw [hk0] at HRA3 ⊢; exact HRA3.out⟩, by rw [hk0] at HR3 ⊢; exact HR3.out, HB3.out⟩)
                clear hk0
                go_wp2_with fail
                exact ⟨⟨k + 1, hlt, by go_num, HNX.out, fun _ => HE.out, HB3.out⟩, by simp [intOf]; omega⟩
              · have hkz : ((k : Int) == 0) = false := by simp; omega
                obtain ⟨A0, c0, hu, _, hrd0, _⟩ := HOUT.out (by omega)
                subst hu
                have HR0 := Lib.hid (hrd0.below HX3.out)
                have HK0 := Lib.hid (show 0 < k by omega)
                have hL0 : Ls 0 ≤ 1000 := HLB.out 0 h0
                clear hk0 hrd0
                go_wp2_with fail
                refine (radd24 b _ _ (dotB_lt p n cs F k) (fun _ => byt_lt _ _ _) A0 A2 (Ls 0) (Ls k) c0 c2 hL0 _ hbl3 HR0.out HR3.out).mono ?_
                rintro e w4 ⟨t, v4, rfl, ht, hv4⟩
                obtain rfl : t = true := ht.2 HLE.out.symm
                obtain ⟨A4, c4, rfl, hc4, hrd4, hb4⟩ := hv4
                have HB4 := Lib.hid (HB3.out.trans (hb4.mono HB3.out.size))
                have HE := Lib.hid (show BytesTold b (Ls 0) (dotB p n cs F (k + 1)) w (.slice A4 (Ls 0) c4) w4 from ⟨A4, c4, rfl, ⟨hc4.1, fun g hg => (hc4.2 g (Nat.lt_of_lt_of_le hg HB3.out.size)).congr (fun j _ => by simp only [u8s]; rw [dotB_succ p n cs F HK0.out]; rfl)⟩, hrd4.congr (fun j _ => by simp only [u8s]; rw [dotB_succ p n cs F HK0.out]; rfl), HB4.out⟩)
                rw [show cond true (Ls 0) 0 = Ls 0 from rfl]
                clear hrd4 hb4 hc4 ht
                go_wp2_with fail
                exact ⟨⟨k + 1, hlt, by go_num, HNX.out, fun _ => HE.out, HB4.out⟩, by simp [intOf]; omega⟩
            · have hne : (((Ls k : Nat) : Int) != ((Ls 0 : Nat) : Int)) = true := by simp; omega
              have HE := Lib.hid (fun (w' : World) (hb' : Below w.heap.size w w') => rdot_false (p := p) (b := b) (n := n) (N := N) (N' := N) (cs := cs) (F := F) (fun h => absurd (h.2.2 k hlt).2.2 hLe) hb')
              clear hLe
              go_wp2_with fail
              go_quiet (fail)
              go_wp2_with fail
              go_ret2
              exact HE.out _ (HB2.out.trans ((below_drewN' _ _).mono HB2.out.size))
        · obtain rfl : k = N := by omega
          have HE := Lib.hid (show RDotAny p b n k k cs Ls F w (.returned (.tuple #[_, .bool true])) wr from ⟨true, _, rfl, ⟨fun _ => ⟨rfl, h0, hall⟩, fun _ => rfl⟩, hout h0⟩)
          clear hall hout hb
          go_wp2_with fail
          go_ret2
          exact HE.out
  · have hne : (((N : Nat) : Int) != ((N' : Nat) : Int)) = true := by simp; omega
    have HE := Lib.hid (show RDotAny p b n N N' cs Ls F w (.returned (.tuple #[nilS, .bool false])) w from ⟨false, _, rfl, by simp [DotOk, hNN], bytesTold_nil (Below.refl _ _)⟩)
    clear hNN hc hr hrs hL
    go_enter Tryz.func38, Tryz.ntmps38
    go_wp2_with fail
    go_ret2
    exact HE.out
end Go.Proofs.YtgdgimknnjbieaaGreatDoor
