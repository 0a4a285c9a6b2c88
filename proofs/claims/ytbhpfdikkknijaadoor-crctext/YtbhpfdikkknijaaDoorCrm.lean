/- Layer 13: strconv.FormatUint to the base 16, of a number of nine figures; contract of Text. -/
import Derived.Test.YtbhpfdikkknijaaDoorCrl
import Derived.Laws.BitsAllLaws
import Derived.Laws.Rows
import Derived.Laws.Tables
import Derived.Deep.WholeRow
namespace Go.Proofs.YtbhpfdikkknijaaDoor
open Go.RowKit

set_option maxRecDepth 100000 in
set_option maxHeartbeats 1000000 in
theorem tz49 (w : World) (hE : Env w) : Calls Tryd.prog 49 #[.int .u64 16] w fun e w' => e = .returned (.int .i64 4) ∧ w = w' := by
  have hd := hE.db
  have h1 : bits .and .u64 16 (IntKind.u64.wrap (-16)) = 16 := by decide
  have h2 : IntKind.u64.wrap 4573923408821661840 = 4573923408821661840 := by decide
  clear hE
  go_enter Tryd.func49, Tryd.ntmps49
  go_wp2_with fail
  go_ret
  exact ⟨rfl, rfl⟩

set_option maxRecDepth 100000 in
theorem tz46 (w : World) (hE : Env w) : Calls Tryd.prog 46 #[.int .u64 16] w fun e w' => e = .returned (.int .i64 4) ∧ w = w' := by
  have HZ := Lib.hid (tz49 w hE)
  clear hE
  go_enter Tryd.func46, Tryd.ntmps46
  go_wp2_with fail
  refine HZ.out.mono ?_
  rintro e w' ⟨rfl, rfl⟩
  go_wp2_with fail
  go_ret
  exact ⟨rfl, rfl⟩
theorem ip45 (w : World) : Calls Tryd.prog 45 #[.int .i64 16] w fun e w' => e = .returned (.bool true) ∧ w = w' := by
  have hpw : bits .and .i64 16 15 = 0 := by decide
  go_enter Tryd.func45, Tryd.ntmps45
  go_wp2_with fail
  go_ret
  exact ⟨rfl, rfl⟩

abbrev T65 : Nat := 70
theorem zeroT65 (w : World) : (zeroValue T65).run Tryd.prog w = .ok (.agg (Array.replicate 65 (.int .u8 0))) w := by kernel_rfl
/-- the last k figures of X, at the end of 65 -/
def figF (X k : Nat) : Nat → Value := fun j => .int .u8 ((if 65 - k ≤ j then hexd (X / 16 ^ (64 - j) % 16) else 0 : Nat))
def FigAt (X : Nat) (w : World) (s1 s13 : Value) (wr : World) : Prop :=
  ∃ k : Nat, k ≤ 8 ∧ s13 = .int .i64 (65 - (k : Int)) ∧ s1 = .int .u64 (X / 16 ^ k : Nat) ∧ wr.rowIs w.heap.size T65 65 (figF X k) ∧ Below w.heap.size w wr
theorem figF_step {X k : Nat} (hk : k ≤ 8) {w wr : World} (h : wr.rowIs w.heap.size T65 65 (figF X k)) : (wr.setCell ⟨w.heap.size, 64 - k, none⟩ (.int .u8 (hexd (X / 16 ^ k % 16) : Nat))).rowIs w.heap.size T65 65 (figF X (k + 1)) := by
  refine (h.set (64 - k) _).congr (fun i hi => ?_)
  unfold figF
  by_cases e : i = 64 - k
  · rw [if_pos e, if_pos (by omega), show 64 - i = k by omega]
  · rw [if_neg e]
    by_cases e2 : 65 - k ≤ i
    · rw [if_pos e2, if_pos (by omega)]
    · rw [if_neg e2, if_neg (by omega)]
theorem figF_start (X : Nat) (z : Array Value) (hz : Array.replicate 65 (.int .u8 0) = z) {w v : World} (hv : w.alloc (.cells z T65) = v) : v.rowIs w.heap.size T65 65 (figF X 0) ∧ Below w.heap.size w v := by
  subst hv
  have hs : z.size = 65 := by rw [← hz]; simp
  refine ⟨?_, below_alloc w _⟩
  have h := World.rowIs_alloc w z T65 (figF X 0) (fun i hi => by
    rw [hs] at hi
    rw [← hz]
    simp only [figF]
    rw [if_neg (by omega)]
    simp [hi])
  rwa [hs] at h
theorem run_fig36 {k : IntKind} (d : Nat) (hd : d < 16) (w : World) : (Instr.index TStr (.string ⟨#[48, 49, 50, 51, 52, 53, 54, 55, 56, 57, 97, 98, 99, 100, 101, 102, 103, 104, 105, 106, 107, 108, 109, 110, 111, 112, 113, 114, 115, 116, 117, 118, 119, 120, 121, 122]⟩) (.int k (d : Int))).run Tryd.prog w = .ok (.int .u8 (hexd d : Nat)) w := by
  rw [run_index_string w TStr _ _ _ Tryd.underlying9, dif_pos (by constructor; omega; show (d : Int) < (36 : Nat); omega)]
  have h5 : ∀ d, d < 16 → ∀ (h : d < 36), ((#[48, 49, 50, 51, 52, 53, 54, 55, 56, 57, 97, 98, 99, 100, 101, 102, 103, 104, 105, 106, 107, 108, 109, 110, 111, 112, 113, 114, 115, 116, 117, 118, 119, 120, 121, 122] : Array UInt8)[d]'h).toNat = hexd d := by decide
  congr 3
  exact h5 d hd (by omega)
theorem u64_and15 (n : Nat) (h : n < 18446744073709551616) : bits .and .u64 (n : Int) 15 = ((n % 16 : Nat) : Int) := by
  have h1 := u64_and_nat n 15 h (by omega)
  have h2 := Nat.and_two_pow_sub_one_eq_mod n 4
  rw [show (2 : Nat) ^ 4 - 1 = 15 from rfl] at h2
  rw [h2] at h1
  exact h1
/-- from X's k-th place on -/
theorem place_ge {X k : Nat} (h1 : 4294967296 ≤ X) (h2 : X < 8589934592) (hk : k ≤ 8) : (k < 8 → 16 ≤ X / 16 ^ k) ∧ (k = 8 → X / 16 ^ k = 1) := by
  constructor
  · intro h
    have e : 16 * 16 ^ k ≤ 4294967296 := by
      rw [Nat.mul_comm, ← Nat.pow_succ, show (4294967296 : Nat) = 16 ^ 8 by decide]
      exact Nat.pow_le_pow_right (by omega) h
    exact (Nat.le_div_iff_mul_le (Nat.pow_pos (by omega))).2 (by omega)
  · rintro rfl
    rw [show (16 : Nat) ^ 8 = 4294967296 by decide]
    omega

set_option maxRecDepth 100000 in
set_option maxHeartbeats 4000000 in
theorem fbits38 (X : Nat) (h1 : 4294967296 ≤ X) (h2 : X < 8589934592) (w : World) (hE : Env w) :
    Calls Tryd.prog 38 #[nilS, .int .u64 X, .int .i64 16, .bool false, .bool false] w fun e w' => e = .returned (.tuple #[nilS, .string (strF (txtI X 9) 9)]) ∧ Below w.heap.size w w' := by
  have hzv := zeroT65
  obtain ⟨z, hz⟩ : ∃ z, Array.replicate 65 (Value.int .u8 0) = z := ⟨_, rfl⟩
  rw [hz] at hzv
  obtain ⟨v, hv⟩ : ∃ v, w.alloc (.cells z T65) = v := ⟨_, rfl⟩
  obtain ⟨q1, q2⟩ := figF_start X z hz hv
  have HS := Lib.hid q1
  have HB := Lib.hid q2
  have HZ := Lib.hid (tz46 v (hE.below q2))
  have HL := Lib.hid (fun k => Nat.lt_of_le_of_lt (Nat.div_le_self X (16 ^ k)) h2)
  have HP := Lib.hid (fun k => place_ge (k := k) h1 h2)
  clear hz hE q1 q2 h1 h2
  go_enter Tryd.func38, Tryd.ntmps38
  go_wp2_with fail
  refine (ip45 _).mono ?_
  rintro e w' ⟨rfl, rfl⟩
  go_wp2_with fail
  refine HZ.out.mono ?_
  rintro e w' ⟨rfl, rfl⟩
  go_wp2_with fail
  clear hzv hv HZ
  go_loopw [1, 13] (fun s1 s13 wr => FigAt X w s1 s13 wr) (fun _ s13 _ => (intOf s13).toNat)
  case atStart => exact ⟨0, Nat.zero_le _, rfl, by simp, HS.out, HB.out⟩
  case round =>
    clear HS HB
    obtain ⟨k, hk, rfl, rfl, q1, hb⟩ := hrel
    have hu := HL.out k
    have hp := HP.out k hk
    have HW := Lib.hid (figF_step hk q1)
    have HB := Lib.hid hb
    obtain ⟨d, hd⟩ : ∃ d, 64 - k = d := ⟨_, rfl⟩
    rw [hd] at HW
    have hdc : (65 : Int) - (k : Int) - 1 = (d : Int) := by omega
    have f1 := q1.frozen d
    have g1 := q1.cell (i := d) (by omega)
    obtain ⟨c, hc⟩ : ∃ c : Nat, (65 : Int) - (k : Int) = (c : Int) := ⟨65 - k, by omega⟩
    rw [hc] at hdc ⊢
    have hd65 : 0 ≤ (d : Int) ∧ (d : Int) < 65 := by omega
    have hd66 : (d : Int) < 65 := by omega
    have hn : X / 16 ^ k / 16 = X / 16 ^ (k + 1) := by rw [Nat.pow_succ, Nat.div_div_eq_div_mul]
    obtain ⟨u, huu⟩ : ∃ u, X / 16 ^ k = u := ⟨_, rfl⟩
    rw [huu] at hu hp HW hn ⊢
    by_cases hlt : k < 8
    · have h16 : (16 : Int) ≤ (u : Int) := by have := hp.1 hlt; omega
      have h15 := u64_and15 u (by omega)
      obtain ⟨g, hg⟩ : ∃ g, u % 16 = g := ⟨_, rfl⟩
      rw [hg] at h15 HW
      have hfig := fun w => run_fig36 (k := .u64) g (by omega) w
      have hg16 : 0 ≤ (g : Int) ∧ (g : Int) < 16 := by omega
      obtain ⟨u2, hu2⟩ : ∃ u2 : Nat, (u : Int) / 16 = (u2 : Int) := ⟨u / 16, by omega⟩
      have HN := Lib.hid (show u2 = X / 16 ^ (k + 1) by rw [← hn]; omega)
      clear q1 hb hp hg hn huu
      go_wp2_with fail
      exact ⟨⟨k + 1, hlt, by go_num, by rw [← HN.out], HW.out, HB.out.setCell (p := ⟨w.heap.size, d, none⟩) (Nat.le_refl _) _⟩, by simp [intOf]; omega⟩
    · obtain rfl : k = 8 := by omega
      obtain rfl : u = 1 := hp.2 rfl
      obtain rfl : d = 56 := by omega
      obtain rfl : c = 57 := by omega
      have hr : (wr.setCell ⟨w.heap.size, 56, none⟩ (.int .u8 49)).rowIs w.heap.size T65 65 (figF X 9) := HW.out
      have HB2 := Lib.hid (HB.out.setCell (p := ⟨w.heap.size, 56, none⟩) (Nat.le_refl _) (.int .u8 49))
      have hfig : ∀ w, (Instr.index TStr (.string ⟨#[48, 49, 50, 51, 52, 53, 54, 55, 56, 57, 97, 98, 99, 100, 101, 102, 103, 104, 105, 106, 107, 108, 109, 110, 111, 112, 113, 114, 115, 116, 117, 118, 119, 120, 121, 122]⟩) (.int .u64 1)).run Tryd.prog w = .ok (.int .u8 49) w := fun w => run_fig36 (k := .u64) 1 (by omega) w
      have hR := (Rd.of_row (b := w.heap.size + 1) hr (by omega) (Nat.le_refl 65)).cut (i := 56) (cap := 65) (by omega) (by omega)
      rw [if_neg (by omega)] at hR
      have hcv := conv_rd (b := w.heap.size + 1) (f := txtI X 9) 9 (hR.congr (k' := u8s (txtI X 9)) (fun j hj => by
        simp only [figF, u8s, txtI]
        rw [if_pos (by omega), show 64 - (56 + j) = 9 - 1 - j by omega]))
      rw [show ((some (⟨w.heap.size, 0, none⟩ : Addr)).map (·.add 56)) = some ⟨w.heap.size, 56, none⟩ by simp [Addr.add]] at hcv
      clear hr hR hn hp hd hc hdc hk hlt hu huu q1 hb HW hd65 hd66
      obtain ⟨x, hx⟩ : ∃ x, strF (txtI X 9) 9 = x := ⟨_, rfl⟩
      rw [hx] at hcv
      have HX := Lib.hid hx
      clear hx
      go_wp2_with fail
      go_ret2
      exact ⟨by rw [HX.out]; rfl, HB2.out⟩

set_option maxRecDepth 100000 in
set_option maxHeartbeats 1000000 in
theorem ifmt28 (X : Nat) (h1 : 4294967296 ≤ X) (h2 : X < 8589934592) (w : World) (hE : Env w) :
    Calls Tryd.prog 28 #[.int .u64 X, .int .i64 16] w fun e w' => e = .returned (.string (strF (txtI X 9) 9)) ∧ Below w.heap.size w w' := by
  have HC := Lib.hid (fbits38 X h1 h2 w hE)
  obtain ⟨x, hx⟩ : ∃ x, strF (txtI X 9) 9 = x := ⟨_, rfl⟩
  rw [hx] at HC ⊢
  clear hx hE
  go_enter Tryd.func28, Tryd.ntmps28
  go_wp2_with fail
  refine HC.out.mono ?_
  rintro e w' ⟨rfl, hb⟩
  go_wp2_with fail
  go_ret
  exact ⟨rfl, hb⟩
theorem fmt24 (X : Nat) (h1 : 4294967296 ≤ X) (h2 : X < 8589934592) (w : World) (hE : Env w) :
    Calls Tryd.prog 24 #[.int .u64 X, .int .i64 16] w fun e w' => e = .returned (.string (strF (txtI X 9) 9)) ∧ Below w.heap.size w w' := by
  have HC := Lib.hid (ifmt28 X h1 h2 w hE)
  obtain ⟨x, hx⟩ : ∃ x, strF (txtI X 9) 9 = x := ⟨_, rfl⟩
  rw [hx] at HC ⊢
  clear hx hE
  go_enter Tryd.func24, Tryd.ntmps24
  go_wp2_with fail
  refine HC.out.mono ?_
  rintro e w' ⟨rfl, hb⟩
  go_wp2_with fail
  go_ret
  exact ⟨rfl, hb⟩

/-- of nine figures, of which the first is 1, the last eight -/
theorem txt_nine (s j : Nat) (hj : j < 8) : txtI (4294967296 + s) 9 (1 + j) = txtI s 8 j := by
  unfold txtI
  congr 1
  rw [show 9 - 1 - (1 + j) = 7 - j by omega, show 8 - 1 - j = 7 - j by omega]
  obtain ⟨k, hk⟩ : ∃ k, 7 - j = k := ⟨_, rfl⟩
  rw [hk, show 4294967296 + s = s + 16 ^ k * 16 ^ (8 - k) by rw [← Nat.pow_add, show k + (8 - k) = 8 by omega]; omega, Nat.add_mul_div_left _ _ (Nat.pow_pos (by omega))]
  obtain ⟨q, hq⟩ : ∃ q, 8 - k = q + 1 := ⟨7 - k, by omega⟩
  rw [hq, Nat.pow_succ]
  omega
/-- 's[1:]' of a string -/
theorem strF_tail (f : Nat → Nat) (n : Nat) : (strF f (n + 1)).extract 1 (n + 1) = strF (fun j => f (1 + j)) n := by
  apply ByteArray.ext
  apply Array.toList_inj.1
  rw [ByteArray.data_extract, Array.toList_extract]
  unfold strF
  rw [strOfNums_data, strOfNums_data]
  simp [List.range_succ_eq_map, Function.comp_def, Nat.add_comm]
  exact List.take_of_length_le (by simp)
theorem run_tailS (x : ByteArray) (n : Nat) (hx : x.size = n) (h : 1 ≤ n) (w : World) : (Instr.slice TStr (.string x) (some (.int .i64 1)) none none).run Tryd.prog w = .ok (.string (x.extract 1 n)) w := by
  have h5 := run_slice_string_l (P := Tryd.prog) w TStr x Tryd.underlying9 .i64 1 (by omega) (by omega)
  rw [hx] at h5
  exact h5

set_option maxRecDepth 100000 in
set_option maxHeartbeats 1000000 in
theorem text17 (s : Nat) (hs : s < 4294967296) (w : World) (hE : Env w) : Calls Tryd.prog 17 #[.int .u32 s] w fun e w' => e = .returned (.string (strF (txtI s 8) 8)) ∧ Below w.heap.size w w' := by
  have HC := Lib.hid (fmt24 (4294967296 + s) (by omega) (by omega) w hE)
  have hor : bits .or .u64 4294967296 (s : Int) = ((4294967296 + s : Nat) : Int) := by
    have h := u64_or_nat 4294967296 s (by omega) (by omega)
    rw [show (4294967296 : Nat) = 2 ^ 32 * 1 by decide, ← Nat.two_pow_add_eq_or_of_lt (i := 32) (b := s) (by omega) 1] at h
    exact h
  have htl := fun w => run_tailS (strF (txtI (4294967296 + s) 9) 9) 9 (strF_size _ _) (by omega) w
  rw [strF_tail, strF_congr (fun j hj => txt_nine s j hj)] at htl
  obtain ⟨x, hx⟩ : ∃ x, strF (txtI (4294967296 + s) 9) 9 = x := ⟨_, rfl⟩
  obtain ⟨y, hy⟩ : ∃ y, strF (txtI s 8) 8 = y := ⟨_, rfl⟩
  rw [hx] at HC htl
  rw [hy] at htl ⊢
  obtain ⟨X, hX⟩ : ∃ X, 4294967296 + s = X := ⟨_, rfl⟩
  rw [hX] at HC hor
  clear hx hy hX hE
  go_enter Tryd.func17, Tryd.ntmps17
  go_wp2_with fail
  refine HC.out.mono ?_
  rintro e w' ⟨rfl, hb⟩
  go_wp2_with fail
  go_ret
  exact ⟨rfl, hb⟩
end Go.Proofs.YtbhpfdikkknijaaDoor
