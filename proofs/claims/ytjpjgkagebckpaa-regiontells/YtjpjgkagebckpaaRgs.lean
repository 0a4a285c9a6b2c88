/- Contracts of the laws' own tests: are two rows of bytes, two lists of numbers, the same; was it an error. -/
import Derived.Test.YtjpjgkagebckpaaRgl
import Derived.Laws.BytesArg
namespace Go.Proofs.Ytjpjgkagebckpaa
open Go.RowKit

/-- n bytes as a string -/
def strF (f : Nat → Nat) (n : Nat) : ByteArray := strOfNums ((List.range n).map (fun j => (f j : Int)))
theorem strF_congr {f g : Nat → Nat} {n : Nat} (h : ∀ j, j < n → f j = g j) : strF f n = strF g n := by
  unfold strF
  congr 1
  exact List.map_congr_left (fun j hj => by rw [h j (List.mem_range.1 hj)])

set_option maxRecDepth 100000 in
theorem conv_rd {b : Nat} {w : World} {f : Nat → Nat} {A : Option Addr} {n : Nat} (c : Nat) (h : Rd b w (u8s f) A n) : (convert TBs 9 (.slice A n c)).run Try.prog w = .ok (.string (strF f n)) w := by
  have hs : Try.prog.underlying TBs = some (.slice TB) := Try.underlying22
  have he : Try.prog.underlying TB = some (.int .u8) := Try.underlying5
  have hd : Try.prog.underlying 9 = some .string := Try.underlying9
  rcases A with _ | ad
  · have h0 : n = 0 := by
      rcases Nat.eq_zero_or_pos n with h' | h'
      · exact h'
      · obtain ⟨_, e, _⟩ := h h'
        cases e
    subst h0
    rw [run_convert_bytes_nil w TBs TB hs he 0 c _ hd]
    rfl
  · have hl : (loadCells ad n).run Try.prog w = .ok (((List.range n).map (fun j => (f j : Int))).map (Value.int .u8)).toArray w := by
      have := run_loadCells_list (P := Try.prog) w ad (((List.range n).map (fun j => (f j : Int))).map (Value.int .u8)) (fun j v hj => by
        have hjn : j < n := by
          rcases Nat.lt_or_ge j n with h' | h'
          · exact h'
          · rw [List.getElem?_eq_none (by simpa using h')] at hj; cases hj
        obtain ⟨ad', e, hc⟩ := h.at_ hjn
        injection e with e
        subst e
        rw [List.getElem?_map, List.getElem?_map, List.getElem?_range hjn] at hj
        rw [hc]
        exact hj)
      simpa using this
    rw [run_convert_bytes_string w TBs _ TB _ n c hs he hd, run_bytesToString w _ n c _ hl, foldl_push_bytes]
    simp [strF, strOfNums, ByteArray.empty, ByteArray.emptyWithCapacity]
    rfl

set_option maxRecDepth 100000 in
theorem same17 (b b' : Nat) (f g : Nat → Nat) (A B : Option Addr) (n ca cb : Nat) (w : World) (ha : Rd b w (u8s f) A n) (hb : Rd b' w (u8s g) B n) (h : ∀ j, j < n → f j = g j) :
    Calls Try.prog 17 #[.slice A n ca, .slice B n cb] w fun e w' => e = .returned (.bool true) ∧ w = w' := by
  have h1 := conv_rd ca ha
  have h2 := conv_rd cb hb
  rw [← strF_congr h] at h2
  clear ha hb h
  go_enter Try.func17, Try.ntmps17
  go_wp2_with fail
  go_ret
  exact ⟨by simp, rfl⟩

set_option maxRecDepth 100000 in
theorem was_yes (w : World) : Calls Try.prog 15 #[.int .i64 0, .bool true] w fun e w' => e = .returned (.bool true) ∧ w = w' := by
  go_enter Try.func15, Try.ntmps15
  go_wp2_with fail
  go_ret
  exact ⟨rfl, rfl⟩

set_option maxRecDepth 100000 in
theorem was_no (w : World) : Calls Try.prog 15 #[.int .i64 1, .bool false] w fun e w' => e = .returned (.bool true) ∧ w = w' := by
  go_enter Try.func15, Try.ntmps15
  go_wp2_with fail
  go_ret
  exact ⟨rfl, rfl⟩

set_option maxRecDepth 100000 in
set_option maxHeartbeats 1000000 in
theorem ints16 (b b' : Nat) (l l' : Nat → Int) (A B : Option Addr) (n ca cb : Nat) (hn : n ≤ 100000) (w : World) (ha : Rd b w (i64s l) A n) (hb : Rd b' w (i64s l') B n) (h : ∀ j, j < n → l j = l' j) :
    Calls Try.prog 16 #[.slice A n ca, .slice B n cb] w fun e w' => e = .returned (.bool true) ∧ Below w.heap.size w w' := by
  have HA := Lib.hid ha
  have HB := Lib.hid hb
  have HH := Lib.hid h
  clear ha hb h
  go_enter Try.func16, Try.ntmps16
  go_wp2_with fail
  go_loopw [5] (fun s5 wr => ∃ k : Nat, k ≤ n ∧ s5 = .int .i64 k ∧ Hid (Below w.heap.size w wr)) (fun s5 _ => n - (intOf s5).toNat)
  case atStart => exact ⟨0, Nat.zero_le _, rfl, Lib.hid (Below.refl _ _)⟩
  case round =>
    obtain ⟨k, hk, rfl, hbl⟩ := hrel
    by_cases hlt : k < n
    · obtain ⟨ad, rfl, hc1⟩ := (HA.out.below hbl.out).at_ hlt
      obtain ⟨ad', rfl, hc2⟩ := (HB.out.below hbl.out).at_ hlt
      have he := HH.out k hlt
      simp only [i64s] at hc1 hc2
      rw [← he] at hc2
      clear he
      obtain ⟨x, hx⟩ : ∃ x, l k = x := ⟨_, rfl⟩
      rw [hx] at hc1 hc2
      clear hx
      go_wp2_with fail
      go_region
      all_goals
        go_wp2_with fail
        exact ⟨⟨k + 1, hlt, by go_num, Lib.hid hbl.out.drew⟩, by simp [intOf]; omega⟩
    · obtain rfl : k = n := by omega
      go_wp2_with fail
      go_ret
      exact ⟨rfl, hbl.out⟩
end Go.Proofs.Ytjpjgkagebckpaa
