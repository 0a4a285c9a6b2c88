/- The contract of poly.powerOfX. -/
import Derived.Test.YtomlfmfahlcedaaMod
import Derived.Test.YtomlfmfahlcedaaPow
namespace Go.Proofs.Ytomlfmfahlcedaa
open Go.RowKit

theorem pw_bound (a n : Nat) (p : Int) (p0 : 0 ≤ p) (p1 : p ≤ 4294967295) : (M.pw a p.toNat n : Int) ≤ 4294967295 := by
  have := md_bound (M.pw a p.toNat n : Int) p p0 p1
  rwa [Int.toNat_natCast, M.pw_md] at this

def PoxAt (N P m : Nat) (w wr : World) (t i : Value) : Prop :=
  ∃ k : Nat, k ≤ m ∧ i = .int .i64 k ∧ t = .int .u32 (M.pw 2 P (N >>> (m - k))) ∧ wr.cell? ⟨w.heap.size, 0, none⟩ = some (.int .u64 N) ∧ w.heap.size < wr.heap.size ∧ Below w.heap.size w wr

set_option maxRecDepth 100000 in
set_option maxHeartbeats 1000000 in
theorem pox27 (n p : Int) (w : World) (n0 : 0 ≤ n) (n1 : n ≤ 4294967295) (p0 : 0 ≤ p) (p1 : p ≤ 4294967295) :
    Calls Try.prog 47 #[.int .u32 n, .int .u32 p] w fun e w' => e = .returned (.int .u32 (M.pw 2 p.toNat n.toNat)) ∧ Below w.heap.size w w' := by
  have hl : M.blen n.toNat ≤ 32 := (M.blen_le _ _).2 (by omega)
  go_enter Try.func47, Try.ntmps47
  go_wp2_with fail
  refine (bits24 _ _).mono ?_
  rintro e w1 ⟨rfl, hw1⟩
  have hc : w1.cell? ⟨w.heap.size, 0, none⟩ = some (.int .u64 n) := by rw [← hw1]; simp
  have hz : w.heap.size < w1.heap.size := by rw [← hw1]; simp
  have HB := Lib.hid (show Below w.heap.size w w1 by rw [← hw1]; exact (Below.refl _ _).alloc (Nat.le_refl _) _)
  clear hw1
  go_wp2_with fail
  refine (deg10 _ _ n0 (by omega)).mono ?_
  rintro e w' ⟨rfl, rfl⟩
  generalize hm : M.blen n.toNat = m at *
  have Hm := Lib.hid hm
  clear hm
  go_wp2_with fail
  refine (mod14 _ _ _ (by omega) (by omega) p0 p1).mono ?_
  rintro e w2 ⟨rfl, hb2⟩
  have hc2 := (hb2.cell (p := ⟨w.heap.size, 0, none⟩) hz).trans hc
  have hz2 : w.heap.size < w2.heap.size := Nat.lt_of_lt_of_le hz hb2.size
  have HB2 := Lib.hid (HB.out.trans (hb2.mono (Nat.le_of_lt hz)))
  clear hb2 hc hz HB
  go_wp2_with fail
  go_loopw [7, 19] (fun t i wr => PoxAt n.toNat p.toNat m w wr t i) (fun _ i _ => m - (intOf i).toNat)
  case atStart =>
    refine ⟨0, Nat.zero_le _, rfl, ?_, ?_, hz2, HB2.out⟩
    · rw [Nat.sub_zero, ← Hm.out, Nat.shiftRight_eq_div_pow, Nat.div_eq_of_lt (M.lt_pow_blen _)]; rfl
    · rw [hc2, Int.toNat_of_nonneg n0]
  case round =>
    obtain ⟨k, hk, rfl, rfl, hc, hz, hb⟩ := hrel
    have HB := Lib.hid hb
    clear hb
    rw [Int.toNat_of_nonneg n0] at hc
    by_cases hlt : k < m
    · have hs := M.pw_shift (a := 2) (p := p.toNat) (n := n.toNat) hlt
      have hpb := pw_bound 2 (n.toNat >>> (m - k)) p p0 p1
      generalize M.pw 2 p.toNat (n.toNat >>> (m - k)) = r at *
      generalize hnx : M.pw 2 p.toNat (n.toNat >>> (m - (k + 1))) = nx at *
      have HNX := Lib.hid hnx
      have HS := Lib.hid hs
      clear hnx hs
      go_wp2_with fail
      refine (mulmod16 _ _ _ _ (by omega) hpb (by omega) hpb p0 p1).mono ?_
      rintro e w3 ⟨rfl, hb3⟩
      have hc3 := (hb3.cell (p := ⟨w.heap.size, 0, none⟩) hz).trans hc
      have hz3 : w.heap.size < w3.heap.size := Nat.lt_of_lt_of_le hz hb3.size
      have HB3 := Lib.hid (HB.out.trans (hb3.mono (Nat.le_of_lt hz)))
      clear hb3 hc hz HB
      have hsb := md_bound (M.mul r r : Int) p p0 p1
      rw [Int.toNat_natCast] at *
      generalize M.md (M.mul r r) p.toNat = s at *
      go_wp2_with fail
      refine (bit29 n ((m : Int) - 1 - k) _ _ hc3 (by omega) (by omega) n0 (by omega)).mono ?_
      rintro e w' ⟨rfl, rfl⟩
      rw [show ((m : Int) - 1 - k).toNat = m - 1 - k by omega]
      cases hbit : n.toNat.testBit (m - 1 - k)
      · have h2 := HS.out
        rw [hbit] at h2
        have HN := Lib.hid (show nx = s by simpa using h2)
        clear h2 hbit
        go_wp2_with fail
        exact ⟨⟨k + 1, by omega, by go_num, by rw [HNX.out, HN.out], by rw [Int.toNat_of_nonneg n0]; exact hc3, hz3, HB3.out⟩, by simp [intOf]; omega⟩
      · have h2 := HS.out
        rw [hbit] at h2
        have HN := Lib.hid (show nx = M.md (M.mul s 2) p.toNat by simpa using h2)
        clear h2 hbit
        go_wp2_with fail
        refine (mulmod16 _ _ _ _ (by omega) hsb (by omega) (by omega) p0 p1).mono ?_
        rintro e w4 ⟨rfl, hb4⟩
        have hc4 := (hb4.cell (p := ⟨w.heap.size, 0, none⟩) hz3).trans hc3
        have hz4 : w.heap.size < w4.heap.size := Nat.lt_of_lt_of_le hz3 hb4.size
        have HB4 := Lib.hid (HB3.out.trans (hb4.mono (Nat.le_of_lt hz3)))
        clear hb4 hc3 hz3 HB3
        go_wp2_with fail
        exact ⟨⟨k + 1, by omega, by go_num, by rw [HNX.out, HN.out], by rw [Int.toNat_of_nonneg n0]; exact hc4, hz4, HB4.out⟩, by simp [intOf]; omega⟩
    · go_wp2
      go_ret
      obtain rfl : k = m := by omega
      exact ⟨ret_int (by rw [Nat.sub_self]; rfl), HB.out⟩
end Go.Proofs.Ytomlfmfahlcedaa
