/- The law PolyField walked, for each of its six polynomials. -/
import Derived.Test.YtaofcngdpceklaaAwake
import Derived.Test.YtaofcngdpceklaaReh
import Derived.Test.YtaofcngdpceklaaSix
namespace Go.Proofs.Ytaofcngdpceklaa
open Go.RowKit

theorem below_trans_at {w w1 w2 : World} (h1 : Below w.heap.size w w1) (h2 : Below w1.heap.size w1 w2) : Below w.heap.size w w2 := h1.trans (h2.mono h1.size)

set_option maxHeartbeats 1000000 in
theorem pf0 (a0 a1 a2 : Int) (w : World) (a00 : 0 ≤ a0) (a01 : a0 ≤ 255) (a10 : 0 ≤ a1) (a11 : a1 ≤ 65535) (a20 : 0 ≤ a2) (a21 : a2 ≤ 65535) (hk : a0 % 6 = 0) :
    Calls Try.prog 7 #[.int .u8 a0, .int .u16 a1, .int .u16 a2] w fun e w' => e = .returned (.bool true) ∧ Below w.heap.size w w' := by
  go_enter Try.func7, Try.ntmps7
  go_wp2_with fail
  refine (awake9 _).mono ?_
  rintro e w1 ⟨rfl, hb1⟩
  have H1 := Lib.hid hb1
  clear hb1
  go_wp2_with fail
  generalize hw2 : w1.alloc _ = w2
  have H2 := Lib.hid (show Below w.heap.size w w2 by rw [← hw2]; exact H1.out.alloc H1.out.size _)
  clear hw2 H1
  refine (deg10 _ _ (by omega) (by omega)).mono ?_
  rintro e w' ⟨rfl, rfl⟩
  rw [show ((M.blen (285 : Int).toNat : Int) - 1) = 8 by decide +kernel]
  go_wp2_with fail
  have x0 : 0 ≤ a1 % 256 := by omega
  have x1 : a1 % 256 < 256 := by omega
  have y0 : 0 ≤ a2 % 256 := by omega
  have y1 : a2 % 256 < 256 := by omega
  generalize a1 % 256 = x at *
  generalize a2 % 256 = y at *
  clear hk a10 a11 a20 a21
  refine (mulmod16 _ _ _ _ x0 (by omega) y0 (by omega) (by omega) (by omega)).mono ?_
  rintro e w3 ⟨rfl, hb3⟩
  have H3 := Lib.hid (below_trans_at H2.out hb3)
  clear hb3 H2
  rw [show (285 : Int).toNat = 285 from rfl]
  by_cases hx : x = 0
  · have dx : (x == 0) = true := by rw [beq_iff_eq]; exact hx
    have dm : ((M.md (M.mul x.toNat y.toNat) 285 : Int) == 0) = true := by rw [hx, show (0 : Int).toNat = 0 from rfl, M.zero_mul, M.md_zero]; rfl
    clear hx
    generalize M.md (M.mul x.toNat y.toNat) 285 = m at *
    go_wp2_with fail
    go_ret
    exact ⟨rfl, H3.out⟩
  · have dx : (x == 0) = false := by rw [beq_eq_false_iff_ne]; exact hx
    have hf : M.pw x.toNat 285 (2 ^ 8 - 1) = 1 := M.fermat285 (by omega) (by omega)
    by_cases hy : y = 0
    · have dy : (y == 0) = true := by rw [beq_iff_eq]; exact hy
      have dm : ((M.md (M.mul x.toNat y.toNat) 285 : Int) == 0) = true := by rw [hy, show (0 : Int).toNat = 0 from rfl, M.mul_zero, M.md_zero]; rfl
      clear hx hy
      have HF := Lib.hid hf
      clear hf
      generalize M.md (M.mul x.toNat y.toNat) 285 = m at *
      go_wp2_with fail
      refine (rpow22 _ _ _ _ x0 (by omega) (by omega) (by omega) (by omega) (by omega)).mono ?_
      rintro e w' ⟨rfl, rfl⟩
      rw [show M.pw x.toNat (285 : Int).toNat (255 : Int).toNat = 1 from HF.out]
      go_wp2_with fail
      go_ret
      exact ⟨rfl, H3.out⟩
    · have dy : (y == 0) = false := by rw [beq_eq_false_iff_ne]; exact hy
      have hn : M.md (M.mul x.toNat y.toNat) 285 ≠ 0 := M.zero285 (by omega) (by omega) (by omega) (by omega)
      have dm : ((M.md (M.mul x.toNat y.toNat) 285 : Int) == 0) = false := by rw [beq_eq_false_iff_ne]; omega
      clear hx hy hn
      have HF := Lib.hid hf
      clear hf
      generalize M.md (M.mul x.toNat y.toNat) 285 = m at *
      go_wp2_with fail
      refine (rpow22 _ _ _ _ x0 (by omega) (by omega) (by omega) (by omega) (by omega)).mono ?_
      rintro e w' ⟨rfl, rfl⟩
      rw [show M.pw x.toNat (285 : Int).toNat (255 : Int).toNat = 1 from HF.out]
      go_wp2_with fail
      go_ret
      exact ⟨rfl, H3.out⟩

set_option maxHeartbeats 1000000 in
theorem pf1 (a0 a1 a2 : Int) (w : World) (a00 : 0 ≤ a0) (a01 : a0 ≤ 255) (a10 : 0 ≤ a1) (a11 : a1 ≤ 65535) (a20 : 0 ≤ a2) (a21 : a2 ≤ 65535) (hk : a0 % 6 = 1) :
    Calls Try.prog 7 #[.int .u8 a0, .int .u16 a1, .int .u16 a2] w fun e w' => e = .returned (.bool true) ∧ Below w.heap.size w w' := by
  go_enter Try.func7, Try.ntmps7
  go_wp2_with fail
  refine (awake9 _).mono ?_
  rintro e w1 ⟨rfl, hb1⟩
  have H1 := Lib.hid hb1
  clear hb1
  go_wp2_with fail
  generalize hw2 : w1.alloc _ = w2
  have H2 := Lib.hid (show Below w.heap.size w w2 by rw [← hw2]; exact H1.out.alloc H1.out.size _)
  clear hw2 H1
  refine (deg10 _ _ (by omega) (by omega)).mono ?_
  rintro e w' ⟨rfl, rfl⟩
  rw [show ((M.blen (283 : Int).toNat : Int) - 1) = 8 by decide +kernel]
  go_wp2_with fail
  have x0 : 0 ≤ a1 % 256 := by omega
  have x1 : a1 % 256 < 256 := by omega
  have y0 : 0 ≤ a2 % 256 := by omega
  have y1 : a2 % 256 < 256 := by omega
  generalize a1 % 256 = x at *
  generalize a2 % 256 = y at *
  clear hk a10 a11 a20 a21
  refine (mulmod16 _ _ _ _ x0 (by omega) y0 (by omega) (by omega) (by omega)).mono ?_
  rintro e w3 ⟨rfl, hb3⟩
  have H3 := Lib.hid (below_trans_at H2.out hb3)
  clear hb3 H2
  rw [show (283 : Int).toNat = 283 from rfl]
  by_cases hx : x = 0
  · have dx : (x == 0) = true := by rw [beq_iff_eq]; exact hx
    have dm : ((M.md (M.mul x.toNat y.toNat) 283 : Int) == 0) = true := by rw [hx, show (0 : Int).toNat = 0 from rfl, M.zero_mul, M.md_zero]; rfl
    clear hx
    generalize M.md (M.mul x.toNat y.toNat) 283 = m at *
    go_wp2_with fail
    go_ret
    exact ⟨rfl, H3.out⟩
  · have dx : (x == 0) = false := by rw [beq_eq_false_iff_ne]; exact hx
    have hf : M.pw x.toNat 283 (2 ^ 8 - 1) = 1 := M.fermat283 (by omega) (by omega)
    by_cases hy : y = 0
    · have dy : (y == 0) = true := by rw [beq_iff_eq]; exact hy
      have dm : ((M.md (M.mul x.toNat y.toNat) 283 : Int) == 0) = true := by rw [hy, show (0 : Int).toNat = 0 from rfl, M.mul_zero, M.md_zero]; rfl
      clear hx hy
      have HF := Lib.hid hf
      clear hf
      generalize M.md (M.mul x.toNat y.toNat) 283 = m at *
      go_wp2_with fail
      refine (rpow22 _ _ _ _ x0 (by omega) (by omega) (by omega) (by omega) (by omega)).mono ?_
      rintro e w' ⟨rfl, rfl⟩
      rw [show M.pw x.toNat (283 : Int).toNat (255 : Int).toNat = 1 from HF.out]
      go_wp2_with fail
      go_ret
      exact ⟨rfl, H3.out⟩
    · have dy : (y == 0) = false := by rw [beq_eq_false_iff_ne]; exact hy
      have hn : M.md (M.mul x.toNat y.toNat) 283 ≠ 0 := M.zero283 (by omega) (by omega) (by omega) (by omega)
      have dm : ((M.md (M.mul x.toNat y.toNat) 283 : Int) == 0) = false := by rw [beq_eq_false_iff_ne]; omega
      clear hx hy hn
      have HF := Lib.hid hf
      clear hf
      generalize M.md (M.mul x.toNat y.toNat) 283 = m at *
      go_wp2_with fail
      refine (rpow22 _ _ _ _ x0 (by omega) (by omega) (by omega) (by omega) (by omega)).mono ?_
      rintro e w' ⟨rfl, rfl⟩
      rw [show M.pw x.toNat (283 : Int).toNat (255 : Int).toNat = 1 from HF.out]
      go_wp2_with fail
      go_ret
      exact ⟨rfl, H3.out⟩

set_option maxHeartbeats 1000000 in
theorem pf2 (a0 a1 a2 : Int) (w : World) (a00 : 0 ≤ a0) (a01 : a0 ≤ 255) (a10 : 0 ≤ a1) (a11 : a1 ≤ 65535) (a20 : 0 ≤ a2) (a21 : a2 ≤ 65535) (hk : a0 % 6 = 2) :
    Calls Try.prog 7 #[.int .u8 a0, .int .u16 a1, .int .u16 a2] w fun e w' => e = .returned (.bool true) ∧ Below w.heap.size w w' := by
  go_enter Try.func7, Try.ntmps7
  go_wp2_with fail
  refine (awake9 _).mono ?_
  rintro e w1 ⟨rfl, hb1⟩
  have H1 := Lib.hid hb1
  clear hb1
  go_wp2_with fail
  generalize hw2 : w1.alloc _ = w2
  have H2 := Lib.hid (show Below w.heap.size w w2 by rw [← hw2]; exact H1.out.alloc H1.out.size _)
  clear hw2 H1
  refine (deg10 _ _ (by omega) (by omega)).mono ?_
  rintro e w' ⟨rfl, rfl⟩
  rw [show ((M.blen (69643 : Int).toNat : Int) - 1) = 16 by decide +kernel]
  go_wp2_with fail
  have x0 : 0 ≤ a1 % 65536 := by omega
  have x1 : a1 % 65536 < 65536 := by omega
  have y0 : 0 ≤ a2 % 65536 := by omega
  have y1 : a2 % 65536 < 65536 := by omega
  generalize a1 % 65536 = x at *
  generalize a2 % 65536 = y at *
  clear hk a10 a11 a20 a21
  refine (mulmod16 _ _ _ _ x0 (by omega) y0 (by omega) (by omega) (by omega)).mono ?_
  rintro e w3 ⟨rfl, hb3⟩
  have H3 := Lib.hid (below_trans_at H2.out hb3)
  clear hb3 H2
  rw [show (69643 : Int).toNat = 69643 from rfl]
  by_cases hx : x = 0
  · have dx : (x == 0) = true := by rw [beq_iff_eq]; exact hx
    have dm : ((M.md (M.mul x.toNat y.toNat) 69643 : Int) == 0) = true := by rw [hx, show (0 : Int).toNat = 0 from rfl, M.zero_mul, M.md_zero]; rfl
    clear hx
    generalize M.md (M.mul x.toNat y.toNat) 69643 = m at *
    go_wp2_with fail
    go_ret
    exact ⟨rfl, H3.out⟩
  · have dx : (x == 0) = false := by rw [beq_eq_false_iff_ne]; exact hx
    have hf : M.pw x.toNat 69643 (2 ^ 16 - 1) = 1 := M.fermat69643 (by omega) (by omega)
    by_cases hy : y = 0
    · have dy : (y == 0) = true := by rw [beq_iff_eq]; exact hy
      have dm : ((M.md (M.mul x.toNat y.toNat) 69643 : Int) == 0) = true := by rw [hy, show (0 : Int).toNat = 0 from rfl, M.mul_zero, M.md_zero]; rfl
      clear hx hy
      have HF := Lib.hid hf
      clear hf
      generalize M.md (M.mul x.toNat y.toNat) 69643 = m at *
      go_wp2_with fail
      refine (rpow22 _ _ _ _ x0 (by omega) (by omega) (by omega) (by omega) (by omega)).mono ?_
      rintro e w' ⟨rfl, rfl⟩
      rw [show M.pw x.toNat (69643 : Int).toNat (65535 : Int).toNat = 1 from HF.out]
      go_wp2_with fail
      go_ret
      exact ⟨rfl, H3.out⟩
    · have dy : (y == 0) = false := by rw [beq_eq_false_iff_ne]; exact hy
      have hn : M.md (M.mul x.toNat y.toNat) 69643 ≠ 0 := M.zero69643 (by omega) (by omega) (by omega) (by omega)
      have dm : ((M.md (M.mul x.toNat y.toNat) 69643 : Int) == 0) = false := by rw [beq_eq_false_iff_ne]; omega
      clear hx hy hn
      have HF := Lib.hid hf
      clear hf
      generalize M.md (M.mul x.toNat y.toNat) 69643 = m at *
      go_wp2_with fail
      refine (rpow22 _ _ _ _ x0 (by omega) (by omega) (by omega) (by omega) (by omega)).mono ?_
      rintro e w' ⟨rfl, rfl⟩
      rw [show M.pw x.toNat (69643 : Int).toNat (65535 : Int).toNat = 1 from HF.out]
      go_wp2_with fail
      go_ret
      exact ⟨rfl, H3.out⟩

set_option maxHeartbeats 1000000 in
theorem pf3 (a0 a1 a2 : Int) (w : World) (a00 : 0 ≤ a0) (a01 : a0 ≤ 255) (a10 : 0 ≤ a1) (a11 : a1 ≤ 65535) (a20 : 0 ≤ a2) (a21 : a2 ≤ 65535) (hk : a0 % 6 = 3) :
    Calls Try.prog 7 #[.int .u8 a0, .int .u16 a1, .int .u16 a2] w fun e w' => e = .returned (.bool true) ∧ Below w.heap.size w w' := by
  go_enter Try.func7, Try.ntmps7
  go_wp2_with fail
  refine (awake9 _).mono ?_
  rintro e w1 ⟨rfl, hb1⟩
  have H1 := Lib.hid hb1
  clear hb1
  go_wp2_with fail
  generalize hw2 : w1.alloc _ = w2
  have H2 := Lib.hid (show Below w.heap.size w w2 by rw [← hw2]; exact H1.out.alloc H1.out.size _)
  clear hw2 H1
  refine (deg10 _ _ (by omega) (by omega)).mono ?_
  rintro e w' ⟨rfl, rfl⟩
  rw [show ((M.blen (19 : Int).toNat : Int) - 1) = 4 by decide +kernel]
  go_wp2_with fail
  have x0 : 0 ≤ a1 % 16 := by omega
  have x1 : a1 % 16 < 16 := by omega
  have y0 : 0 ≤ a2 % 16 := by omega
  have y1 : a2 % 16 < 16 := by omega
  generalize a1 % 16 = x at *
  generalize a2 % 16 = y at *
  clear hk a10 a11 a20 a21
  refine (mulmod16 _ _ _ _ x0 (by omega) y0 (by omega) (by omega) (by omega)).mono ?_
  rintro e w3 ⟨rfl, hb3⟩
  have H3 := Lib.hid (below_trans_at H2.out hb3)
  clear hb3 H2
  rw [show (19 : Int).toNat = 19 from rfl]
  by_cases hx : x = 0
  · have dx : (x == 0) = true := by rw [beq_iff_eq]; exact hx
    have dm : ((M.md (M.mul x.toNat y.toNat) 19 : Int) == 0) = true := by rw [hx, show (0 : Int).toNat = 0 from rfl, M.zero_mul, M.md_zero]; rfl
    clear hx
    generalize M.md (M.mul x.toNat y.toNat) 19 = m at *
    go_wp2_with fail
    go_ret
    exact ⟨rfl, H3.out⟩
  · have dx : (x == 0) = false := by rw [beq_eq_false_iff_ne]; exact hx
    have hf : M.pw x.toNat 19 (2 ^ 4 - 1) = 1 := M.fermat19 (by omega) (by omega)
    by_cases hy : y = 0
    · have dy : (y == 0) = true := by rw [beq_iff_eq]; exact hy
      have dm : ((M.md (M.mul x.toNat y.toNat) 19 : Int) == 0) = true := by rw [hy, show (0 : Int).toNat = 0 from rfl, M.mul_zero, M.md_zero]; rfl
      clear hx hy
      have HF := Lib.hid hf
      clear hf
      generalize M.md (M.mul x.toNat y.toNat) 19 = m at *
      go_wp2_with fail
      refine (rpow22 _ _ _ _ x0 (by omega) (by omega) (by omega) (by omega) (by omega)).mono ?_
      rintro e w' ⟨rfl, rfl⟩
      rw [show M.pw x.toNat (19 : Int).toNat (15 : Int).toNat = 1 from HF.out]
      go_wp2_with fail
      go_ret
      exact ⟨rfl, H3.out⟩
    · have dy : (y == 0) = false := by rw [beq_eq_false_iff_ne]; exact hy
      have hn : M.md (M.mul x.toNat y.toNat) 19 ≠ 0 := M.zero19 (by omega) (by omega) (by omega) (by omega)
      have dm : ((M.md (M.mul x.toNat y.toNat) 19 : Int) == 0) = false := by rw [beq_eq_false_iff_ne]; omega
      clear hx hy hn
      have HF := Lib.hid hf
      clear hf
      generalize M.md (M.mul x.toNat y.toNat) 19 = m at *
      go_wp2_with fail
      refine (rpow22 _ _ _ _ x0 (by omega) (by omega) (by omega) (by omega) (by omega)).mono ?_
      rintro e w' ⟨rfl, rfl⟩
      rw [show M.pw x.toNat (19 : Int).toNat (15 : Int).toNat = 1 from HF.out]
      go_wp2_with fail
      go_ret
      exact ⟨rfl, H3.out⟩

set_option maxHeartbeats 1000000 in
theorem pf4 (a0 a1 a2 : Int) (w : World) (a00 : 0 ≤ a0) (a01 : a0 ≤ 255) (a10 : 0 ≤ a1) (a11 : a1 ≤ 65535) (a20 : 0 ≤ a2) (a21 : a2 ≤ 65535) (hk : a0 % 6 = 4) :
    Calls Try.prog 7 #[.int .u8 a0, .int .u16 a1, .int .u16 a2] w fun e w' => e = .returned (.bool true) ∧ Below w.heap.size w w' := by
  go_enter Try.func7, Try.ntmps7
  go_wp2_with fail
  refine (awake9 _).mono ?_
  rintro e w1 ⟨rfl, hb1⟩
  have H1 := Lib.hid hb1
  clear hb1
  go_wp2_with fail
  generalize hw2 : w1.alloc _ = w2
  have H2 := Lib.hid (show Below w.heap.size w w2 by rw [← hw2]; exact H1.out.alloc H1.out.size _)
  clear hw2 H1
  refine (deg10 _ _ (by omega) (by omega)).mono ?_
  rintro e w' ⟨rfl, rfl⟩
  rw [show ((M.blen (7 : Int).toNat : Int) - 1) = 2 by decide +kernel]
  go_wp2_with fail
  have x0 : 0 ≤ a1 % 4 := by omega
  have x1 : a1 % 4 < 4 := by omega
  have y0 : 0 ≤ a2 % 4 := by omega
  have y1 : a2 % 4 < 4 := by omega
  generalize a1 % 4 = x at *
  generalize a2 % 4 = y at *
  clear hk a10 a11 a20 a21
  refine (mulmod16 _ _ _ _ x0 (by omega) y0 (by omega) (by omega) (by omega)).mono ?_
  rintro e w3 ⟨rfl, hb3⟩
  have H3 := Lib.hid (below_trans_at H2.out hb3)
  clear hb3 H2
  rw [show (7 : Int).toNat = 7 from rfl]
  by_cases hx : x = 0
  · have dx : (x == 0) = true := by rw [beq_iff_eq]; exact hx
    have dm : ((M.md (M.mul x.toNat y.toNat) 7 : Int) == 0) = true := by rw [hx, show (0 : Int).toNat = 0 from rfl, M.zero_mul, M.md_zero]; rfl
    clear hx
    generalize M.md (M.mul x.toNat y.toNat) 7 = m at *
    go_wp2_with fail
    go_ret
    exact ⟨rfl, H3.out⟩
  · have dx : (x == 0) = false := by rw [beq_eq_false_iff_ne]; exact hx
    have hf : M.pw x.toNat 7 (2 ^ 2 - 1) = 1 := M.fermat7 (by omega) (by omega)
    by_cases hy : y = 0
    · have dy : (y == 0) = true := by rw [beq_iff_eq]; exact hy
      have dm : ((M.md (M.mul x.toNat y.toNat) 7 : Int) == 0) = true := by rw [hy, show (0 : Int).toNat = 0 from rfl, M.mul_zero, M.md_zero]; rfl
      clear hx hy
      have HF := Lib.hid hf
      clear hf
      generalize M.md (M.mul x.toNat y.toNat) 7 = m at *
      go_wp2_with fail
      refine (rpow22 _ _ _ _ x0 (by omega) (by omega) (by omega) (by omega) (by omega)).mono ?_
      rintro e w' ⟨rfl, rfl⟩
      rw [show M.pw x.toNat (7 : Int).toNat (3 : Int).toNat = 1 from HF.out]
      go_wp2_with fail
      go_ret
      exact ⟨rfl, H3.out⟩
    · have dy : (y == 0) = false := by rw [beq_eq_false_iff_ne]; exact hy
      have hn : M.md (M.mul x.toNat y.toNat) 7 ≠ 0 := M.zero7 (by omega) (by omega) (by omega) (by omega)
      have dm : ((M.md (M.mul x.toNat y.toNat) 7 : Int) == 0) = false := by rw [beq_eq_false_iff_ne]; omega
      clear hx hy hn
      have HF := Lib.hid hf
      clear hf
      generalize M.md (M.mul x.toNat y.toNat) 7 = m at *
      go_wp2_with fail
      refine (rpow22 _ _ _ _ x0 (by omega) (by omega) (by omega) (by omega) (by omega)).mono ?_
      rintro e w' ⟨rfl, rfl⟩
      rw [show M.pw x.toNat (7 : Int).toNat (3 : Int).toNat = 1 from HF.out]
      go_wp2_with fail
      go_ret
      exact ⟨rfl, H3.out⟩

set_option maxHeartbeats 1000000 in
theorem pf5 (a0 a1 a2 : Int) (w : World) (a00 : 0 ≤ a0) (a01 : a0 ≤ 255) (a10 : 0 ≤ a1) (a11 : a1 ≤ 65535) (a20 : 0 ≤ a2) (a21 : a2 ≤ 65535) (hk : a0 % 6 = 5) :
    Calls Try.prog 7 #[.int .u8 a0, .int .u16 a1, .int .u16 a2] w fun e w' => e = .returned (.bool true) ∧ Below w.heap.size w w' := by
  go_enter Try.func7, Try.ntmps7
  go_wp2_with fail
  refine (awake9 _).mono ?_
  rintro e w1 ⟨rfl, hb1⟩
  have H1 := Lib.hid hb1
  clear hb1
  go_wp2_with fail
  generalize hw2 : w1.alloc _ = w2
  have H2 := Lib.hid (show Below w.heap.size w w2 by rw [← hw2]; exact H1.out.alloc H1.out.size _)
  clear hw2 H1
  refine (deg10 _ _ (by omega) (by omega)).mono ?_
  rintro e w' ⟨rfl, rfl⟩
  rw [show ((M.blen (299 : Int).toNat : Int) - 1) = 8 by decide +kernel]
  go_wp2_with fail
  have x0 : 0 ≤ a1 % 256 := by omega
  have x1 : a1 % 256 < 256 := by omega
  have y0 : 0 ≤ a2 % 256 := by omega
  have y1 : a2 % 256 < 256 := by omega
  generalize a1 % 256 = x at *
  generalize a2 % 256 = y at *
  clear hk a10 a11 a20 a21
  refine (mulmod16 _ _ _ _ x0 (by omega) y0 (by omega) (by omega) (by omega)).mono ?_
  rintro e w3 ⟨rfl, hb3⟩
  have H3 := Lib.hid (below_trans_at H2.out hb3)
  clear hb3 H2
  rw [show (299 : Int).toNat = 299 from rfl]
  by_cases hx : x = 0
  · have dx : (x == 0) = true := by rw [beq_iff_eq]; exact hx
    have dm : ((M.md (M.mul x.toNat y.toNat) 299 : Int) == 0) = true := by rw [hx, show (0 : Int).toNat = 0 from rfl, M.zero_mul, M.md_zero]; rfl
    clear hx
    generalize M.md (M.mul x.toNat y.toNat) 299 = m at *
    go_wp2_with fail
    go_ret
    exact ⟨rfl, H3.out⟩
  · have dx : (x == 0) = false := by rw [beq_eq_false_iff_ne]; exact hx
    have hf : M.pw x.toNat 299 (2 ^ 8 - 1) = 1 := M.fermat299 (by omega) (by omega)
    by_cases hy : y = 0
    · have dy : (y == 0) = true := by rw [beq_iff_eq]; exact hy
      have dm : ((M.md (M.mul x.toNat y.toNat) 299 : Int) == 0) = true := by rw [hy, show (0 : Int).toNat = 0 from rfl, M.mul_zero, M.md_zero]; rfl
      clear hx hy
      have HF := Lib.hid hf
      clear hf
      generalize M.md (M.mul x.toNat y.toNat) 299 = m at *
      go_wp2_with fail
      refine (rpow22 _ _ _ _ x0 (by omega) (by omega) (by omega) (by omega) (by omega)).mono ?_
      rintro e w' ⟨rfl, rfl⟩
      rw [show M.pw x.toNat (299 : Int).toNat (255 : Int).toNat = 1 from HF.out]
      go_wp2_with fail
      go_ret
      exact ⟨rfl, H3.out⟩
    · have dy : (y == 0) = false := by rw [beq_eq_false_iff_ne]; exact hy
      have hn : M.md (M.mul x.toNat y.toNat) 299 ≠ 0 := M.zero299 (by omega) (by omega) (by omega) (by omega)
      have dm : ((M.md (M.mul x.toNat y.toNat) 299 : Int) == 0) = false := by rw [beq_eq_false_iff_ne]; omega
      clear hx hy hn
      have HF := Lib.hid hf
      clear hf
      generalize M.md (M.mul x.toNat y.toNat) 299 = m at *
      go_wp2_with fail
      refine (rpow22 _ _ _ _ x0 (by omega) (by omega) (by omega) (by omega) (by omega)).mono ?_
      rintro e w' ⟨rfl, rfl⟩
      rw [show M.pw x.toNat (299 : Int).toNat (255 : Int).toNat = 1 from HF.out]
      go_wp2_with fail
      go_ret
      exact ⟨rfl, H3.out⟩

end Go.Proofs.Ytaofcngdpceklaa
