/- Contracts of the field's Pow, and of New. Contracts of the document's own answers for layer 2. Contracts of the laws' own first test of layer 2, and of how they choose a field. -/
import Derived.Test.YtgdgimknnjbieaaGreatDoorGxd
import Derived.Test.YtgdgimknnjbieaaGreatDoorGxb
import Derived.Test.YtgdgimknnjbieaaGreatDoorGxc

namespace Go.Proofs.YtgdgimknnjbieaaGreatDoor
open Go.RowKit

theorem fpow_lg {p : Nat} (h : M.Prim p) {a n : Int} (a0 : 1 ≤ a) (a1 : a ≤ M.ord p) (n0 : 0 ≤ n) : fpow p a n = (M.ex p ((M.lg p a.toNat : Int) * (n % (M.ord p : Int))) : Nat) := by
  unfold fpow
  rw [inB_iff.2 ⟨by omega, a1⟩, decide_eq_true n0]
  rw [Bool.and_self, if_pos rfl]
  obtain ⟨N, rfl⟩ := Int.eq_ofNat_of_zero_le n0
  rw [Int.toNat_natCast, M.pw_lg h (a := a.toNat) (by omega) (by omega), ← Int.natCast_emod, ← Int.natCast_mul, M.ex_nat h]
  rw [← M.pw_modord h (M.lg p a.toNat * N), ← M.pw_modord h (M.lg p a.toNat * (N % M.ord p)), Nat.mul_mod_mod]

theorem fpow_out {p : Nat} {a n : Int} (h : (a < 0 ∨ M.ord p < a) ∨ n < 0) : fpow p a n = 0 := by
  unfold fpow
  split
  · rename_i hh
    rw [Bool.and_eq_true, inB_iff, decide_eq_true_eq] at hh
    omega
  · rfl
theorem fpow_one {p : Nat} (h : M.Prim p) {a : Int} (a0 : 0 ≤ a) (a1 : a ≤ M.ord p) : fpow p a 0 = 1 := by
  unfold fpow
  rw [inB_iff.2 ⟨a0, a1⟩]
  show ((M.pw a.toNat p 0 : Nat) : Int) = 1
  rw [M.pw, M.md_one (M.irr_blen h.1).1]; rfl
theorem fpow_zero {p : Nat} {n : Int} (n0 : 1 ≤ n) : fpow p 0 n = 0 := by
  unfold fpow
  split
  · obtain ⟨N, hN⟩ : ∃ N, n.toNat = N + 1 := ⟨n.toNat - 1, by omega⟩
    rw [hN, show (0 : Int).toNat = 0 from rfl, M.pw_succ_zero]; rfl
  · rfl

set_option maxRecDepth 100000 in
set_option maxHeartbeats 1000000 in
/-- Pow, of any numbers -/
theorem fpow21 (p b wd : Nat) (x n : Int) (n63 : n ≤ 9223372036854775807) (w : World) (h : Fld p b wd w) :
    Calls Tryz.prog 130 #[.pointer (some ⟨b, 0, none⟩), .int .i64 x, .int .i64 n] w (Ans p b wd w (.int .i64 (fpow p x n))) := by
  have hg := h.1
  have hk := hg.kind
  have kb := hg.bounds
  have hc0 := h.c0
  by_cases hx : x < 0 ∨ M.ord p < x
  · rw [fpow_out (Or.inl hx)]
    have HX := Lib.hid hx
    have HP := Lib.hid (ans_still h (.int .i64 0))
    clear h hx
    go_enter Tryz.func130, Tryz.ntmps130
    go_wp2_with fail
    refine (has_no b wd _ hk x HX.out _ hc0).mono ?_
    rintro e w' ⟨rfl, rfl⟩
    go_wp2_with fail
    go_ret
    exact HP.out
  · have x0 : 0 ≤ x := by omega
    have x1 : x ≤ M.ord p := by omega
    have X1 := Lib.hid x1
    clear hx
    by_cases hn : n < 0
    · rw [fpow_out (Or.inr hn)]
      have HP := Lib.hid (ans_still h (.int .i64 0))
      clear h x1
      have hd : decide (n < 0) = true := by simpa using hn
      go_enter Tryz.func130, Tryz.ntmps130
      go_wp2_with fail
      refine (has_yes b wd _ hk x x0 X1.out _ hc0).mono ?_
      rintro e w' ⟨rfl, rfl⟩
      go_wp2_with fail
      go_ret
      exact HP.out
    · have hd : decide (n < 0) = false := by simpa using hn
      by_cases hz : n = 0
      · subst hz
        rw [fpow_one hg.prim x0 x1]
        have HP := Lib.hid (ans_still h (.int .i64 1))
        clear h x1
        go_enter Tryz.func130, Tryz.ntmps130
        go_wp2_with fail
        refine (has_yes b wd _ hk x x0 X1.out _ hc0).mono ?_
        rintro e w' ⟨rfl, rfl⟩
        go_wp2_with fail
        go_ret
        exact HP.out
      · have n0 : 1 ≤ n := by omega
        have hz' : (n == 0) = false := by simpa using hz
        by_cases hx0 : x = 0
        · subst hx0
          rw [fpow_zero n0]
          have HP := Lib.hid (ans_still h (.int .i64 0))
          clear h x1 hz hn
          go_enter Tryz.func130, Tryz.ntmps130
          go_wp2_with fail
          refine (has_yes b wd _ hk 0 x0 X1.out _ hc0).mono ?_
          rintro e w' ⟨rfl, rfl⟩
          go_wp2_with fail
          refine (log_zero _ _).mono ?_
          rintro e w' ⟨rfl, rfl⟩
          go_wp2_with fail
          go_ret
          exact HP.out
        · rw [fpow_lg hg.prim (by omega) x1 (by omega)]
          have hl := M.lg_lt p x.toNat
          have HH := Lib.hid h
          have hx1 : 1 ≤ x := by omega
          clear h x1 hz hn hx0
          obtain ⟨c, hc⟩ : ∃ c, M.ord p = c := ⟨_, rfl⟩
          rw [hc] at hk kb hl ⊢
          have HC := Lib.hid hc
          clear hc
          obtain ⟨i, hi⟩ : ∃ i, M.lg p x.toNat = i := ⟨_, rfl⟩
          rw [hi] at hl ⊢
          have HI := Lib.hid hi
          clear hi
          have hzc : ((c : Int) == 0) = false := by simp; omega
          have e1 := Int.emod_nonneg n (show (c : Int) ≠ 0 by omega)
          have e2 := Int.emod_lt_of_pos n (show (0 : Int) < c by omega)
          have m1 : 0 ≤ (i : Int) * (n % c) := Int.mul_nonneg (by omega) e1
          have m2 : (i : Int) * (n % c) ≤ 65535 * 65535 := Int.mul_le_mul (by omega) (by omega) e1 (by omega)
          go_enter Tryz.func130, Tryz.ntmps130
          go_wp2_with fail
          refine (has_yes b wd c hk x x0 (by rw [← HC.out]; exact X1.out) _ hc0).mono ?_
          rintro e w' ⟨rfl, rfl⟩
          go_wp2_with fail
          refine (log_yes p b wd x hx1 X1.out _ HH.out).mono ?_
          rintro e w1 ⟨rfl, h1, t1⟩
          rw [HI.out]
          have hc1 := h1.c0
          have H1 := Lib.hid h1
          have HT1 := Lib.hid t1
          clear h1 t1
          go_wp2_with fail
          refine (units35 b wd c hk _ hc1).mono ?_
          rintro e w' ⟨rfl, rfl⟩
          go_wp2_with fail
          refine (exp25 p b wd _ _ H1.out).mono ?_
          rintro e w3 ⟨rfl, h3, t3⟩
          have HP := Lib.hid (show Ans p b wd w (.int .i64 (M.ex p ((i : Int) * (n % (c : Int))))) (.returned (.int .i64 (M.ex p ((i : Int) * (n % (c : Int)))))) w3 from ⟨rfl, h3, HT1.out.trans t3⟩)
          clear h3 t3
          go_wp2_with fail
          go_ret
          exact HP.out

/-- a new field is made -/
def NewSaid (p wd : Nat) (w : World) (e : Ending) (w' : World) : Prop :=
  ∃ b, e = .returned (.pointer (some ⟨b, 0, none⟩)) ∧ Fld p b wd w' ∧ w.heap.size ≤ b ∧ Below w.heap.size w w'

theorem newRaw (p wd : Nat) (w : World) : Raw p w.heap.size wd (w.alloc (.cells #[.int .i64 wd, .int .u32 p, .int .u32 0, .int .i32 0, .int .u32 0, .slice none 0 0, .slice none 0 0] TF)) :=
  World.rowIs_alloc w #[.int .i64 wd, .int .u32 p, .int .u32 0, .int .i32 0, .int .u32 0, .slice none 0 0, .slice none 0 0] TF _ (fun i hi => by
    match i, hi with
    | 0, _ => rfl
    | 1, _ => rfl
    | 2, _ => rfl
    | 3, _ => rfl
    | 4, _ => rfl
    | 5, _ => rfl
    | 6, _ => rfl)

set_option maxRecDepth 100000 in
set_option maxHeartbeats 1000000 in
theorem new_yes (p wd : Nat) (hg : Good p wd) (w : World) :
    Calls Tryz.prog 61 #[.int .i64 wd, .int .u32 p] w (NewSaid p wd w) := by
  have hs := hg.small
  have HD := Lib.hid (show (M.blen ((p : Int).toNat) : Int) - 1 = wd by rw [Int.toNat_natCast, hg.len]; omega)
  have HPr := Lib.hid hg.prim
  have hw : wd = 8 ∨ wd = 16 := by rcases hg.kind with h | h <;> omega
  have HG := Lib.hid hg
  clear hg
  rcases hw with rfl | rfl
  all_goals
    go_enter Tryz.func61, Tryz.ntmps61
    go_wp2_with fail
    refine (deg10 _ _ (by omega) (by omega)).mono ?_
    rintro e w' ⟨rfl, rfl⟩
    rw [HD.out]
    go_wp2_with fail
    refine (prim20 _ _ (by omega) (by omega)).mono ?_
    rintro e w1 ⟨t, rfl, ht, hb⟩
    obtain rfl : t = true := ht.2 (by rw [Int.toNat_natCast]; exact HPr.out)
    have HB := Lib.hid hb
    clear ht hb
    go_wp2_with fail
    go_ret
    first
      | exact ⟨_, rfl, ⟨HG.out, Or.inl (newRaw p 8 w1)⟩, HB.out.size, HB.out.alloc HB.out.size _⟩
      | exact ⟨_, rfl, ⟨HG.out, Or.inl (newRaw p 16 w1)⟩, HB.out.size, HB.out.alloc HB.out.size _⟩

/-- what a field must be made of -/
def Fits (v p : Int) : Prop := (v = 8 ∨ v = 16) ∧ (M.blen p.toNat : Int) - 1 = v ∧ M.Prim p.toNat

end Go.Proofs.YtgdgimknnjbieaaGreatDoor

namespace Go.Proofs.YtgdgimknnjbieaaGreatDoor
open Go.RowKit

set_option maxRecDepth 100000 in
set_option maxHeartbeats 1000000 in
theorem rsize33_pow (n : Nat) (w : World) (h1 : n ≤ 16) :
    Calls Tryz.prog 136 #[.int .i64 n] w fun e w' => e = .returned (.int .i64 ((2 ^ n : Nat) : Int)) ∧ w = w' := by
  go_enter Tryz.func136, Tryz.ntmps136
  go_wp2_with fail
  go_loop [3, 4] (fun x i => ∃ k : Nat, k ≤ n ∧ i = .int .i64 k ∧ x = .int .i64 ((2 ^ k : Nat) : Int)) (fun _ i => n - (intOf i).toNat)
  case atStart => exact ⟨0, by omega, rfl, rfl⟩
  case round =>
    obtain ⟨k, hk, rfl, rfl⟩ := hrel
    by_cases hlt : k < n
    · have hb : 2 ^ k ≤ 2 ^ 16 := Nat.pow_le_pow_right (by decide) (by omega)
      have HP := Lib.hid (show (2 * ((2 ^ k : Nat) : Int)) = ((2 ^ (k + 1) : Nat) : Int) by rw [Nat.pow_succ]; omega)
      generalize 2 ^ k = y at *
      go_wp2_with fail
      exact ⟨⟨k + 1, by omega, by go_num, by rw [HP.out]⟩, by simp [intOf]; omega⟩
    · go_wp2_with fail
      go_ret
      obtain rfl : k = n := by omega
      exact ⟨rfl, rfl⟩

theorem rsize33 (wd c : Nat) (hk : Kind wd c) (w : World) :
    Calls Tryz.prog 136 #[.int .i64 wd] w fun e w' => e = .returned (.int .i64 ((c : Int) + 1)) ∧ w = w' := by
  refine (rsize33_pow wd w hk.bounds.2.1).mono ?_
  rintro e w' ⟨rfl, rfl⟩
  rcases hk with ⟨rfl, rfl⟩ | ⟨rfl, rfl⟩ <;> exact ⟨rfl, rfl⟩

set_option maxRecDepth 100000 in
theorem rin32 (wd c : Nat) (hk : Kind wd c) (a : Int) (w : World) :
    Calls Tryz.prog 88 #[.int .i64 wd, .int .i64 a] w fun e w' => e = .returned (.bool (inB c a)) ∧ w = w' := by
  by_cases h0 : 0 ≤ a
  · have hd : inB c a = decide (a < (c : Int) + 1) := by
      unfold inB
      simp only [decide_eq_decide]
      omega
    rw [hd]
    clear hd
    go_enter Tryz.func88, Tryz.ntmps88
    go_wp2_with fail
    refine (rsize33 wd c hk _).mono ?_
    rintro e w' ⟨rfl, rfl⟩
    go_wp2_with fail
    go_ret
    exact ⟨rfl, rfl⟩
  · have hd : decide (0 ≤ a) = false := by simpa using h0
    rw [inB_false.2 (by omega)]
    go_enter Tryz.func88, Tryz.ntmps88
    go_wp2_with fail
    go_ret
    exact ⟨rfl, rfl⟩

set_option maxRecDepth 100000 in
set_option maxHeartbeats 1000000 in
theorem rmul20 (p wd : Nat) (hg : Good p wd) (a b : Int) (w : World) :
    Calls Tryz.prog 89 #[.int .i64 wd, .int .u32 p, .int .i64 a, .int .i64 b] w fun e w' => e = .returned (.int .i64 (fmul p a b)) ∧ w = w' := by
  have hk := hg.kind
  have kb := hg.bounds
  have hs := hg.small
  have hf : fmul p a b = if inB (M.ord p) a && inB (M.ord p) b then ((M.md (M.mul a.toNat b.toNat) p : Nat) : Int) else 0 := rfl
  rw [hf]
  clear hf
  have HG := Lib.hid hg
  clear hg
  cases ha : inB (M.ord p) a
  · have HA := Lib.hid ha
    clear ha
    go_enter Tryz.func89, Tryz.ntmps89
    go_wp2_with fail
    refine (rin32 wd _ hk a _).mono ?_
    rintro e w' ⟨rfl, rfl⟩
    rw [HA.out]
    go_wp2_with fail
    go_ret
    exact ⟨rfl, rfl⟩
  · have HA := Lib.hid ha
    have a1 := inB_iff.1 ha
    clear ha
    cases hb : inB (M.ord p) b
    · have HB := Lib.hid hb
      clear hb
      go_enter Tryz.func89, Tryz.ntmps89
      go_wp2_with fail
      refine (rin32 wd _ hk a _).mono ?_
      rintro e w' ⟨rfl, rfl⟩
      rw [HA.out]
      go_wp2_with fail
      refine (rin32 wd _ hk b _).mono ?_
      rintro e w' ⟨rfl, rfl⟩
      rw [HB.out]
      go_wp2_with fail
      go_ret
      exact ⟨rfl, rfl⟩
    · have HB := Lib.hid hb
      have b1 := inB_iff.1 hb
      clear hb
      have hmd := M.md_in HG.out.prim.1 (M.mul a.toNat b.toNat)
      go_enter Tryz.func89, Tryz.ntmps89
      go_wp2_with fail
      refine (rin32 wd _ hk a _).mono ?_
      rintro e w' ⟨rfl, rfl⟩
      rw [HA.out]
      go_wp2_with fail
      refine (rin32 wd _ hk b _).mono ?_
      rintro e w' ⟨rfl, rfl⟩
      rw [HB.out]
      have a2 : a ≤ 4294967295 := by omega
      have a3 : 0 ≤ a := a1.1
      have b2 : b ≤ 4294967295 := by omega
      have b3 : 0 ≤ b := b1.1
      go_wp2_with fail
      refine (rmulmod17 _ _ _ _ a3 a2 b3 b2 (by omega) (by omega)).mono ?_
      rintro e w' ⟨rfl, rfl⟩
      rw [Int.toNat_natCast]
      go_wp2_with fail
      go_ret
      exact ⟨rfl, rfl⟩

set_option maxRecDepth 100000 in
set_option maxHeartbeats 1000000 in
theorem rpow22g (p wd : Nat) (hg : Good p wd) (a n : Int) (n63 : n ≤ 9223372036854775807) (w : World) :
    Calls Tryz.prog 155 #[.int .i64 wd, .int .u32 p, .int .i64 a, .int .i64 n] w fun e w' => e = .returned (.int .i64 (fpow p a n)) ∧ w = w' := by
  have hk := hg.kind
  have kb := hg.bounds
  have hs := hg.small
  cases ha : inB (M.ord p) a
  · rw [fpow_out (Or.inl (by have := inB_false.1 ha; omega))]
    have HA := Lib.hid ha
    clear ha
    go_enter Tryz.func155, Tryz.ntmps155
    go_wp2_with fail
    refine (rin32 wd _ hk a _).mono ?_
    rintro e w' ⟨rfl, rfl⟩
    rw [HA.out]
    go_wp2_with fail
    go_ret
    exact ⟨rfl, rfl⟩
  · have HA := Lib.hid ha
    have a1 := inB_iff.1 ha
    by_cases hn : n < 0
    · rw [fpow_out (Or.inr hn)]
      clear ha
      have hd : decide (n < 0) = true := by simpa using hn
      go_enter Tryz.func155, Tryz.ntmps155
      go_wp2_with fail
      refine (rin32 wd _ hk a _).mono ?_
      rintro e w' ⟨rfl, rfl⟩
      rw [HA.out]
      go_wp2_with fail
      go_ret
      exact ⟨rfl, rfl⟩
    · have hf : fpow p a n = (M.pw a.toNat p n.toNat : Nat) := by
        unfold fpow
        rw [ha, decide_eq_true (show 0 ≤ n by omega)]; rfl
      rw [hf]
      clear ha hf
      have hd : decide (n < 0) = false := by simpa using hn
      have hpl := M.pw_le hg.prim.1 a.toNat n.toNat
      have a2 : a ≤ 4294967295 := by omega
      have a3 : 0 ≤ a := a1.1
      have n0 : 0 ≤ n := by omega
      go_enter Tryz.func155, Tryz.ntmps155
      go_wp2_with fail
      refine (rin32 wd _ hk a _).mono ?_
      rintro e w' ⟨rfl, rfl⟩
      rw [HA.out]
      go_wp2_with fail
      refine (rpow22 _ _ _ _ a3 a2 n0 (by omega) (by omega) (by omega)).mono ?_
      rintro e w' ⟨rfl, rfl⟩
      rw [Int.toNat_natCast]
      go_wp2_with fail
      go_ret
      exact ⟨rfl, rfl⟩

theorem inv_pow {p : Nat} {a : Int} (h : M.irr p = true) (a0 : 0 ≤ a) (a1 : a ≤ M.ord p) : fpow p a ((M.ord p : Int) - 1) = (M.inv p a.toNat : Nat) := by
  have := M.ord_pos h
  unfold fpow M.inv
  rw [inB_iff.2 ⟨a0, a1⟩, decide_eq_true (show 0 ≤ (M.ord p : Int) - 1 by omega), show ((M.ord p : Int) - 1).toNat = M.ord p - 1 by omega]; rfl

set_option maxRecDepth 100000 in
set_option maxHeartbeats 1000000 in
theorem rinv19 (p wd : Nat) (hg : Good p wd) (a : Int) (w : World) :
    Calls Tryz.prog 114 #[.int .i64 wd, .int .u32 p, .int .i64 a] w fun e w' => e = .returned (finv p a) ∧ w = w' := by
  have hk := hg.kind
  have kb := hg.bounds
  cases ha : inB (M.ord p) a
  · rw [finv_no (by have := inB_false.1 ha; omega)]
    have HA := Lib.hid ha
    clear ha
    go_enter Tryz.func114, Tryz.ntmps114
    go_wp2_with fail
    refine (rin32 wd _ hk a _).mono ?_
    rintro e w' ⟨rfl, rfl⟩
    rw [HA.out]
    go_wp2_with fail
    go_ret2
    exact ⟨rfl, rfl⟩
  · have HA := Lib.hid ha
    have a1 := inB_iff.1 ha
    clear ha
    by_cases hz : a = 0
    · subst hz
      rw [finv_no (by omega)]
      go_enter Tryz.func114, Tryz.ntmps114
      go_wp2_with fail
      refine (rin32 wd _ hk 0 _).mono ?_
      rintro e w' ⟨rfl, rfl⟩
      rw [HA.out]
      go_wp2_with fail
      go_ret2
      exact ⟨rfl, rfl⟩
    · rw [finv_yes (by omega) a1.2, ← inv_pow hg.prim.1 a1.1 a1.2]
      have hz' : (a == 0) = false := by simpa using hz
      obtain ⟨c, hc⟩ : ∃ c, M.ord p = c := ⟨_, rfl⟩
      rw [hc] at hk kb HA ⊢
      have HC := Lib.hid hc
      clear hc
      go_enter Tryz.func114, Tryz.ntmps114
      go_wp2_with fail
      refine (rin32 wd _ hk a _).mono ?_
      rintro e w' ⟨rfl, rfl⟩
      rw [HA.out]
      go_wp2_with fail
      refine (rsize33 wd c hk _).mono ?_
      rintro e w' ⟨rfl, rfl⟩
      go_wp2_with fail
      rw [show (c : Int) + 1 - 2 = (c : Int) - 1 by omega]
      refine (rpow22g p wd hg a _ (by omega) _).mono ?_
      rintro e w' ⟨rfl, rfl⟩
      go_wp2_with fail
      go_ret2
      exact ⟨rfl, rfl⟩

set_option maxRecDepth 100000 in
set_option maxHeartbeats 1000000 in
theorem rdiv17 (p wd : Nat) (hg : Good p wd) (x y : Int) (w : World) :
    Calls Tryz.prog 154 #[.int .i64 wd, .int .u32 p, .int .i64 x, .int .i64 y] w fun e w' => e = .returned (fdiv p x y) ∧ w = w' := by
  have hk := hg.kind
  have kb := hg.bounds
  by_cases hy : y < 1 ∨ M.ord p < y
  · rw [fdiv_no (Or.inr hy)]
    have HI := Lib.hid (finv_no hy)
    clear hy
    go_enter Tryz.func154, Tryz.ntmps154
    go_wp2_with fail
    refine (rinv19 p wd hg y _).mono ?_
    rintro e w' ⟨rfl, rfl⟩
    rw [HI.out]
    go_wp2_with fail
    go_ret2
    exact ⟨rfl, rfl⟩
  · have y0 : 1 ≤ y := by omega
    have y1 : y ≤ M.ord p := by omega
    have HI := Lib.hid (finv_yes y0 y1)
    have hir := M.inv_range hg.prim (a := y.toNat) (by omega) (by omega)
    cases hx : inB (M.ord p) x
    · rw [fdiv_no (Or.inl (by have := inB_false.1 hx; omega))]
      have HX := Lib.hid hx
      clear hy hx
      go_enter Tryz.func154, Tryz.ntmps154
      go_wp2_with fail
      refine (rinv19 p wd hg y _).mono ?_
      rintro e w' ⟨rfl, rfl⟩
      rw [HI.out]
      go_wp2_with fail
      refine (rin32 wd _ hk x _).mono ?_
      rintro e w' ⟨rfl, rfl⟩
      rw [HX.out]
      go_wp2_with fail
      go_ret2
      exact ⟨rfl, rfl⟩
    · have x1 := inB_iff.1 hx
      have HX := Lib.hid hx
      rw [fdiv_yes x1.1 x1.2 y0 y1]
      have hm := fmul_in (p := p) (a := x) (b := (M.inv p y.toNat : Nat)) x1.1 x1.2 (by omega) (by omega)
      rw [Int.toNat_natCast] at hm
      rw [← hm]
      clear hy hx hm
      obtain ⟨i, hi⟩ : ∃ i, M.inv p y.toNat = i := ⟨_, rfl⟩
      rw [hi] at HI hir ⊢
      clear hi
      go_enter Tryz.func154, Tryz.ntmps154
      go_wp2_with fail
      refine (rinv19 p wd hg y _).mono ?_
      rintro e w' ⟨rfl, rfl⟩
      rw [HI.out]
      go_wp2_with fail
      refine (rin32 wd _ hk x _).mono ?_
      rintro e w' ⟨rfl, rfl⟩
      rw [HX.out]
      go_wp2_with fail
      refine (rmul20 p wd hg x _ _).mono ?_
      rintro e w' ⟨rfl, rfl⟩
      go_wp2_with fail
      go_ret2
      exact ⟨rfl, rfl⟩

theorem ex_pow {p : Nat} {n : Int} (hp : 2 ≤ M.ord p) : fpow p 2 (n % (M.ord p : Int)) = (M.ex p n : Nat) := by
  have h1 := Int.emod_nonneg n (show (M.ord p : Int) ≠ 0 by omega)
  unfold fpow M.ex
  rw [inB_iff.2 ⟨by omega, by omega⟩, decide_eq_true h1]; rfl

set_option maxRecDepth 100000 in
set_option maxHeartbeats 1000000 in
theorem rexp26 (p wd : Nat) (hg : Good p wd) (n : Int) (w : World) :
    Calls Tryz.prog 111 #[.int .i64 wd, .int .u32 p, .int .i64 n] w fun e w' => e = .returned (.int .i64 (M.ex p n)) ∧ w = w' := by
  have hk := hg.kind
  have kb := hg.bounds
  have HE := Lib.hid (ex_pow (p := p) (n := n) (by omega))
  obtain ⟨c, hc⟩ : ∃ c, M.ord p = c := ⟨_, rfl⟩
  rw [hc] at hk kb HE
  clear hc
  have hz2 : ((c : Int) == 0) = false := by simp; omega
  obtain ⟨t1, t2, t3, t4⟩ := tmod_emod n c (by omega)
  have T1 := Lib.hid t1
  have T2 := Lib.hid t2
  have e1 := Int.emod_nonneg n (show (c : Int) ≠ 0 by omega)
  have e2 := Int.emod_lt_of_pos n (show (0 : Int) < c by omega)
  clear t1 t2
  go_enter Tryz.func111, Tryz.ntmps111
  go_wp2_with fail
  refine (rsize33 wd c hk _).mono ?_
  rintro e w' ⟨rfl, rfl⟩
  by_cases hneg : n.tmod c < 0
  · go_wp2_with fail
    rw [T1.out hneg]
    refine (rpow22g p wd hg 2 _ (by omega) _).mono ?_
    rintro e w' ⟨rfl, rfl⟩
    rw [HE.out]
    go_wp2_with fail
    go_ret
    exact ⟨rfl, rfl⟩
  · go_wp2_with fail
    rw [T2.out (by omega)]
    refine (rpow22g p wd hg 2 _ (by omega) _).mono ?_
    rintro e w' ⟨rfl, rfl⟩
    rw [HE.out]
    go_wp2_with fail
    go_ret
    exact ⟨rfl, rfl⟩
end Go.Proofs.YtgdgimknnjbieaaGreatDoor

namespace Go.Proofs.YtgdgimknnjbieaaGreatDoor
open Go.RowKit

/-- the field is there; of what was there in w0 nothing has turned, and the field is none of it -/
def Live (p b wd : Nat) (w0 w : World) : Prop := Fld p b wd w ∧ Below w0.heap.size w0 w ∧ w0.heap.size ≤ b

theorem Live.next {p b wd : Nat} {w0 w w' : World} (h : Live p b wd w0 w) (hf : Fld p b wd w') (ht : Turned b w w') : Live p b wd w0 w' :=
  ⟨hf, h.2.1.trans (ht.below h.2.2 h.2.1.size), h.2.2⟩
theorem Live.below {p b wd : Nat} {w0 w w' : World} (h : Live p b wd w0 w) (hb : Below w.heap.size w w') : Live p b wd w0 w' :=
  ⟨h.1.of_below hb, h.2.1.trans (hb.mono h.2.1.size), h.2.2⟩
theorem Live.drew {p b wd : Nat} {w0 w : World} (h : Live p b wd w0 w) : Live p b wd w0 w.drew := h.below (Below.refl _ _).drew
theorem Live.cell {p b wd : Nat} {w0 w : World} (h : Live p b wd w0 w) {q : Addr} (hq : q.block < w0.heap.size) : w.cell? q = w0.cell? q := h.2.1.cell hq
theorem Live.start {p b wd : Nat} {w0 w w' : World} (hb : Below w0.heap.size w0 w) (hf : Fld p b wd w') (hn : w.heap.size ≤ b) (hb' : Below w.heap.size w w') : Live p b wd w0 w' :=
  ⟨hf, hb.trans (hb'.mono hb.size), Nat.le_trans hb.size hn⟩

theorem good285 : Good 285 8 := good_of M.prim285 (by decide +kernel) (Or.inl rfl)
theorem good69643 : Good 69643 16 := good_of M.prim69643 (by decide +kernel) (Or.inr rfl)
end Go.Proofs.YtgdgimknnjbieaaGreatDoor
