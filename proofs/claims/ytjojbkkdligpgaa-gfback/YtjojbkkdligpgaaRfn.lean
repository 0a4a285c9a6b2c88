/- Contracts of the document's own answers for layer 2. -/
import Derived.Test.YtjojbkkdligpgaaFpw
import Derived.Test.YtjojbkkdligpgaaReh
namespace Go.Proofs.Ytjojbkkdligpgaa
open Go.RowKit

set_option maxHeartbeats 1000000 in
theorem rsize33_pow (n : Nat) (w : World) (h1 : n ≤ 16) :
    Calls Try.prog 33 #[.int .i64 n] w fun e w' => e = .returned (.int .i64 ((2 ^ n : Nat) : Int)) ∧ w = w' := by
  go_enter Try.func33, Try.ntmps33
  go_wp2_with fail
  go_loop [3, 4] (fun x i => ∃ k : Nat, k ≤ n ∧ i = .int .i64 k ∧ x = .int .i64 ((2 ^ k : Nat) : Int)) (fun _ i => n - (intOf i).toNat)
  case atStart => exact ⟨0, by omega, rfl, rfl⟩
  case round =>
    obtain ⟨k, hk, rfl, rfl⟩ := hrel
    by_cases hlt : k < n
    · have hb : 2 ^ k ≤ 2 ^ 16 := Nat.pow_le_pow_right (by decide) (by omega)
      have HP := Lib.hid (show (2 * ((2 ^ k : Nat) : Int)) = ((2 ^ (k + 1) : Nat) : Int) by rw [Nat.pow_succ]; omega)
      generalize 2 ^ k = y at *
      go_wp2_with fail
      exact ⟨⟨k + 1, by omega, by go_num, by rw [HP.out]⟩, by simp [intOf]; omega⟩
    · go_wp2_with fail
      go_ret
      obtain rfl : k = n := by omega
      exact ⟨rfl, rfl⟩

theorem rsize33 (wd c : Nat) (hk : Kind wd c) (w : World) :
    Calls Try.prog 33 #[.int .i64 wd] w fun e w' => e = .returned (.int .i64 ((c : Int) + 1)) ∧ w = w' := by
  refine (rsize33_pow wd w hk.bounds.2.1).mono ?_
  rintro e w' ⟨rfl, rfl⟩
  rcases hk with ⟨rfl, rfl⟩ | ⟨rfl, rfl⟩ <;> exact ⟨rfl, rfl⟩

theorem rin32 (wd c : Nat) (hk : Kind wd c) (a : Int) (w : World) :
    Calls Try.prog 32 #[.int .i64 wd, .int .i64 a] w fun e w' => e = .returned (.bool (inB c a)) ∧ w = w' := by
  by_cases h0 : 0 ≤ a
  · have hd : inB c a = decide (a < (c : Int) + 1) := by
      unfold inB
      simp only [decide_eq_decide]
      omega
    rw [hd]
    clear hd
    go_enter Try.func32, Try.ntmps32
    go_wp2_with fail
    refine (rsize33 wd c hk _).mono ?_
    rintro e w' ⟨rfl, rfl⟩
    go_wp2_with fail
    go_ret
    exact ⟨rfl, rfl⟩
  · have hd : decide (0 ≤ a) = false := by simpa using h0
    rw [inB_false.2 (by omega)]
    go_enter Try.func32, Try.ntmps32
    go_wp2_with fail
    go_ret
    exact ⟨rfl, rfl⟩

set_option maxHeartbeats 1000000 in
theorem rmul20 (p wd : Nat) (hg : Good p wd) (a b : Int) (w : World) :
    Calls Try.prog 20 #[.int .i64 wd, .int .u32 p, .int .i64 a, .int .i64 b] w fun e w' => e = .returned (.int .i64 (fmul p a b)) ∧ w = w' := by
  have hk := hg.kind
  have kb := hg.bounds
  have hs := hg.small
  have hf : fmul p a b = if inB (M.ord p) a && inB (M.ord p) b then ((M.md (M.mul a.toNat b.toNat) p : Nat) : Int) else 0 := rfl
  rw [hf]
  clear hf
  have HG := Lib.hid hg
  clear hg
  cases ha : inB (M.ord p) a
  · have HA := Lib.hid ha
    clear ha
    go_enter Try.func20, Try.ntmps20
    go_wp2_with fail
    refine (rin32 wd _ hk a _).mono ?_
    rintro e w' ⟨rfl, rfl⟩
    rw [HA.out]
    go_wp2_with fail
    go_ret
    exact ⟨rfl, rfl⟩
  · have HA := Lib.hid ha
    have a1 := inB_iff.1 ha
    clear ha
    cases hb : inB (M.ord p) b
    · have HB := Lib.hid hb
      clear hb
      go_enter Try.func20, Try.ntmps20
      go_wp2_with fail
      refine (rin32 wd _ hk a _).mono ?_
      rintro e w' ⟨rfl, rfl⟩
      rw [HA.out]
      go_wp2_with fail
      refine (rin32 wd _ hk b _).mono ?_
      rintro e w' ⟨rfl, rfl⟩
      rw [HB.out]
      go_wp2_with fail
      go_ret
      exact ⟨rfl, rfl⟩
    · have HB := Lib.hid hb
      have b1 := inB_iff.1 hb
      clear hb
      have hmd := M.md_in HG.out.prim.1 (M.mul a.toNat b.toNat)
      go_enter Try.func20, Try.ntmps20
      go_wp2_with fail
      refine (rin32 wd _ hk a _).mono ?_
      rintro e w' ⟨rfl, rfl⟩
      rw [HA.out]
      go_wp2_with fail
      refine (rin32 wd _ hk b _).mono ?_
      rintro e w' ⟨rfl, rfl⟩
      rw [HB.out]
      have a2 : a ≤ 4294967295 := by omega
      have a3 : 0 ≤ a := a1.1
      have b2 : b ≤ 4294967295 := by omega
      have b3 : 0 ≤ b := b1.1
      go_wp2_with fail
      refine (rmulmod17 _ _ _ _ a3 a2 b3 b2 (by omega) (by omega)).mono ?_
      rintro e w' ⟨rfl, rfl⟩
      rw [Int.toNat_natCast]
      go_wp2_with fail
      go_ret
      exact ⟨rfl, rfl⟩

set_option maxHeartbeats 1000000 in
theorem rpow22g (p wd : Nat) (hg : Good p wd) (a n : Int) (n63 : n ≤ 9223372036854775807) (w : World) :
    Calls Try.prog 22 #[.int .i64 wd, .int .u32 p, .int .i64 a, .int .i64 n] w fun e w' => e = .returned (.int .i64 (fpow p a n)) ∧ w = w' := by
  have hk := hg.kind
  have kb := hg.bounds
  have hs := hg.small
  cases ha : inB (M.ord p) a
  · rw [fpow_out (Or.inl (by have := inB_false.1 ha; omega))]
    have HA := Lib.hid ha
    clear ha
    go_enter Try.func22, Try.ntmps22
    go_wp2_with fail
    refine (rin32 wd _ hk a _).mono ?_
    rintro e w' ⟨rfl, rfl⟩
    rw [HA.out]
    go_wp2_with fail
    go_ret
    exact ⟨rfl, rfl⟩
  · have HA := Lib.hid ha
    have a1 := inB_iff.1 ha
    by_cases hn : n < 0
    · rw [fpow_out (Or.inr hn)]
      clear ha
      have hd : decide (n < 0) = true := by simpa using hn
      go_enter Try.func22, Try.ntmps22
      go_wp2_with fail
      refine (rin32 wd _ hk a _).mono ?_
      rintro e w' ⟨rfl, rfl⟩
      rw [HA.out]
      go_wp2_with fail
      go_ret
      exact ⟨rfl, rfl⟩
    · have hf : fpow p a n = (M.pw a.toNat p n.toNat : Nat) := by
        unfold fpow
        rw [ha, decide_eq_true (show 0 ≤ n by omega)]; rfl
      rw [hf]
      clear ha hf
      have hd : decide (n < 0) = false := by simpa using hn
      have hpl := M.pw_le hg.prim.1 a.toNat n.toNat
      have a2 : a ≤ 4294967295 := by omega
      have a3 : 0 ≤ a := a1.1
      have n0 : 0 ≤ n := by omega
      go_enter Try.func22, Try.ntmps22
      go_wp2_with fail
      refine (rin32 wd _ hk a _).mono ?_
      rintro e w' ⟨rfl, rfl⟩
      rw [HA.out]
      go_wp2_with fail
      refine (rpow22 _ _ _ _ a3 a2 n0 (by omega) (by omega) (by omega)).mono ?_
      rintro e w' ⟨rfl, rfl⟩
      rw [Int.toNat_natCast]
      go_wp2_with fail
      go_ret
      exact ⟨rfl, rfl⟩

theorem inv_pow {p : Nat} {a : Int} (h : M.irr p = true) (a0 : 0 ≤ a) (a1 : a ≤ M.ord p) : fpow p a ((M.ord p : Int) - 1) = (M.inv p a.toNat : Nat) := by
  have := M.ord_pos h
  unfold fpow M.inv
  rw [inB_iff.2 ⟨a0, a1⟩, decide_eq_true (show 0 ≤ (M.ord p : Int) - 1 by omega), show ((M.ord p : Int) - 1).toNat = M.ord p - 1 by omega]; rfl

set_option maxHeartbeats 1000000 in
theorem rinv19 (p wd : Nat) (hg : Good p wd) (a : Int) (w : World) :
    Calls Try.prog 19 #[.int .i64 wd, .int .u32 p, .int .i64 a] w fun e w' => e = .returned (finv p a) ∧ w = w' := by
  have hk := hg.kind
  have kb := hg.bounds
  cases ha : inB (M.ord p) a
  · rw [finv_no (by have := inB_false.1 ha; omega)]
    have HA := Lib.hid ha
    clear ha
    go_enter Try.func19, Try.ntmps19
    go_wp2_with fail
    refine (rin32 wd _ hk a _).mono ?_
    rintro e w' ⟨rfl, rfl⟩
    rw [HA.out]
    go_wp2_with fail
    go_ret2
    exact ⟨rfl, rfl⟩
  · have HA := Lib.hid ha
    have a1 := inB_iff.1 ha
    clear ha
    by_cases hz : a = 0
    · subst hz
      rw [finv_no (by omega)]
      go_enter Try.func19, Try.ntmps19
      go_wp2_with fail
      refine (rin32 wd _ hk 0 _).mono ?_
      rintro e w' ⟨rfl, rfl⟩
      rw [HA.out]
      go_wp2_with fail
      go_ret2
      exact ⟨rfl, rfl⟩
    · rw [finv_yes (by omega) a1.2, ← inv_pow hg.prim.1 a1.1 a1.2]
      have hz' : (a == 0) = false := by simpa using hz
      obtain ⟨c, hc⟩ : ∃ c, M.ord p = c := ⟨_, rfl⟩
      rw [hc] at hk kb HA ⊢
      have HC := Lib.hid hc
      clear hc
      go_enter Try.func19, Try.ntmps19
      go_wp2_with fail
      refine (rin32 wd _ hk a _).mono ?_
      rintro e w' ⟨rfl, rfl⟩
      rw [HA.out]
      go_wp2_with fail
      refine (rsize33 wd c hk _).mono ?_
      rintro e w' ⟨rfl, rfl⟩
      go_wp2_with fail
      rw [show (c : Int) + 1 - 2 = (c : Int) - 1 by omega]
      refine (rpow22g p wd hg a _ (by omega) _).mono ?_
      rintro e w' ⟨rfl, rfl⟩
      go_wp2_with fail
      go_ret2
      exact ⟨rfl, rfl⟩

set_option maxHeartbeats 1000000 in
theorem rdiv17 (p wd : Nat) (hg : Good p wd) (x y : Int) (w : World) :
    Calls Try.prog 17 #[.int .i64 wd, .int .u32 p, .int .i64 x, .int .i64 y] w fun e w' => e = .returned (fdiv p x y) ∧ w = w' := by
  have hk := hg.kind
  have kb := hg.bounds
  by_cases hy : y < 1 ∨ M.ord p < y
  · rw [fdiv_no (Or.inr hy)]
    have HI := Lib.hid (finv_no hy)
    clear hy
    go_enter Try.func17, Try.ntmps17
    go_wp2_with fail
    refine (rinv19 p wd hg y _).mono ?_
    rintro e w' ⟨rfl, rfl⟩
    rw [HI.out]
    go_wp2_with fail
    go_ret2
    exact ⟨rfl, rfl⟩
  · have y0 : 1 ≤ y := by omega
    have y1 : y ≤ M.ord p := by omega
    have HI := Lib.hid (finv_yes y0 y1)
    have hir := M.inv_range hg.prim (a := y.toNat) (by omega) (by omega)
    cases hx : inB (M.ord p) x
    · rw [fdiv_no (Or.inl (by have := inB_false.1 hx; omega))]
      have HX := Lib.hid hx
      clear hy hx
      go_enter Try.func17, Try.ntmps17
      go_wp2_with fail
      refine (rinv19 p wd hg y _).mono ?_
      rintro e w' ⟨rfl, rfl⟩
      rw [HI.out]
      go_wp2_with fail
      refine (rin32 wd _ hk x _).mono ?_
      rintro e w' ⟨rfl, rfl⟩
      rw [HX.out]
      go_wp2_with fail
      go_ret2
      exact ⟨rfl, rfl⟩
    · have x1 := inB_iff.1 hx
      have HX := Lib.hid hx
      rw [fdiv_yes x1.1 x1.2 y0 y1]
      have hm := fmul_in (p := p) (a := x) (b := (M.inv p y.toNat : Nat)) x1.1 x1.2 (by omega) (by omega)
      rw [Int.toNat_natCast] at hm
      rw [← hm]
      clear hy hx hm
      obtain ⟨i, hi⟩ : ∃ i, M.inv p y.toNat = i := ⟨_, rfl⟩
      rw [hi] at HI hir ⊢
      clear hi
      go_enter Try.func17, Try.ntmps17
      go_wp2_with fail
      refine (rinv19 p wd hg y _).mono ?_
      rintro e w' ⟨rfl, rfl⟩
      rw [HI.out]
      go_wp2_with fail
      refine (rin32 wd _ hk x _).mono ?_
      rintro e w' ⟨rfl, rfl⟩
      rw [HX.out]
      go_wp2_with fail
      refine (rmul20 p wd hg x _ _).mono ?_
      rintro e w' ⟨rfl, rfl⟩
      go_wp2_with fail
      go_ret2
      exact ⟨rfl, rfl⟩

theorem ex_pow {p : Nat} {n : Int} (hp : 2 ≤ M.ord p) : fpow p 2 (n % (M.ord p : Int)) = (M.ex p n : Nat) := by
  have h1 := Int.emod_nonneg n (show (M.ord p : Int) ≠ 0 by omega)
  unfold fpow M.ex
  rw [inB_iff.2 ⟨by omega, by omega⟩, decide_eq_true h1]; rfl

set_option maxHeartbeats 1000000 in
theorem rexp26 (p wd : Nat) (hg : Good p wd) (n : Int) (w : World) :
    Calls Try.prog 26 #[.int .i64 wd, .int .u32 p, .int .i64 n] w fun e w' => e = .returned (.int .i64 (M.ex p n)) ∧ w = w' := by
  have hk := hg.kind
  have kb := hg.bounds
  have HE := Lib.hid (ex_pow (p := p) (n := n) (by omega))
  obtain ⟨c, hc⟩ : ∃ c, M.ord p = c := ⟨_, rfl⟩
  rw [hc] at hk kb HE
  clear hc
  have hz2 : ((c : Int) == 0) = false := by simp; omega
  obtain ⟨t1, t2, t3, t4⟩ := tmod_emod n c (by omega)
  have T1 := Lib.hid t1
  have T2 := Lib.hid t2
  have e1 := Int.emod_nonneg n (show (c : Int) ≠ 0 by omega)
  have e2 := Int.emod_lt_of_pos n (show (0 : Int) < c by omega)
  clear t1 t2
  go_enter Try.func26, Try.ntmps26
  go_wp2_with fail
  refine (rsize33 wd c hk _).mono ?_
  rintro e w' ⟨rfl, rfl⟩
  by_cases hneg : n.tmod c < 0
  · go_wp2_with fail
    rw [T1.out hneg]
    refine (rpow22g p wd hg 2 _ (by omega) _).mono ?_
    rintro e w' ⟨rfl, rfl⟩
    rw [HE.out]
    go_wp2_with fail
    go_ret
    exact ⟨rfl, rfl⟩
  · go_wp2_with fail
    rw [T2.out (by omega)]
    refine (rpow22g p wd hg 2 _ (by omega) _).mono ?_
    rintro e w' ⟨rfl, rfl⟩
    rw [HE.out]
    go_wp2_with fail
    go_ret
    exact ⟨rfl, rfl⟩

/-- in Log's loop -/
def RlogAt (p l : Nat) (tx tn : Value) : Prop := ∃ k : Nat, k ≤ l ∧ tn = .int .i64 k ∧ tx = .int .i64 (M.pw 2 p k)

/-- what Log tells -/
def flog (p : Nat) (a : Int) : Value := if inB (M.ord p) a && decide (a ≠ 0) then .tuple #[.int .i64 (M.lg p a.toNat), .bool true] else .tuple #[.int .i64 0, .bool false]
theorem flog_yes {p : Nat} {a : Int} (a0 : 1 ≤ a) (a1 : a ≤ M.ord p) : flog p a = .tuple #[.int .i64 (M.lg p a.toNat), .bool true] := by
  unfold flog
  rw [inB_iff.2 ⟨by omega, a1⟩, show decide (a ≠ 0) = true by simp; omega]; rfl
theorem flog_no {p : Nat} {a : Int} (h : a < 1 ∨ M.ord p < a) : flog p a = .tuple #[.int .i64 0, .bool false] := by
  unfold flog
  split
  · rename_i hh
    rw [Bool.and_eq_true, inB_iff, decide_eq_true_eq] at hh
    omega
  · rfl

/-- Log, of any number -/
theorem flog23 (p b wd : Nat) (x : Int) (w : World) (h : Fld p b wd w) :
    Calls Try.prog 23 #[.pointer (some ⟨b, 0, none⟩), .int .i64 x] w (Ans p b wd w (flog p x)) := by
  by_cases hx : x < 1 ∨ M.ord p < x
  · rw [flog_no hx]
    refine (log_no p b wd x hx w h).mono ?_
    rintro e w' ⟨rfl, rfl⟩
    exact ans_still h _
  · rw [flog_yes (by omega) (by omega)]
    exact log_yes p b wd x (by omega) (by omega) w h

set_option maxHeartbeats 1000000 in
theorem rlog24 (p wd : Nat) (hg : Good p wd) (a : Int) (w : World) :
    Calls Try.prog 24 #[.int .i64 wd, .int .u32 p, .int .i64 a] w fun e w' => e = .returned (flog p a) ∧ w = w' := by
  have hk := hg.kind
  have kb := hg.bounds
  cases ha : inB (M.ord p) a
  · rw [flog_no (by have := inB_false.1 ha; omega)]
    have HA := Lib.hid ha
    clear ha
    go_enter Try.func24, Try.ntmps24
    go_wp2_with fail
    refine (rin32 wd _ hk a _).mono ?_
    rintro e w' ⟨rfl, rfl⟩
    rw [HA.out]
    go_wp2_with fail
    go_ret2
    exact ⟨rfl, rfl⟩
  · have HA := Lib.hid ha
    have a1 := inB_iff.1 ha
    clear ha
    by_cases hz : a = 0
    · subst hz
      rw [flog_no (by omega)]
      go_enter Try.func24, Try.ntmps24
      go_wp2_with fail
      refine (rin32 wd _ hk 0 _).mono ?_
      rintro e w' ⟨rfl, rfl⟩
      rw [HA.out]
      go_wp2_with fail
      go_ret2
      exact ⟨rfl, rfl⟩
    · rw [flog_yes (by omega) a1.2]
      have hz' : (a == 0) = false := by simpa using hz
      obtain ⟨A, rfl⟩ := Int.eq_ofNat_of_zero_le a1.1
      rw [Int.toNat_natCast]
      obtain ⟨hl1, hl2⟩ := M.lg_spec hg.prim (a := A) (by omega) (by omega)
      have HL := Lib.hid hl2
      have HLP := Lib.hid (show ∀ k, k < M.ord p → M.pw 2 p k = A → k = M.lg p A from fun k k1 k2 => by rw [← k2, M.lg_pw hg.prim k1])
      obtain ⟨l, hl⟩ : ∃ l, M.lg p A = l := ⟨_, rfl⟩
      rw [hl] at hl1 HL HLP ⊢
      have hp0 : M.pw 2 p 0 = 1 := M.md_one (M.irr_blen hg.prim.1).1
      have HP0 := Lib.hid hp0
      clear hl hl2 hz hp0
      go_enter Try.func24, Try.ntmps24
      go_wp2_with fail
      refine (rin32 wd _ hk A _).mono ?_
      rintro e w' ⟨rfl, rfl⟩
      rw [HA.out]
      go_wp2_with fail
      go_loop [8, 9] (fun x n => RlogAt p l x n) (fun _ n => l - (intOf n).toNat)
      case atStart => exact ⟨0, by omega, rfl, by rw [HP0.out]; rfl⟩
      case round =>
        obtain ⟨k, hkl, rfl, rfl⟩ := hrel
        have hxr := M.pw_range hg.prim k
        by_cases hlt : k < l
        · have hne : (((M.pw 2 p k : Nat) : Int) != (A : Int)) = true := by
            simp only [bne_iff_ne, ne_eq, Int.natCast_inj]
            intro h
            have := HLP.out k (by omega) h
            omega
          have HM := Lib.hid (show fmul p ((M.pw 2 p k : Nat) : Int) 2 = (M.pw 2 p (k + 1) : Nat) by
            rw [fmul_in (by omega) (by omega) (by omega) (by omega), Int.toNat_natCast]; rfl)
          obtain ⟨x, hx⟩ : ∃ x, M.pw 2 p k = x := ⟨_, rfl⟩
          rw [hx] at hne HM hxr ⊢
          clear hx
          go_wp2_with fail
          refine (rmul20 p wd hg _ _ _).mono ?_
          rintro e w' ⟨rfl, rfl⟩
          rw [HM.out]
          go_wp2_with fail
          exact ⟨⟨k + 1, hlt, by go_num, rfl⟩, by simp [intOf]; omega⟩
        · obtain rfl : k = l := by omega
          rw [HL.out]
          go_wp2_with fail
          go_ret2
          exact ⟨rfl, rfl⟩

set_option maxHeartbeats 1000000 in
theorem known11 (v p : Int) (p0 : 0 ≤ p) (p1 : p ≤ 4294967295) (w : World) :
    Calls Try.prog 11 #[.int .i64 v, .int .u32 p] w (SaysStill (Fits v p) w) := by
  by_cases hv : v = 8 ∨ v = 16
  · by_cases hd : (M.blen p.toNat : Int) - 1 = v
    · have HF := Lib.hid (show Fits v p ↔ M.Prim p.toNat from ⟨fun h => h.2.2, fun h => ⟨hv, hd, h⟩⟩)
      have HD := Lib.hid hd
      clear hd
      rcases hv with rfl | rfl
      all_goals
        go_enter Try.func11, Try.ntmps11
        go_wp2_with fail
        refine (rdeg11 _ _ p0 (by omega)).mono ?_
        rintro e w' ⟨rfl, rfl⟩
        rw [HD.out]
        go_wp2_with fail
        refine (rprim21 _ _ p0 p1).mono ?_
        rintro e w1 ⟨t, rfl, ht, rfl⟩
        have HT := Lib.hid ht
        clear ht
        go_wp2_with fail
        go_ret
        exact ⟨t, rfl, HT.out.trans HF.out.symm, rfl⟩
    · have hd' : (((M.blen p.toNat : Int) - 1) == v) = false := by simpa using hd
      have hr : (M.blen p.toNat : Int) - 1 ≤ 64 := by have := (M.blen_le p.toNat 64).2 (by omega); omega
      have HF := Lib.hid (show ¬ Fits v p from fun h => hd h.2.1)
      clear hd
      obtain ⟨m, hm⟩ : ∃ m : Int, (M.blen p.toNat : Int) - 1 = m := ⟨_, rfl⟩
      rw [hm] at hd' hr
      have HM := Lib.hid hm
      clear hm
      rcases hv with rfl | rfl
      all_goals
        go_enter Try.func11, Try.ntmps11
        go_wp2_with fail
        refine (rdeg11 _ _ p0 (by omega)).mono ?_
        rintro e w' ⟨rfl, rfl⟩
        rw [HM.out]
        go_wp2_with fail
        go_ret
        exact ⟨false, rfl, by simp [HF.out], rfl⟩
  · have h8 : (v == 8) = false := by simp; omega
    have h16 : (v == 16) = false := by simp; omega
    have HF := Lib.hid (show ¬ Fits v p from fun h => hv h.1)
    clear hv
    go_enter Try.func11, Try.ntmps11
    go_wp2_with fail
    go_ret
    exact ⟨false, rfl, by simp [HF.out], rfl⟩
end Go.Proofs.Ytjojbkkdligpgaa
