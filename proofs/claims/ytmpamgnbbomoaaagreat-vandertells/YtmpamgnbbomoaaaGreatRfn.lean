/- Contracts of the document's own answers for layer 2. -/
import Derived.Test.YtmpamgnbbomoaaaGreatFpw
import Derived.Test.YtmpamgnbbomoaaaGreatGxc
namespace Go.Proofs.YtmpamgnbbomoaaaGreat
open Go.RowKit

set_option maxRecDepth 100000 in
set_option maxHeartbeats 1000000 in
theorem rsize33_pow (n : Nat) (w : World) (h1 : n ≤ 16) :
    Calls Tryz.prog 48 #[.int .i64 n] w fun e w' => e = .returned (.int .i64 ((2 ^ n : Nat) : Int)) ∧ w = w' := by
  go_enter Tryz.func48, Tryz.ntmps48
  go_wp2_with fail
  go_loop [3, 4] (fun x i => ∃ k : Nat, k ≤ n ∧ i = .int .i64 k ∧ x = .int .i64 ((2 ^ k : Nat) : Int)) (fun _ i => n - (intOf i).toNat)
  case atStart => exact ⟨0, by omega, rfl, rfl⟩
  case round =>
    obtain ⟨k, hk, rfl, rfl⟩ := hrel
    by_cases hlt : k < n
    · have hb : 2 ^ k ≤ 2 ^ 16 := Nat.pow_le_pow_right (by decide) (by omega)
      have HP := Lib.hid (show (2 * ((2 ^ k : Nat) : Int)) = ((2 ^ (k + 1) : Nat) : Int) by rw [Nat.pow_succ]; omega)
      generalize 2 ^ k = y at *
      go_wp2_with fail
      exact ⟨⟨k + 1, by omega, by go_num, by rw [HP.out]⟩, by simp [intOf]; omega⟩
    · go_wp2_with fail
      go_ret
      obtain rfl : k = n := by omega
      exact ⟨rfl, rfl⟩

theorem rsize33 (wd c : Nat) (hk : Kind wd c) (w : World) :
    Calls Tryz.prog 48 #[.int .i64 wd] w fun e w' => e = .returned (.int .i64 ((c : Int) + 1)) ∧ w = w' := by
  refine (rsize33_pow wd w hk.bounds.2.1).mono ?_
  rintro e w' ⟨rfl, rfl⟩
  rcases hk with ⟨rfl, rfl⟩ | ⟨rfl, rfl⟩ <;> exact ⟨rfl, rfl⟩

set_option maxRecDepth 100000 in
theorem rin32 (wd c : Nat) (hk : Kind wd c) (a : Int) (w : World) :
    Calls Tryz.prog 36 #[.int .i64 wd, .int .i64 a] w fun e w' => e = .returned (.bool (inB c a)) ∧ w = w' := by
  by_cases h0 : 0 ≤ a
  · have hd : inB c a = decide (a < (c : Int) + 1) := by
      unfold inB
      simp only [decide_eq_decide]
      omega
    rw [hd]
    clear hd
    go_enter Tryz.func36, Tryz.ntmps36
    go_wp2_with fail
    refine (rsize33 wd c hk _).mono ?_
    rintro e w' ⟨rfl, rfl⟩
    go_wp2_with fail
    go_ret
    exact ⟨rfl, rfl⟩
  · have hd : decide (0 ≤ a) = false := by simpa using h0
    rw [inB_false.2 (by omega)]
    go_enter Tryz.func36, Tryz.ntmps36
    go_wp2_with fail
    go_ret
    exact ⟨rfl, rfl⟩

set_option maxRecDepth 100000 in
set_option maxHeartbeats 1000000 in
theorem rmul20 (p wd : Nat) (hg : Good p wd) (a b : Int) (w : World) :
    Calls Tryz.prog 47 #[.int .i64 wd, .int .u32 p, .int .i64 a, .int .i64 b] w fun e w' => e = .returned (.int .i64 (fmul p a b)) ∧ w = w' := by
  have hk := hg.kind
  have kb := hg.bounds
  have hs := hg.small
  have hf : fmul p a b = if inB (M.ord p) a && inB (M.ord p) b then ((M.md (M.mul a.toNat b.toNat) p : Nat) : Int) else 0 := rfl
  rw [hf]
  clear hf
  have HG := Lib.hid hg
  clear hg
  cases ha : inB (M.ord p) a
  · have HA := Lib.hid ha
    clear ha
    go_enter Tryz.func47, Tryz.ntmps47
    go_wp2_with fail
    refine (rin32 wd _ hk a _).mono ?_
    rintro e w' ⟨rfl, rfl⟩
    rw [HA.out]
    go_wp2_with fail
    go_ret
    exact ⟨rfl, rfl⟩
  · have HA := Lib.hid ha
    have a1 := inB_iff.1 ha
    clear ha
    cases hb : inB (M.ord p) b
    · have HB := Lib.hid hb
      clear hb
      go_enter Tryz.func47, Tryz.ntmps47
      go_wp2_with fail
      refine (rin32 wd _ hk a _).mono ?_
      rintro e w' ⟨rfl, rfl⟩
      rw [HA.out]
      go_wp2_with fail
      refine (rin32 wd _ hk b _).mono ?_
      rintro e w' ⟨rfl, rfl⟩
      rw [HB.out]
      go_wp2_with fail
      go_ret
      exact ⟨rfl, rfl⟩
    · have HB := Lib.hid hb
      have b1 := inB_iff.1 hb
      clear hb
      have hmd := M.md_in HG.out.prim.1 (M.mul a.toNat b.toNat)
      go_enter Tryz.func47, Tryz.ntmps47
      go_wp2_with fail
      refine (rin32 wd _ hk a _).mono ?_
      rintro e w' ⟨rfl, rfl⟩
      rw [HA.out]
      go_wp2_with fail
      refine (rin32 wd _ hk b _).mono ?_
      rintro e w' ⟨rfl, rfl⟩
      rw [HB.out]
      have a2 : a ≤ 4294967295 := by omega
      have a3 : 0 ≤ a := a1.1
      have b2 : b ≤ 4294967295 := by omega
      have b3 : 0 ≤ b := b1.1
      go_wp2_with fail
      refine (rmulmod17 _ _ _ _ a3 a2 b3 b2 (by omega) (by omega)).mono ?_
      rintro e w' ⟨rfl, rfl⟩
      rw [Int.toNat_natCast]
      go_wp2_with fail
      go_ret
      exact ⟨rfl, rfl⟩

set_option maxRecDepth 100000 in
set_option maxHeartbeats 1000000 in
theorem rpow22g (p wd : Nat) (hg : Good p wd) (a n : Int) (n63 : n ≤ 9223372036854775807) (w : World) :
    Calls Tryz.prog 20 #[.int .i64 wd, .int .u32 p, .int .i64 a, .int .i64 n] w fun e w' => e = .returned (.int .i64 (fpow p a n)) ∧ w = w' := by
  have hk := hg.kind
  have kb := hg.bounds
  have hs := hg.small
  cases ha : inB (M.ord p) a
  · rw [fpow_out (Or.inl (by have := inB_false.1 ha; omega))]
    have HA := Lib.hid ha
    clear ha
    go_enter Tryz.func20, Tryz.ntmps20
    go_wp2_with fail
    refine (rin32 wd _ hk a _).mono ?_
    rintro e w' ⟨rfl, rfl⟩
    rw [HA.out]
    go_wp2_with fail
    go_ret
    exact ⟨rfl, rfl⟩
  · have HA := Lib.hid ha
    have a1 := inB_iff.1 ha
    by_cases hn : n < 0
    · rw [fpow_out (Or.inr hn)]
      clear ha
      have hd : decide (n < 0) = true := by simpa using hn
      go_enter Tryz.func20, Tryz.ntmps20
      go_wp2_with fail
      refine (rin32 wd _ hk a _).mono ?_
      rintro e w' ⟨rfl, rfl⟩
      rw [HA.out]
      go_wp2_with fail
      go_ret
      exact ⟨rfl, rfl⟩
    · have hf : fpow p a n = (M.pw a.toNat p n.toNat : Nat) := by
        unfold fpow
        rw [ha, decide_eq_true (show 0 ≤ n by omega)]; rfl
      rw [hf]
      clear ha hf
      have hd : decide (n < 0) = false := by simpa using hn
      have hpl := M.pw_le hg.prim.1 a.toNat n.toNat
      have a2 : a ≤ 4294967295 := by omega
      have a3 : 0 ≤ a := a1.1
      have n0 : 0 ≤ n := by omega
      go_enter Tryz.func20, Tryz.ntmps20
      go_wp2_with fail
      refine (rin32 wd _ hk a _).mono ?_
      rintro e w' ⟨rfl, rfl⟩
      rw [HA.out]
      go_wp2_with fail
      refine (rpow22 _ _ _ _ a3 a2 n0 (by omega) (by omega) (by omega)).mono ?_
      rintro e w' ⟨rfl, rfl⟩
      rw [Int.toNat_natCast]
      go_wp2_with fail
      go_ret
      exact ⟨rfl, rfl⟩

theorem inv_pow {p : Nat} {a : Int} (h : M.irr p = true) (a0 : 0 ≤ a) (a1 : a ≤ M.ord p) : fpow p a ((M.ord p : Int) - 1) = (M.inv p a.toNat : Nat) := by
  have := M.ord_pos h
  unfold fpow M.inv
  rw [inB_iff.2 ⟨a0, a1⟩, decide_eq_true (show 0 ≤ (M.ord p : Int) - 1 by omega), show ((M.ord p : Int) - 1).toNat = M.ord p - 1 by omega]; rfl

set_option maxRecDepth 100000 in
set_option maxHeartbeats 1000000 in
theorem rinv19 (p wd : Nat) (hg : Good p wd) (a : Int) (w : World) :
    Calls Tryz.prog 65 #[.int .i64 wd, .int .u32 p, .int .i64 a] w fun e w' => e = .returned (finv p a) ∧ w = w' := by
  have hk := hg.kind
  have kb := hg.bounds
  cases ha : inB (M.ord p) a
  · rw [finv_no (by have := inB_false.1 ha; omega)]
    have HA := Lib.hid ha
    clear ha
    go_enter Tryz.func65, Tryz.ntmps65
    go_wp2_with fail
    refine (rin32 wd _ hk a _).mono ?_
    rintro e w' ⟨rfl, rfl⟩
    rw [HA.out]
    go_wp2_with fail
    go_ret2
    exact ⟨rfl, rfl⟩
  · have HA := Lib.hid ha
    have a1 := inB_iff.1 ha
    clear ha
    by_cases hz : a = 0
    · subst hz
      rw [finv_no (by omega)]
      go_enter Tryz.func65, Tryz.ntmps65
      go_wp2_with fail
      refine (rin32 wd _ hk 0 _).mono ?_
      rintro e w' ⟨rfl, rfl⟩
      rw [HA.out]
      go_wp2_with fail
      go_ret2
      exact ⟨rfl, rfl⟩
    · rw [finv_yes (by omega) a1.2, ← inv_pow hg.prim.1 a1.1 a1.2]
      have hz' : (a == 0) = false := by simpa using hz
      obtain ⟨c, hc⟩ : ∃ c, M.ord p = c := ⟨_, rfl⟩
      rw [hc] at hk kb HA ⊢
      have HC := Lib.hid hc
      clear hc
      go_enter Tryz.func65, Tryz.ntmps65
      go_wp2_with fail
      refine (rin32 wd _ hk a _).mono ?_
      rintro e w' ⟨rfl, rfl⟩
      rw [HA.out]
      go_wp2_with fail
      refine (rsize33 wd c hk _).mono ?_
      rintro e w' ⟨rfl, rfl⟩
      go_wp2_with fail
      rw [show (c : Int) + 1 - 2 = (c : Int) - 1 by omega]
      refine (rpow22g p wd hg a _ (by omega) _).mono ?_
      rintro e w' ⟨rfl, rfl⟩
      go_wp2_with fail
      go_ret2
      exact ⟨rfl, rfl⟩

theorem ex_pow {p : Nat} {n : Int} (hp : 2 ≤ M.ord p) : fpow p 2 (n % (M.ord p : Int)) = (M.ex p n : Nat) := by
  have h1 := Int.emod_nonneg n (show (M.ord p : Int) ≠ 0 by omega)
  unfold fpow M.ex
  rw [inB_iff.2 ⟨by omega, by omega⟩, decide_eq_true h1]; rfl

set_option maxRecDepth 100000 in
set_option maxHeartbeats 1000000 in
theorem rexp26 (p wd : Nat) (hg : Good p wd) (n : Int) (w : World) :
    Calls Tryz.prog 28 #[.int .i64 wd, .int .u32 p, .int .i64 n] w fun e w' => e = .returned (.int .i64 (M.ex p n)) ∧ w = w' := by
  have hk := hg.kind
  have kb := hg.bounds
  have HE := Lib.hid (ex_pow (p := p) (n := n) (by omega))
  obtain ⟨c, hc⟩ : ∃ c, M.ord p = c := ⟨_, rfl⟩
  rw [hc] at hk kb HE
  clear hc
  have hz2 : ((c : Int) == 0) = false := by simp; omega
  obtain ⟨t1, t2, t3, t4⟩ := tmod_emod n c (by omega)
  have T1 := Lib.hid t1
  have T2 := Lib.hid t2
  have e1 := Int.emod_nonneg n (show (c : Int) ≠ 0 by omega)
  have e2 := Int.emod_lt_of_pos n (show (0 : Int) < c by omega)
  clear t1 t2
  go_enter Tryz.func28, Tryz.ntmps28
  go_wp2_with fail
  refine (rsize33 wd c hk _).mono ?_
  rintro e w' ⟨rfl, rfl⟩
  by_cases hneg : n.tmod c < 0
  · go_wp2_with fail
    rw [T1.out hneg]
    refine (rpow22g p wd hg 2 _ (by omega) _).mono ?_
    rintro e w' ⟨rfl, rfl⟩
    rw [HE.out]
    go_wp2_with fail
    go_ret
    exact ⟨rfl, rfl⟩
  · go_wp2_with fail
    rw [T2.out (by omega)]
    refine (rpow22g p wd hg 2 _ (by omega) _).mono ?_
    rintro e w' ⟨rfl, rfl⟩
    rw [HE.out]
    go_wp2_with fail
    go_ret
    exact ⟨rfl, rfl⟩

/-- in Log's loop -/
def RlogAt (p l : Nat) (tx tn : Value) : Prop := ∃ k : Nat, k ≤ l ∧ tn = .int .i64 k ∧ tx = .int .i64 (M.pw 2 p k)

/-- what Log tells -/
def flog (p : Nat) (a : Int) : Value := if inB (M.ord p) a && decide (a ≠ 0) then .tuple #[.int .i64 (M.lg p a.toNat), .bool true] else .tuple #[.int .i64 0, .bool false]
theorem flog_yes {p : Nat} {a : Int} (a0 : 1 ≤ a) (a1 : a ≤ M.ord p) : flog p a = .tuple #[.int .i64 (M.lg p a.toNat), .bool true] := by
  unfold flog
  rw [inB_iff.2 ⟨by omega, a1⟩, show decide (a ≠ 0) = true by simp; omega]; rfl
theorem flog_no {p : Nat} {a : Int} (h : a < 1 ∨ M.ord p < a) : flog p a = .tuple #[.int .i64 0, .bool false] := by
  unfold flog
  split
  · rename_i hh
    rw [Bool.and_eq_true, inB_iff, decide_eq_true_eq] at hh
    omega
  · rfl

/-- Log, of any number -/
theorem flog23 (p b wd : Nat) (x : Int) (w : World) (h : Fld p b wd w) :
    Calls Tryz.prog 33 #[.pointer (some ⟨b, 0, none⟩), .int .i64 x] w (Ans p b wd w (flog p x)) := by
  by_cases hx : x < 1 ∨ M.ord p < x
  · rw [flog_no hx]
    refine (log_no p b wd x hx w h).mono ?_
    rintro e w' ⟨rfl, rfl⟩
    exact ans_still h _
  · rw [flog_yes (by omega) (by omega)]
    exact log_yes p b wd x (by omega) (by omega) w h
end Go.Proofs.YtmpamgnbbomoaaaGreat
