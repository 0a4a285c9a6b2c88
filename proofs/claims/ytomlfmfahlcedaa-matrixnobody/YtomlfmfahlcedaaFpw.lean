/- Contracts of the field's Pow, and of New. -/
import Derived.Test.YtomlfmfahlcedaaFop
import Derived.Test.YtomlfmfahlcedaaPrim
namespace Go.Proofs.Ytomlfmfahlcedaa
open Go.RowKit

theorem fpow_lg {p : Nat} (h : M.Prim p) {a n : Int} (a0 : 1 ≤ a) (a1 : a ≤ M.ord p) (n0 : 0 ≤ n) : fpow p a n = (M.ex p ((M.lg p a.toNat : Int) * (n % (M.ord p : Int))) : Nat) := by
  unfold fpow
  rw [inB_iff.2 ⟨by omega, a1⟩, decide_eq_true n0]
  rw [Bool.and_self, if_pos rfl]
  obtain ⟨N, rfl⟩ := Int.eq_ofNat_of_zero_le n0
  rw [Int.toNat_natCast, M.pw_lg h (a := a.toNat) (by omega) (by omega), ← Int.natCast_emod, ← Int.natCast_mul, M.ex_nat h]
  rw [← M.pw_modord h (M.lg p a.toNat * N), ← M.pw_modord h (M.lg p a.toNat * (N % M.ord p)), Nat.mul_mod_mod]

theorem fpow_out {p : Nat} {a n : Int} (h : (a < 0 ∨ M.ord p < a) ∨ n < 0) : fpow p a n = 0 := by
  unfold fpow
  split
  · rename_i hh
    rw [Bool.and_eq_true, inB_iff, decide_eq_true_eq] at hh
    omega
  · rfl
theorem fpow_one {p : Nat} (h : M.Prim p) {a : Int} (a0 : 0 ≤ a) (a1 : a ≤ M.ord p) : fpow p a 0 = 1 := by
  unfold fpow
  rw [inB_iff.2 ⟨a0, a1⟩]
  show ((M.pw a.toNat p 0 : Nat) : Int) = 1
  rw [M.pw, M.md_one (M.irr_blen h.1).1]; rfl
theorem fpow_zero {p : Nat} {n : Int} (n0 : 1 ≤ n) : fpow p 0 n = 0 := by
  unfold fpow
  split
  · obtain ⟨N, hN⟩ : ∃ N, n.toNat = N + 1 := ⟨n.toNat - 1, by omega⟩
    rw [hN, show (0 : Int).toNat = 0 from rfl, M.pw_succ_zero]; rfl
  · rfl

/-- a new field is made -/
def NewSaid (p wd : Nat) (w : World) (e : Ending) (w' : World) : Prop :=
  ∃ b, e = .returned (.pointer (some ⟨b, 0, none⟩)) ∧ Fld p b wd w' ∧ w.heap.size ≤ b ∧ Below w.heap.size w w'

theorem newRaw (p wd : Nat) (w : World) : Raw p w.heap.size wd (w.alloc (.cells #[.int .i64 wd, .int .u32 p, .int .u32 0, .int .i32 0, .int .u32 0, .slice none 0 0, .slice none 0 0] TF)) :=
  World.rowIs_alloc w #[.int .i64 wd, .int .u32 p, .int .u32 0, .int .i32 0, .int .u32 0, .slice none 0 0, .slice none 0 0] TF _ (fun i hi => by
    match i, hi with
    | 0, _ => rfl
    | 1, _ => rfl
    | 2, _ => rfl
    | 3, _ => rfl
    | 4, _ => rfl
    | 5, _ => rfl
    | 6, _ => rfl)

set_option maxRecDepth 100000 in
set_option maxHeartbeats 1000000 in
theorem new_yes (p wd : Nat) (hg : Good p wd) (w : World) :
    Calls Try.prog 27 #[.int .i64 wd, .int .u32 p] w (NewSaid p wd w) := by
  have hs := hg.small
  have HD := Lib.hid (show (M.blen ((p : Int).toNat) : Int) - 1 = wd by rw [Int.toNat_natCast, hg.len]; omega)
  have HPr := Lib.hid hg.prim
  have hw : wd = 8 ∨ wd = 16 := by rcases hg.kind with h | h <;> omega
  have HG := Lib.hid hg
  clear hg
  rcases hw with rfl | rfl
  all_goals
    go_enter Try.func27, Try.ntmps27
    go_wp2_with fail
    refine (deg10 _ _ (by omega) (by omega)).mono ?_
    rintro e w' ⟨rfl, rfl⟩
    rw [HD.out]
    go_wp2_with fail
    refine (prim20 _ _ (by omega) (by omega)).mono ?_
    rintro e w1 ⟨t, rfl, ht, hb⟩
    obtain rfl : t = true := ht.2 (by rw [Int.toNat_natCast]; exact HPr.out)
    have HB := Lib.hid hb
    clear ht hb
    go_wp2_with fail
    go_ret
    first
      | exact ⟨_, rfl, ⟨HG.out, Or.inl (newRaw p 8 w1)⟩, HB.out.size, HB.out.alloc HB.out.size _⟩
      | exact ⟨_, rfl, ⟨HG.out, Or.inl (newRaw p 16 w1)⟩, HB.out.size, HB.out.alloc HB.out.size _⟩

/-- what a field must be made of -/
def Fits (v p : Int) : Prop := (v = 8 ∨ v = 16) ∧ (M.blen p.toNat : Int) - 1 = v ∧ M.Prim p.toNat

set_option maxRecDepth 100000 in
set_option maxHeartbeats 1000000 in
theorem new_no (v p : Int) (p0 : 0 ≤ p) (p1 : p ≤ 4294967295) (hn : ¬ Fits v p) (w : World) :
    Calls Try.prog 27 #[.int .i64 v, .int .u32 p] w fun e w' => e = .returned (.pointer none) ∧ Below w.heap.size w w' := by
  by_cases hv : v = 8 ∨ v = 16
  · by_cases hd : (M.blen p.toNat : Int) - 1 = v
    · have hp : ¬ M.Prim p.toNat := fun h => hn ⟨hv, hd, h⟩
      have HP := Lib.hid hp
      have HD := Lib.hid hd
      clear hp hd hn
      rcases hv with rfl | rfl
      all_goals
        go_enter Try.func27, Try.ntmps27
        go_wp2_with fail
        refine (deg10 _ _ p0 (by omega)).mono ?_
        rintro e w' ⟨rfl, rfl⟩
        rw [HD.out]
        go_wp2_with fail
        refine (prim20 _ _ p0 p1).mono ?_
        rintro e w1 ⟨t, rfl, ht, hb⟩
        have HB := Lib.hid hb
        cases t
        · clear ht hb
          go_wp2_with fail
          go_ret
          exact ⟨rfl, HB.out⟩
        · exact absurd (ht.1 rfl) HP.out
    · have hd' : (((M.blen p.toNat : Int) - 1) != v) = true := by simpa using hd
      have hr : (M.blen p.toNat : Int) - 1 ≤ 64 := by have := (M.blen_le p.toNat 64).2 (by omega); omega
      clear hn hd
      obtain ⟨m, hm⟩ : ∃ m : Int, (M.blen p.toNat : Int) - 1 = m := ⟨_, rfl⟩
      rw [hm] at hd' hr
      have HM := Lib.hid hm
      clear hm
      rcases hv with rfl | rfl
      all_goals
        go_enter Try.func27, Try.ntmps27
        go_wp2_with fail
        refine (deg10 _ _ p0 (by omega)).mono ?_
        rintro e w' ⟨rfl, rfl⟩
        rw [HM.out]
        go_wp2_with fail
        go_ret
        exact ⟨rfl, Below.refl _ _⟩
  · have h8 : (v != 8) = true := by simp; omega
    have h16 : (v != 16) = true := by simp; omega
    clear hn hv
    go_enter Try.func27, Try.ntmps27
    go_wp2_with fail
    go_ret
    exact ⟨rfl, Below.refl _ _⟩
end Go.Proofs.Ytomlfmfahlcedaa
