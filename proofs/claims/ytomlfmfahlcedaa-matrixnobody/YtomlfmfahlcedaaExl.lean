/- Contracts of the field's Log and Exp. -/
import Derived.Test.YtomlfmfahlcedaaOnz
namespace Go.Proofs.Ytomlfmfahlcedaa
open Go.RowKit

/-- v is told; the field is there; nothing else has turned -/
def Ans (p b wd : Nat) (w : World) (v : Value) (e : Ending) (w' : World) : Prop := e = .returned v ∧ Fld p b wd w' ∧ Turned b w w'

theorem Good.bounds {p wd : Nat} (h : Good p wd) : 255 ≤ M.ord p ∧ M.ord p ≤ 65535 := ⟨h.kind.bounds.2.2.1, h.kind.bounds.2.2.2⟩

set_option maxRecDepth 100000 in
set_option maxHeartbeats 1000000 in
theorem log_yes (p b wd : Nat) (a : Int) (a0 : 1 ≤ a) (a1 : a ≤ M.ord p) (w : World) (h : Fld p b wd w) :
    Calls Try.prog 50 #[.pointer (some ⟨b, 0, none⟩), .int .i64 a] w (Ans p b wd w (.tuple #[.int .i64 (M.lg p a.toNat), .bool true])) := by
  have hg := h.1
  have hk := hg.kind
  have kb := hk.bounds
  have hc0 := h.c0
  have hne : (a == 0) = false := by simp; omega
  have HH := Lib.hid h
  clear h
  obtain ⟨A, rfl⟩ := Int.eq_ofNat_of_zero_le (show 0 ≤ a by omega)
  have hl := M.lg_lt p A
  obtain ⟨c, hc⟩ : ∃ c, M.ord p = c := ⟨_, rfl⟩
  rw [hc] at hk kb a1 hl
  have HC := Lib.hid hc
  clear hc
  go_enter Try.func50, Try.ntmps50
  go_wp2_with fail
  refine (has_yes b wd c hk _ (by omega) a1 _ hc0).mono ?_
  rintro e w' ⟨rfl, rfl⟩
  go_wp2_with fail
  refine (do37 p b wd _ HH.out).mono ?_
  rintro e w' ⟨rfl, hM, hT⟩
  have HP := Lib.hid (show Ans p b wd w (.tuple #[.int .i64 (M.lg p (A : Int).toNat), .bool true]) (.returned (.tuple #[.int .i64 (M.lg p (A : Int).toNat), .bool true])) w' from ⟨rfl, Fld.made hg hM, hT⟩)
  obtain ⟨g, l, _, _, rb, _, r2⟩ := hM
  rw [HC.out] at rb r2
  have c6 : w'.cell? ⟨b, 6, none⟩ = some (sl l (c + 1)) := rb.cell (i := 6) (by omega)
  have cl : w'.cell? ⟨l, A, none⟩ = some (.int .u16 (M.lg p A)) := r2.cell (by omega)
  clear rb r2 hT hc0
  go_wp2_with fail
  go_ret2
  exact HP.out

set_option maxRecDepth 100000 in
theorem log_zero (f : Option Addr) (w : World) :
    Calls Try.prog 50 #[.pointer f, .int .i64 0] w fun e w' => e = .returned (.tuple #[.int .i64 0, .bool false]) ∧ w = w' := by
  go_enter Try.func50, Try.ntmps50
  go_wp2_with fail
  go_ret2
  exact ⟨rfl, rfl⟩

set_option maxRecDepth 100000 in
theorem log_no (p b wd : Nat) (a : Int) (ha : a < 1 ∨ M.ord p < a) (w : World) (h : Fld p b wd w) :
    Calls Try.prog 50 #[.pointer (some ⟨b, 0, none⟩), .int .i64 a] w fun e w' => e = .returned (.tuple #[.int .i64 0, .bool false]) ∧ w = w' := by
  by_cases h0 : a = 0
  · subst h0; exact log_zero _ w
  have hk := h.1.kind
  have hc0 := h.c0
  have hne : (a == 0) = false := by simpa using h0
  have HA := Lib.hid (show a < 0 ∨ M.ord p < a by omega)
  clear h ha h0
  go_enter Try.func50, Try.ntmps50
  go_wp2_with fail
  refine (has_no b wd _ hk _ HA.out _ hc0).mono ?_
  rintro e w' ⟨rfl, rfl⟩
  go_wp2_with fail
  go_ret2
  exact ⟨rfl, rfl⟩

set_option maxRecDepth 100000 in
theorem log_nil (a : Int) (w : World) :
    Calls Try.prog 50 #[.pointer none, .int .i64 a] w fun e w' => e = .returned (.tuple #[.int .i64 0, .bool false]) ∧ w = w' := by
  by_cases h0 : a = 0
  · subst h0; exact log_zero _ w
  have hne : (a == 0) = false := by simpa using h0
  clear h0
  go_enter Try.func50, Try.ntmps50
  go_wp2_with fail
  refine (has_nil _ _).mono ?_
  rintro e w' ⟨rfl, rfl⟩
  go_wp2_with fail
  go_ret2
  exact ⟨rfl, rfl⟩

set_option maxRecDepth 100000 in
theorem exp_nil (n : Int) (w : World) :
    Calls Try.prog 51 #[.pointer none, .int .i64 n] w fun e w' => e = .returned (.int .i64 0) ∧ w = w' := by
  go_enter Try.func51, Try.ntmps51
  go_wp2_with fail
  refine (size_nil _).mono ?_
  rintro e w' ⟨rfl, rfl⟩
  go_wp2_with fail
  go_ret
  exact ⟨rfl, rfl⟩

theorem tmod_emod (n : Int) (c : Nat) (hc : 0 < c) : (n.tmod c < 0 → n.tmod c + c = n % c) ∧ (¬ n.tmod c < 0 → n.tmod c = n % c) ∧ -(c : Int) < n.tmod c ∧ n.tmod c < c := by
  have h1 := Int.emod_nonneg n (show (c : Int) ≠ 0 by omega)
  have h2 := Int.emod_lt_of_pos n (show (0 : Int) < c by omega)
  have h3 := Int.tmod_eq_emod (a := n) (b := c)
  by_cases hn : 0 ≤ n ∨ (c : Int) ∣ n
  · rw [if_pos hn] at h3
    refine ⟨fun h => ?_, fun h => ?_, ?_, ?_⟩ <;> omega
  · rw [if_neg hn] at h3
    have hz : n % c ≠ 0 := fun e => hn (Or.inr (Int.dvd_of_emod_eq_zero e))
    refine ⟨fun h => ?_, fun h => ?_, ?_, ?_⟩ <;> simp at h3 <;> omega

set_option maxRecDepth 100000 in
set_option maxHeartbeats 1000000 in
theorem exp25 (p b wd : Nat) (n : Int) (w : World) (h : Fld p b wd w) :
    Calls Try.prog 51 #[.pointer (some ⟨b, 0, none⟩), .int .i64 n] w (Ans p b wd w (.int .i64 (M.ex p n))) := by
  have hg := h.1
  have hk := hg.kind
  have kb := hk.bounds
  have hc0 := h.c0
  have HH := Lib.hid h
  have hxr := M.ex_range hg.prim n
  clear h
  have HE := Lib.hid (M.ex_mod (p := p) n)
  obtain ⟨c, hc⟩ : ∃ c, M.ord p = c := ⟨_, rfl⟩
  rw [hc] at hk kb HE hxr
  have HC := Lib.hid hc
  clear hc
  have hz : ((c : Int) + 1 == 0) = false := by simp; omega
  have hz2 : ((c : Int) == 0) = false := by simp; omega
  obtain ⟨t1, t2, t3, t4⟩ := tmod_emod n c (by omega)
  have T1 := Lib.hid t1
  have T2 := Lib.hid t2
  clear t1 t2
  go_enter Try.func51, Try.ntmps51
  go_wp2_with fail
  refine (size13 b wd c hk _ hc0).mono ?_
  rintro e w' ⟨rfl, rfl⟩
  go_wp2_with fail
  refine (do37 p b wd _ HH.out).mono ?_
  rintro e w' ⟨rfl, hM, hT⟩
  have HP := Lib.hid (show Ans p b wd w (.int .i64 (M.ex p n)) (.returned (.int .i64 (M.ex p n))) w' from ⟨rfl, Fld.made hg hM, hT⟩)
  obtain ⟨g, l, _, _, rb, r1, _⟩ := hM
  rw [HC.out] at rb r1
  have hc0' : w'.cell? ⟨b, 0, none⟩ = some (.int .i64 wd) := rb.cell (i := 0) (by omega)
  have c5 : w'.cell? ⟨b, 5, none⟩ = some (sl g c) := rb.cell (i := 5) (by omega)
  have R1 := Lib.hid r1
  clear rb r1 hT hc0
  go_wp2_with fail
  refine (units35 b wd c hk _ hc0').mono ?_
  rintro e w' ⟨rfl, rfl⟩
  by_cases hneg : n.tmod c < 0
  · have hq := T1.out hneg
    have cg : w'.cell? ⟨g, (n.tmod c + c).toNat, none⟩ = some (.int .u16 (M.ex p n)) := by
      rw [R1.out.cell (i := (n.tmod c + c).toNat) (by omega), hq, HE.out]
    clear hq
    go_wp2_with fail
    refine (units35 b wd c hk _ hc0').mono ?_
    rintro e w' ⟨rfl, rfl⟩
    go_wp2_with fail
    go_ret
    exact HP.out
  · have hq := T2.out (by omega)
    have cg : w'.cell? ⟨g, (n.tmod c).toNat, none⟩ = some (.int .u16 (M.ex p n)) := by
      rw [R1.out.cell (i := (n.tmod c).toNat) (by omega), hq, HE.out]
    clear hq
    go_wp2_with fail
    go_ret
    exact HP.out
end Go.Proofs.Ytomlfmfahlcedaa
