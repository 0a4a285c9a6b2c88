/- Contracts of the lowest functions: the degree; the two closures that ask a bit, and the function that makes one. -/
import Derived.Test.YtomlfmfahlcedaaLen
import Derived.WalkKit
import Derived.WalkSpells
import Derived.Lib.Hide
namespace Go.Proofs.Ytomlfmfahlcedaa
open Go.RowKit

theorem bit_ask (n k : Int) (h0 : 0 ≤ n) (h1 : n ≤ 18446744073709551615) : (bits BinOp.and IntKind.u64 (n / 2 ^ k.toNat) 1 == 1) = n.toNat.testBit k.toNat := by
  obtain ⟨N, rfl⟩ := Int.eq_ofNat_of_zero_le h0
  have e : ((N : Int) / 2 ^ k.toNat) = ((N / 2 ^ k.toNat : Nat) : Int) := by simp
  have hd : N / 2 ^ k.toNat ≤ N := Nat.div_le_self _ _
  rw [e, show (1 : Int) = ((1 : Nat) : Int) from rfl, u64_and_nat _ _ (by omega) (by omega), Nat.and_one_is_mod, Int.toNat_natCast, Nat.testBit_eq_decide_div_mod_eq]
  generalize N / 2 ^ k.toNat % 2 = r
  rw [Bool.eq_iff_iff]
  simp
  omega

set_option maxRecDepth 100000 in
theorem bit29 (n k : Int) (a : Addr) (w : World) (hc : w.cell? a = some (.int .u64 n)) (hk0 : 0 ≤ k) (hk : k < 64) (h0 : 0 ≤ n) (h1 : n ≤ 18446744073709551615) :
    Calls Try.prog 64 #[.int .i64 k, .pointer (some a)] w fun e w' => e = .returned (.bool (n.toNat.testBit k.toNat)) ∧ w = w' := by
  have hb := Lib.hid (bit_ask n k h0 h1)
  go_enter Try.func64, Try.ntmps64
  go_wp2
  go_ret
  exact ⟨by rw [hb.out]; rfl, rfl⟩

set_option maxRecDepth 100000 in
theorem bit25 (n k : Int) (a : Addr) (w : World) (hc : w.cell? a = some (.int .u64 n)) (hk0 : 0 ≤ k) (hk : k < 64) (h0 : 0 ≤ n) (h1 : n ≤ 18446744073709551615) :
    Calls Try.prog 63 #[.int .i64 k, .pointer (some a)] w fun e w' => e = .returned (.bool (n.toNat.testBit k.toNat)) ∧ w = w' := by
  have hb := Lib.hid (bit_ask n k h0 h1)
  go_enter Try.func63, Try.ntmps63
  go_wp2
  go_ret
  exact ⟨by rw [hb.out]; rfl, rfl⟩

set_option maxRecDepth 100000 in
theorem bits24 (n : Int) (w : World) :
    Calls Try.prog 55 #[.int .u64 n] w fun e w' => e = .returned (.func (.func 64) #[] #[.pointer (some ⟨w.heap.size, 0, none⟩)]) ∧ w.alloc (.cells #[.int .u64 n] 68) = w' := by
  have hmf : ∀ (fn : Fn) (first cap : Array Value) (w : World), (Instr.makeFunc fn first cap).run Try.prog w = .ok (.func fn first cap) w := fun _ _ _ _ => rfl
  go_enter Try.func55, Try.ntmps55
  go_wp2
  go_ret
  exact ⟨rfl, rfl⟩

set_option maxRecDepth 100000 in
theorem deg10 (x : Int) (w : World) (h0 : 0 ≤ x) (h1 : x ≤ 18446744073709551615) :
    Calls Try.prog 36 #[.int .u64 x] w fun e w' => e = .returned (.int .i64 ((M.blen x.toNat : Int) - 1)) ∧ w = w' := by
  have hl : M.blen x.toNat ≤ 64 := (M.blen_le _ _).2 (by omega)
  generalize hm : M.blen x.toNat = m at *
  have hc : ∀ w, Calls Try.prog 45 #[.int .u64 x] w fun e w' => e = .returned (.int .i64 (m : Int)) ∧ w = w' := fun w => hm ▸ len64 x w h0 h1
  have HC := Lib.hid hc
  clear hc hm h0 h1
  go_enter Try.func36, Try.ntmps36
  go_wp2_with fail
  refine (HC.out _).mono ?_
  rintro e w' ⟨rfl, rfl⟩
  go_wp2
  go_ret
  exact ⟨rfl, rfl⟩
end Go.Proofs.Ytomlfmfahlcedaa
