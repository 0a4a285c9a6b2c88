/- Layer 6's own first test, and how its laws choose a field; any rows of the identity and ISA-L's behind it. The contract of gambrelref06's Chosen. -/
import Derived.Test.YtgbipbcejjlpiaaGreatDoorGxo
import Derived.Test.YtgbipbcejjlpiaaGreatDoorGxl
import Derived.Test.YtgbipbcejjlpiaaGreatDoorGxm
import Derived.Test.YtgbipbcejjlpiaaGreatDoorGxk

namespace Go.Proofs.YtgbipbcejjlpiaaGreatDoor
open Go.RowKit

/-- the fields of 8 and of 16 bits -/
def qS : FP := ⟨285, M.prim285⟩
def qL : FP := ⟨69643, M.prim69643⟩

/-- rows behind rows -/
def joinE {q : FP} (k : Nat) (A B : Nat → Nat → El q) (r j : Nat) : El q := if r < k then A r j else B (r - k) j
theorem two_pow {q : FP} (h2 : (2 : Int) ≤ M.ord q.p) (i : Nat) : (ep (toEl q 2) i).val = M.pw 2 q.p i := by
  rw [ep_val]
  have := toEl_val (q := q) (a := 2) ⟨by omega, h2⟩
  rw [show (toEl q 2).val = 2 by omega]
theorem isal_any {q : FP} {k m : Nat} (hk : (k : Int) ≤ M.ord q.p) (h2 : (2 : Int) ≤ M.ord q.p) (hm : m ≤ 3) (f : Nat → Nat) (hf : ∀ i, i < k → f i < k + m) (hu : ∀ i j, i < k → j < k → f i = f j → i = j) :
    rk k (fun i j => joinE k dl (isalE q) (f i) j) k = k := by
  refine mds_of (N := k + m) (E := joinE k dl (isalE q)) (fun c hc => powers_few (x := fun j => ep (toEl q 2) j) hm (fun j _ h => ?_) (fun i j hi hj h => ?_) ?_) f hf hu
  · have := (M.pw_range q.prim j).1
    rw [← two_pow h2 j, h] at this
    have e := El.zero_val (q := q)
    omega
  · have e := congrArg El.val h
    rw [two_pow h2, two_pow h2] at e
    rcases Nat.lt_trichotomy i j with h1 | h1 | h1
    · exact absurd e (M.pw_inj q.prim h1 (by omega))
    · exact h1
    · exact absurd e.symm (M.pw_inj q.prim h1 (by omega))
  · rw [cnt_add] at hc
    have e1 : cnt (fun r => decide (su k (fun j => c j * joinE k dl (isalE q) r j) = 0)) k = cnt (fun j => decide (c j = 0)) k := cnt_congr (fun r hr => by
      have : su k (fun j => c j * joinE k dl (isalE q) r j) = c r := by
        rw [su_one (fun j => c j * joinE k dl (isalE q) r j) hr (fun i hi hne => by rw [joinE, if_pos hr, dl_ne (fun e => hne e.symm), El.mul_zero]), joinE, if_pos hr, dl_self, El.mul_one]
      rw [this])
    have e2 : cnt (fun t => decide (su k (fun j => c j * joinE k dl (isalE q) (k + t) j) = 0)) m = cnt (fun t => decide (su k (fun j => c j * ep (ep (toEl q 2) j) t) = 0)) m := cnt_congr (fun t ht => by
      have : su k (fun j => c j * joinE k dl (isalE q) (k + t) j) = su k (fun j => c j * ep (ep (toEl q 2) j) t) := su_congr (fun j _ => by
        rw [joinE, if_neg (by omega), show k + t - k = t by omega, isalE, ep_turn])
      rw [this])
    rw [e1, e2] at hc
    have := cnt_not (fun j => decide (c j = 0)) k
    omega
end Go.Proofs.YtgbipbcejjlpiaaGreatDoor

namespace Go.Proofs.YtgbipbcejjlpiaaGreatDoor
open Go.RowKit
end Go.Proofs.YtgbipbcejjlpiaaGreatDoor
