/- Layer 6's own first test, and how its laws choose a field; any rows of the identity and ISA-L's behind it. The contract of gambrelref06's Chosen. -/
import Derived.Test.YtgdgimknnjbieaaGreatDoorGxo
import Derived.Test.YtgdgimknnjbieaaGreatDoorGxl
import Derived.Test.YtgdgimknnjbieaaGreatDoorGxm
import Derived.Test.YtgdgimknnjbieaaGreatDoorGxk

namespace Go.Proofs.YtgdgimknnjbieaaGreatDoor
open Go.RowKit

/-- the fields of 8 and of 16 bits -/
def qS : FP := ⟨285, M.prim285⟩
def qL : FP := ⟨69643, M.prim69643⟩

/-- rows behind rows -/
def joinE {q : FP} (k : Nat) (A B : Nat → Nat → El q) (r j : Nat) : El q := if r < k then A r j else B (r - k) j
theorem two_pow {q : FP} (h2 : (2 : Int) ≤ M.ord q.p) (i : Nat) : (ep (toEl q 2) i).val = M.pw 2 q.p i := by
  rw [ep_val]
  have := toEl_val (q := q) (a := 2) ⟨by omega, h2⟩
  rw [show (toEl q 2).val = 2 by omega]
theorem isal_any {q : FP} {k m : Nat} (hk : (k : Int) ≤ M.ord q.p) (h2 : (2 : Int) ≤ M.ord q.p) (hm : m ≤ 3) (f : Nat → Nat) (hf : ∀ i, i < k → f i < k + m) (hu : ∀ i j, i < k → j < k → f i = f j → i = j) :
    rk k (fun i j => joinE k dl (isalE q) (f i) j) k = k := by
  refine mds_of (N := k + m) (E := joinE k dl (isalE q)) (fun c hc => powers_few (x := fun j => ep (toEl q 2) j) hm (fun j _ h => ?_) (fun i j hi hj h => ?_) ?_) f hf hu
  · have := (M.pw_range q.prim j).1
    rw [← two_pow h2 j, h] at this
    have e := El.zero_val (q := q)
    omega
  · have e := congrArg El.val h
    rw [two_pow h2, two_pow h2] at e
    rcases Nat.lt_trichotomy i j with h1 | h1 | h1
    · exact absurd e (M.pw_inj q.prim h1 (by omega))
    · exact h1
    · exact absurd e.symm (M.pw_inj q.prim h1 (by omega))
  · rw [cnt_add] at hc
    have e1 : cnt (fun r => decide (su k (fun j => c j * joinE k dl (isalE q) r j) = 0)) k = cnt (fun j => decide (c j = 0)) k := cnt_congr (fun r hr => by
      have : su k (fun j => c j * joinE k dl (isalE q) r j) = c r := by
        rw [su_one (fun j => c j * joinE k dl (isalE q) r j) hr (fun i hi hne => by rw [joinE, if_pos hr, dl_ne (fun e => hne e.symm), El.mul_zero]), joinE, if_pos hr, dl_self, El.mul_one]
      rw [this])
    have e2 : cnt (fun t => decide (su k (fun j => c j * joinE k dl (isalE q) (k + t) j) = 0)) m = cnt (fun t => decide (su k (fun j => c j * ep (ep (toEl q 2) j) t) = 0)) m := cnt_congr (fun t ht => by
      have : su k (fun j => c j * joinE k dl (isalE q) (k + t) j) = su k (fun j => c j * ep (ep (toEl q 2) j) t) := su_congr (fun j _ => by
        rw [joinE, if_neg (by omega), show k + t - k = t by omega, isalE, ep_turn])
      rw [this])
    rw [e1, e2] at hc
    have := cnt_not (fun j => decide (c j = 0)) k
    omega
end Go.Proofs.YtgdgimknnjbieaaGreatDoor

namespace Go.Proofs.YtgdgimknnjbieaaGreatDoor
open Go.RowKit

abbrev TBo : Nat := 4
abbrev TBos : Nat := 25
theorem infoBo : (Tryz.prog.info? TBo).map (fun i => (i.zero, i.size, i.bytes)) = some (some (.bool false), 1, 1) := by kernel_rfl

/-- the list of those that are chosen, and what was seen -/
structure Cho (l : Nat → Int) (mask k : Nat) (v : Value) (w wr : World) : Prop where
  own : wr.ownsRow (w.heap.size + 1) TI 1 v k ((List.range k).map (i64s l))
  seen : wr.rowIs w.heap.size TBo 20 (fun x => .bool (mask.testBit x))
  bel : Below w.heap.size w wr
  size : w.heap.size + 1 ≤ wr.heap.size
section
variable {l : Nat → Int} {mask k : Nat} {v : Value} {w wr w1 : World}
theorem Cho.start (l : Nat → Int) (w : World) : Cho l 0 0 nilS w (w.alloc (.cells (madeCells #[.bool false] 20) TBo)) :=
  ⟨World.ownsRow_nil _ _ _ _, (World.rowIs_made w (.bool false) 20 TBo).congr (fun x _ => by rw [Nat.zero_testBit]), below_alloc _ _, by simp⟩
theorem Cho.set (h : Cho l mask k v w wr) (a : Nat) : Cho l (mask ||| 1 <<< a) k v w (wr.setCell ⟨w.heap.size, a, none⟩ (.bool true)) := by
  refine ⟨own_turned h.own (Nat.lt_succ_self _) ((Turned.refl w.heap.size wr).setCell a _), (h.seen.set a _).congr (fun x _ => ?_), h.bel.setCell (p := ⟨w.heap.size, a, none⟩) (Nat.le_refl _) _, ?_⟩
  · rw [Nat.testBit_or, Nat.one_shiftLeft, Nat.testBit_two_pow]
    by_cases e : x = a
    · rw [if_pos e, e]; simp
    · rw [if_neg e]
      have : decide (a = x) = false := by simp; omega
      rw [this, Bool.or_false]
  · have := h.size
    simp [World.setCell]
    omega
theorem Cho.drew (h : Cho l mask k v w wr) : Cho l mask k v w wr.drew := ⟨h.own, h.seen, h.bel.drew, h.size⟩
end
end Go.Proofs.YtgdgimknnjbieaaGreatDoor
