/- Layer 6's own first test, and how its laws choose a field; any rows of the identity and ISA-L's behind it. The contract of gambrelref06's Chosen. -/
import Derived.Test.YtgbipbcejjlpiaaGreatDoorGxo
import Derived.Test.YtgbipbcejjlpiaaGreatDoorGxl
import Derived.Test.YtgbipbcejjlpiaaGreatDoorGxm
import Derived.Test.YtgbipbcejjlpiaaGreatDoorGxk

namespace Go.Proofs.YtgbipbcejjlpiaaGreatDoor
open Go.RowKit

/-- the fields of 8 and of 16 bits -/
def qS : FP := ⟨285, M.prim285⟩
def qL : FP := ⟨69643, M.prim69643⟩

/-- rows behind rows -/
def joinE {q : FP} (k : Nat) (A B : Nat → Nat → El q) (r j : Nat) : El q := if r < k then A r j else B (r - k) j
theorem two_pow {q : FP} (h2 : (2 : Int) ≤ M.ord q.p) (i : Nat) : (ep (toEl q 2) i).val = M.pw 2 q.p i := by
  rw [ep_val]
  have := toEl_val (q := q) (a := 2) ⟨by omega, h2⟩
  rw [show (toEl q 2).val = 2 by omega]
theorem isal_any {q : FP} {k m : Nat} (hk : (k : Int) ≤ M.ord q.p) (h2 : (2 : Int) ≤ M.ord q.p) (hm : m ≤ 3) (f : Nat → Nat) (hf : ∀ i, i < k → f i < k + m) (hu : ∀ i j, i < k → j < k → f i = f j → i = j) :
    rk k (fun i j => joinE k dl (isalE q) (f i) j) k = k := by
  refine mds_of (N := k + m) (E := joinE k dl (isalE q)) (fun c hc => powers_few (x := fun j => ep (toEl q 2) j) hm (fun j _ h => ?_) (fun i j hi hj h => ?_) ?_) f hf hu
  · have := (M.pw_range q.prim j).1
    rw [← two_pow h2 j, h] at this
    have e := El.zero_val (q := q)
    omega
  · have e := congrArg El.val h
    rw [two_pow h2, two_pow h2] at e
    rcases Nat.lt_trichotomy i j with h1 | h1 | h1
    · exact absurd e (M.pw_inj q.prim h1 (by omega))
    · exact h1
    · exact absurd e.symm (M.pw_inj q.prim h1 (by omega))
  · rw [cnt_add] at hc
    have e1 : cnt (fun r => decide (su k (fun j => c j * joinE k dl (isalE q) r j) = 0)) k = cnt (fun j => decide (c j = 0)) k := cnt_congr (fun r hr => by
      have : su k (fun j => c j * joinE k dl (isalE q) r j) = c r := by
        rw [su_one (fun j => c j * joinE k dl (isalE q) r j) hr (fun i hi hne => by rw [joinE, if_pos hr, dl_ne (fun e => hne e.symm), El.mul_zero]), joinE, if_pos hr, dl_self, El.mul_one]
      rw [this])
    have e2 : cnt (fun t => decide (su k (fun j => c j * joinE k dl (isalE q) (k + t) j) = 0)) m = cnt (fun t => decide (su k (fun j => c j * ep (ep (toEl q 2) j) t) = 0)) m := cnt_congr (fun t ht => by
      have : su k (fun j => c j * joinE k dl (isalE q) (k + t) j) = su k (fun j => c j * ep (ep (toEl q 2) j) t) := su_congr (fun j _ => by
        rw [joinE, if_neg (by omega), show k + t - k = t by omega, isalE, ep_turn])
      rw [this])
    rw [e1, e2] at hc
    have := cnt_not (fun j => decide (c j = 0)) k
    omega

/-- a field is chosen -/
def FieldSaid6 (w : World) (e : Ending) (w' : World) : Prop :=
  ∃ (q : FP) (wd b : Nat), e = .returned (.tuple #[.pointer (some ⟨b, 0, none⟩), .int .i64 wd, .int .u32 q.p]) ∧ Fld q.p b wd w' ∧ w.heap.size ≤ b ∧ Below w.heap.size w w'

/-- three rows of two numbers -/
def m32 (x y z u v s : Int) (r j : Nat) : Int := if r = 0 then (if j = 0 then x else y) else if r = 1 then (if j = 0 then z else u) else (if j = 0 then v else s)
theorem mat32 (b : Nat) (x y z u v s : Int) (w W : World) (hb : b < w.heap.size)
    (hW : (((w.alloc (.cells #[.int .i64 x, .int .i64 y] TI)).alloc (.cells #[.int .i64 z, .int .i64 u] TI)).alloc (.cells #[.int .i64 v, .int .i64 s] TI)).alloc (.cells #[.slice (some ⟨w.heap.size, 0, none⟩) 2 2, .slice (some ⟨w.heap.size + 1, 0, none⟩) 2 2, .slice (some ⟨w.heap.size + 1 + 1, 0, none⟩) 2 2] TIs) = W) :
    Mx b W (m32 x y z u v s) (fun _ => 2) (some ⟨w.heap.size + 1 + 1 + 1, 0, none⟩) 3 ∧ Below w.heap.size w W := by
  have r1 := row_at (w := w) #[.int .i64 x, .int .i64 y] TI (i64s (m32 x y z u v s 0)) _ rfl (fun i hi => by
    simp at hi
    match i, hi with
    | 0, _ => rfl
    | 1, _ => rfl)
  have r2 := row_at (w := w.alloc (.cells #[.int .i64 x, .int .i64 y] TI)) #[.int .i64 z, .int .i64 u] TI (i64s (m32 x y z u v s 1)) (w.heap.size + 1) (by simp) (fun i hi => by
    simp at hi
    match i, hi with
    | 0, _ => rfl
    | 1, _ => rfl)
  have r3 := row_at (w := (w.alloc (.cells #[.int .i64 x, .int .i64 y] TI)).alloc (.cells #[.int .i64 z, .int .i64 u] TI)) #[.int .i64 v, .int .i64 s] TI (i64s (m32 x y z u v s 2)) (w.heap.size + 1 + 1) (by simp) (fun i hi => by
    simp at hi
    match i, hi with
    | 0, _ => rfl
    | 1, _ => rfl)
  have r4 := row_at (w := ((w.alloc (.cells #[.int .i64 x, .int .i64 y] TI)).alloc (.cells #[.int .i64 z, .int .i64 u] TI)).alloc (.cells #[.int .i64 v, .int .i64 s] TI)) #[.slice (some ⟨w.heap.size, 0, none⟩) 2 2, .slice (some ⟨w.heap.size + 1, 0, none⟩) 2 2, .slice (some ⟨w.heap.size + 1 + 1, 0, none⟩) 2 2] TIs (slis (fun r => if r = 0 then some ⟨w.heap.size, 0, none⟩ else if r = 1 then some ⟨w.heap.size + 1, 0, none⟩ else some ⟨w.heap.size + 1 + 1, 0, none⟩) (fun _ => 2) (fun _ => 2)) (w.heap.size + 1 + 1 + 1) (by simp) (fun i hi => by
    simp at hi
    match i, hi with
    | 0, _ => rfl
    | 1, _ => rfl
    | 2, _ => rfl)
  subst hW
  refine ⟨⟨_, _, Rd.of_row r4 (by omega) (by simp), fun r hr => ?_⟩, ((((below_alloc w _).alloc (by simp) _).alloc (by simp; omega) _).alloc (by simp; omega) _)⟩
  match r, hr with
  | 0, _ => exact Rd.of_row (((r1.alloc _).alloc _).alloc _) (by omega) (by simp)
  | 1, _ => exact Rd.of_row ((r2.alloc _).alloc _) (by omega) (by simp)
  | 2, _ => exact Rd.of_row (r3.alloc _) (by omega) (by simp)

theorem lone {q : FP} : ((1 : El q).val : Int) = 1 := rfl
theorem awake_isal {r j : Nat} (hr : r < 2) (hj : j < 2) : ivs (isalE qS) r j = m22 1 1 1 2 r j := by
  have ho : M.ord qS.p = 255 := ord285
  have h2 : ((toEl qS 2).val : Int) = 2 := toEl_val ⟨by omega, by omega⟩
  match r, hr, j, hj with
  | 0, _, 0, _ => rfl
  | 0, _, 1, _ => show ((ep (1 : El qS) 1).val : Int) = 1; rw [ep, ep, El.one_mul]; rfl
  | 1, _, 0, _ => rfl
  | 1, _, 1, _ => show ((ep (ep (toEl qS 2) 1) 1).val : Int) = 2; rw [ep, ep, El.one_mul, ep, ep, El.one_mul]; exact h2
theorem awake_raw {r j : Nat} (hr : r < 3) (hj : j < 2) : ivs (rawE qS) r j = m32 1 0 1 1 1 2 r j := by
  have ho : M.ord qS.p = 255 := ord285
  have h : ∀ i : Nat, i < 3 → ((ep (toEl qS (i : Int)) 1).val : Int) = i := fun i hi => by
    rw [ep, ep, El.one_mul]
    exact toEl_val ⟨by omega, by omega⟩
  match r, hr, j, hj with
  | 0, _, 0, _ => rfl
  | 0, _, 1, _ => exact h 0 (by omega)
  | 1, _, 0, _ => rfl
  | 1, _, 1, _ => exact h 1 (by omega)
  | 2, _, 0, _ => rfl
  | 2, _, 1, _ => exact h 2 (by omega)
end Go.Proofs.YtgbipbcejjlpiaaGreatDoor

namespace Go.Proofs.YtgbipbcejjlpiaaGreatDoor
open Go.RowKit
end Go.Proofs.YtgbipbcejjlpiaaGreatDoor
