/- The contracts of gambrelref06's Fits, Raw, Isal and System, and of the law's was. Package vander's functions, and the document's, of any numbers, in one form. -/
import Derived.Test.YtgcochamjicjiaaGreatGxp
import Derived.Test.YtgcochamjicjiaaGreatGxn

namespace Go.Proofs.YtgcochamjicjiaaGreat
open Go.RowKit

theorem isalE_ex {q : FP} (h2 : (2 : Int) ≤ M.ord q.p) (i j : Nat) : ivs (isalE q) i j = (M.ex q.p ((i : Int) * (j : Int)) : Nat) := by
  have e : M.ex q.p ((i : Int) * (j : Int)) = M.pw 2 q.p (i * j) := by rw [← Int.natCast_mul, M.ex_nat q.prim]
  rw [e, ← two_pow h2]
  unfold ivs isalE
  rw [ep_mul]

/-- in the inner loops -/
def RowIn (m : Nat) (l : Nat → Int) (wi : World) (s12 s13 : Value) (wr : World) : Prop := ∃ j : Nat, j ≤ m ∧ s13 = .int .i64 j ∧ App wi TI (i64s l) j s12 wr
/-- a matrix of the document's -/
def RVSaid (q : FP) (b n m : Nat) (E : Nat → Nat → El q) (w : World) (e : Ending) (w' : World) : Prop := ∃ v, e = .returned (.tuple #[v, .bool true]) ∧ MTold b n (ivs E) (fun _ => m) w v w'

/-- the same, as its rows lie in memory: they are the call's own -/
def RVSaidO (q : FP) (b n m : Nat) (E : Nat → Nat → El q) (w : World) (e : Ending) (w' : World) : Prop := ∃ v, e = .returned (.tuple #[v, .bool true]) ∧ MApp b w (ivs E) (fun _ => m) n v w'
end Go.Proofs.YtgcochamjicjiaaGreat

namespace Go.Proofs.YtgcochamjicjiaaGreat
open Go.RowKit

/-- a matrix, if t; else an error -/
def VAny (q : FP) (b wd : Nat) (t : Bool) (n m : Nat) (E : Nat → Nat → El q) (w : World) (e : Ending) (w' : World) : Prop :=
  ∃ A c, e = .returned (.tuple #[.slice A (cond t n 0) c, .int .i64 (errOf t)]) ∧ Mx b w' (ivs E) (fun _ => m) A (cond t n 0) ∧ Fld q.p b wd w' ∧ Turned b w w'
theorem VAny.yes {q : FP} {b wd n m : Nat} {E : Nat → Nat → El q} {w : World} {e : Ending} {w' : World} (h : VSaid q b wd n m E w e w') : VAny q b wd true n m E w e w' := by
  obtain ⟨A, c, he, _, h1, h2, h3⟩ := h
  exact ⟨A, c, he, h1, h2, h3⟩
theorem VAny.no {q : FP} {b wd n m : Nat} {E : Nat → Nat → El q} {w : World} {e : Ending} {w' : World} (hf : Fld q.p b wd w) (h : e = .returned (.tuple #[nilS, .int .i64 1]) ∧ Below w.heap.size w w') : VAny q b wd false n m E w e w' :=
  ⟨none, 0, h.1, Mx.zero, hf.of_below h.2, Turned.of_below h.2⟩
/-- the document's -/
def RVAny (q : FP) (b : Nat) (t : Bool) (n m : Nat) (E : Nat → Nat → El q) (w : World) (e : Ending) (w' : World) : Prop :=
  ∃ A c, e = .returned (.tuple #[.slice A (cond t n 0) c, .bool t]) ∧ Mx b w' (ivs E) (fun _ => m) A (cond t n 0) ∧ Below w.heap.size w w'
theorem RVAny.yes {q : FP} {b n m : Nat} {E : Nat → Nat → El q} {w : World} {e : Ending} {w' : World} (h : RVSaid q b n m E w e w') : RVAny q b true n m E w e w' := by
  obtain ⟨v, he, A, c, rfl, _, h1, h2⟩ := h
  exact ⟨A, c, he, h1, h2⟩
theorem RVAny.no {q : FP} {b n m : Nat} {E : Nat → Nat → El q} {w : World} {e : Ending} {w' : World} (h : e = .returned (.tuple #[nilS, .bool false]) ∧ w = w') : RVAny q b false n m E w e w' := by
  obtain ⟨rfl, rfl⟩ := h
  exact ⟨none, 0, rfl, Mx.zero, Below.refl _ _⟩

section
variable (q : FP) (b wd : Nat) (k m : Int) (t : Bool) (w : World)
theorem side_nat {n : Int} (h : sideI n) : ∃ N : Nat, n = N ∧ side N := ⟨n.toNat, by have := h.1; omega, by have := h.1; omega, by have := h.2; omega⟩
theorem fits_nat {k m : Int} (h : fitsI k m) : ∃ K N : Nat, k = K ∧ m = N ∧ side K ∧ side N ∧ K + N ≤ 20 := by
  obtain ⟨K, rfl, h1⟩ := side_nat h.1
  obtain ⟨N, rfl, h2⟩ := side_nat h.2.1
  exact ⟨K, N, rfl, rfl, h1, h2, by have := h.2.2; omega⟩
end
end Go.Proofs.YtgcochamjicjiaaGreat
