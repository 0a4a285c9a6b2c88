/- Package vander's functions, and the document's, of any numbers, in one form. -/
import Derived.Test.YtmpamgnbbomoaaaGreatVdf
namespace Go.Proofs.YtmpamgnbbomoaaaGreat
open Go.RowKit

/-- a matrix, if t; else an error -/
def VAny (q : FP) (b wd : Nat) (t : Bool) (n m : Nat) (E : Nat → Nat → El q) (w : World) (e : Ending) (w' : World) : Prop :=
  ∃ A c, e = .returned (.tuple #[.slice A (cond t n 0) c, .int .i64 (errOf t)]) ∧ Mx b w' (ivs E) (fun _ => m) A (cond t n 0) ∧ Fld q.p b wd w' ∧ Turned b w w'
theorem VAny.yes {q : FP} {b wd n m : Nat} {E : Nat → Nat → El q} {w : World} {e : Ending} {w' : World} (h : VSaid q b wd n m E w e w') : VAny q b wd true n m E w e w' := by
  obtain ⟨A, c, he, _, h1, h2, h3⟩ := h
  exact ⟨A, c, he, h1, h2, h3⟩
theorem VAny.no {q : FP} {b wd n m : Nat} {E : Nat → Nat → El q} {w : World} {e : Ending} {w' : World} (hf : Fld q.p b wd w) (h : e = .returned (.tuple #[nilS, .int .i64 1]) ∧ Below w.heap.size w w') : VAny q b wd false n m E w e w' :=
  ⟨none, 0, h.1, Mx.zero, hf.of_below h.2, Turned.of_below h.2⟩
/-- the document's -/
def RVAny (q : FP) (b : Nat) (t : Bool) (n m : Nat) (E : Nat → Nat → El q) (w : World) (e : Ending) (w' : World) : Prop :=
  ∃ A c, e = .returned (.tuple #[.slice A (cond t n 0) c, .bool t]) ∧ Mx b w' (ivs E) (fun _ => m) A (cond t n 0) ∧ Below w.heap.size w w'
theorem RVAny.yes {q : FP} {b n m : Nat} {E : Nat → Nat → El q} {w : World} {e : Ending} {w' : World} (h : RVSaid q b n m E w e w') : RVAny q b true n m E w e w' := by
  obtain ⟨v, he, A, c, rfl, _, h1, h2⟩ := h
  exact ⟨A, c, he, h1, h2⟩
theorem RVAny.no {q : FP} {b n m : Nat} {E : Nat → Nat → El q} {w : World} {e : Ending} {w' : World} (h : e = .returned (.tuple #[nilS, .bool false]) ∧ w = w') : RVAny q b false n m E w e w' := by
  obtain ⟨rfl, rfl⟩ := h
  exact ⟨none, 0, rfl, Mx.zero, Below.refl _ _⟩

section
variable (q : FP) (b wd : Nat) (k m : Int) (t : Bool) (w : World)
theorem side_nat {n : Int} (h : sideI n) : ∃ N : Nat, n = N ∧ side N := ⟨n.toNat, by have := h.1; omega, by have := h.1; omega, by have := h.2; omega⟩
theorem fits_nat {k m : Int} (h : fitsI k m) : ∃ K N : Nat, k = K ∧ m = N ∧ side K ∧ side N ∧ K + N ≤ 20 := by
  obtain ⟨K, rfl, h1⟩ := side_nat h.1
  obtain ⟨N, rfl, h2⟩ := side_nat h.2.1
  exact ⟨K, N, rfl, rfl, h1, h2, by have := h.2.2; omega⟩
end

theorem vraw_any (q : FP) (b wd : Nat) (k m : Int) (t : Bool) (w : World) (ht : t = true ↔ sideI k ∧ sideI m) (hf : Fld q.p b wd w) :
    Calls Tryz.prog 6 #[.pointer (some ⟨b, 0, none⟩), .int .i64 k, .int .i64 m] w (VAny q b wd t k.toNat m.toNat (rawE q) w) := by
  cases t
  · exact (vraw_no q.p b wd k m (fun h => by have := ht.2 h; cases this) w hf).mono fun _ _ h => VAny.no hf h
  · obtain ⟨h1, h2⟩ := ht.1 rfl
    obtain ⟨K, rfl, s1⟩ := side_nat h1
    obtain ⟨N, rfl, s2⟩ := side_nat h2
    exact (vraw_yes q b wd K N s1 s2 w hf).mono fun _ _ h => VAny.yes h
theorem vsys_any (q : FP) (b wd : Nat) (k m : Int) (t : Bool) (w : World) (ht : t = true ↔ fitsI k m) (hf : Fld q.p b wd w) :
    Calls Tryz.prog 8 #[.pointer (some ⟨b, 0, none⟩), .int .i64 k, .int .i64 m] w (VAny q b wd t (k.toNat + m.toNat) k.toNat (sysE q k.toNat) w) := by
  cases t
  · exact (vsys_no q.p b wd k m (fun h => by have := ht.2 h; cases this) w hf).mono fun _ _ h => VAny.no hf h
  · obtain ⟨K, N, rfl, rfl, s1, s2, s3⟩ := fits_nat (ht.1 rfl)
    exact (vsys_yes q b wd K N s1 s2 s3 w hf).mono fun _ _ h => VAny.yes h
theorem visal_any (q : FP) (b wd : Nat) (k m : Int) (t : Bool) (w : World) (ht : t = true ↔ fitsI k m) (hf : Fld q.p b wd w) :
    Calls Tryz.prog 10 #[.pointer (some ⟨b, 0, none⟩), .int .i64 k, .int .i64 m] w (VAny q b wd t m.toNat k.toNat (isalE q) w) := by
  cases t
  · exact (visal_no q.p b wd k m (fun h => by have := ht.2 h; cases this) w hf).mono fun _ _ h => VAny.no hf h
  · obtain ⟨K, N, rfl, rfl, s1, s2, s3⟩ := fits_nat (ht.1 rfl)
    exact (visal_yes q b wd K N s1 s2 s3 w hf).mono fun _ _ h => VAny.yes h

theorem rraw_any (q : FP) (b wd : Nat) (k m : Int) (t : Bool) (w : World) (ht : t = true ↔ sideI k ∧ sideI m) (hg : Good q.p wd) (hb : b < w.heap.size) :
    Calls Tryz.prog 7 #[.int .i64 wd, .int .u32 q.p, .int .i64 k, .int .i64 m] w (RVAny q b t k.toNat m.toNat (rawE q) w) := by
  cases t
  · exact (rraw_no wd q.p k m (fun h => by have := ht.2 h; cases this) w).mono fun _ _ h => RVAny.no h
  · obtain ⟨h1, h2⟩ := ht.1 rfl
    obtain ⟨K, rfl, s1⟩ := side_nat h1
    obtain ⟨N, rfl, s2⟩ := side_nat h2
    exact (rraw_yes q b wd K N hg s1 s2 w hb).mono fun _ _ h => RVAny.yes h
theorem rsys_any (q : FP) (b wd : Nat) (k m : Int) (t : Bool) (w : World) (ht : t = true ↔ fitsI k m) (hg : Good q.p wd) (hb : b < w.heap.size) :
    Calls Tryz.prog 9 #[.int .i64 wd, .int .u32 q.p, .int .i64 k, .int .i64 m] w (RVAny q b t (k.toNat + m.toNat) k.toNat (sysE q k.toNat) w) := by
  cases t
  · exact (rsys_no wd q.p k m (fun h => by have := ht.2 h; cases this) w).mono fun _ _ h => RVAny.no h
  · obtain ⟨K, N, rfl, rfl, s1, s2, s3⟩ := fits_nat (ht.1 rfl)
    exact (rsys_yes q b wd K N hg s1 s2 s3 w hb).mono fun _ _ h => RVAny.yes h
theorem risal_any (q : FP) (b wd : Nat) (k m : Int) (t : Bool) (w : World) (ht : t = true ↔ fitsI k m) (hg : Good q.p wd) (hb : b < w.heap.size) :
    Calls Tryz.prog 11 #[.int .i64 wd, .int .u32 q.p, .int .i64 k, .int .i64 m] w (RVAny q b t m.toNat k.toNat (isalE q) w) := by
  cases t
  · exact (risal_no wd q.p k m (fun h => by have := ht.2 h; cases this) w).mono fun _ _ h => RVAny.no h
  · obtain ⟨K, N, rfl, rfl, s1, s2, s3⟩ := fits_nat (ht.1 rfl)
    exact (risal_yes q b wd N K hg s2 s1 s3 w hb).mono fun _ _ h => RVAny.yes h

theorem vwas12 (t : Bool) (w : World) : Calls Tryz.prog 12 #[.int .i64 (errOf t), .bool t] w fun e w' => e = .returned (.bool true) ∧ w = w' := by
  cases t
  · exact vwas_no w
  · exact vwas_yes w
end Go.Proofs.YtmpamgnbbomoaaaGreat
