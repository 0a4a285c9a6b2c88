/- Package jvan's functions, and the document's, of any numbers, in one form; the law's was. -/
import Derived.Test.YtecnfkchlebafaaGreatJvg
import Derived.Test.YtecnfkchlebafaaGreatJve
namespace Go.Proofs.YtecnfkchlebafaaGreat
open Go.RowKit

set_option maxRecDepth 100000 in
theorem rpar_no (wd p : Nat) (k m : Int) (hno : ¬ fitsI k m) (w : World) :
    Calls Tryz.prog 9 #[.int .i64 wd, .int .u32 p, .int .i64 k, .int .i64 m] w fun e w' => e = .returned (.tuple #[nilS, .bool false]) ∧ w = w' := by
  have HX := Lib.hid (rext_no wd p k m hno w)
  clear hno
  go_enter Tryz.func9, Tryz.ntmps9
  go_wp2_with fail
  refine HX.out.mono ?_
  rintro e w' ⟨rfl, rfl⟩
  clear HX
  go_wp2_with fail
  go_ret2
  exact ⟨rfl, rfl⟩

theorem jext_any (q : FP) (b wd : Nat) (k m : Int) (hk63 : k ≤ 9223372036854775807) (t : Bool) (w : World) (ht : t = true ↔ fitsI k m) (hf : Fld q.p b wd w) :
    Calls Tryz.prog 6 #[.pointer (some ⟨b, 0, none⟩), .int .i64 k, .int .i64 m] w (VAny q b wd t (k.toNat + m.toNat) k.toNat (extE q k.toNat (k.toNat + m.toNat)) w) := by
  cases t
  · exact (jext_no q.p b wd k m hk63 (fun h => by have := ht.2 h; cases this) w hf).mono fun _ _ h => VAny.no hf h
  · obtain ⟨K, N, rfl, rfl, s1, s2, s3⟩ := fits_nat (ht.1 rfl)
    exact (jext_yes q b wd K N s1 s2 s3 w hf).mono fun _ _ h => VAny.yes h
theorem jpar_any (q : FP) (b wd : Nat) (k m : Int) (hk63 : k ≤ 9223372036854775807) (t : Bool) (w : World) (ht : t = true ↔ fitsI k m) (hf : Fld q.p b wd w) :
    Calls Tryz.prog 8 #[.pointer (some ⟨b, 0, none⟩), .int .i64 k, .int .i64 m] w (VAny q b wd t m.toNat k.toNat (parE q k.toNat (k.toNat + m.toNat)) w) := by
  cases t
  · exact (jpar_no q.p b wd k m hk63 (fun h => by have := ht.2 h; cases this) w hf).mono fun _ _ h => VAny.no hf h
  · obtain ⟨K, N, rfl, rfl, s1, s2, s3⟩ := fits_nat (ht.1 rfl)
    exact (jpar_yes q b wd K N s1 s2 s3 w hf).mono fun _ _ h => VAny.yes h
theorem rext_any (q : FP) (b wd : Nat) (k m : Int) (t : Bool) (w : World) (ht : t = true ↔ fitsI k m) (hg : Good q.p wd) (hb : b < w.heap.size) :
    Calls Tryz.prog 7 #[.int .i64 wd, .int .u32 q.p, .int .i64 k, .int .i64 m] w (RVAny q b t (k.toNat + m.toNat) k.toNat (extE q k.toNat (k.toNat + m.toNat)) w) := by
  cases t
  · exact (rext_no wd q.p k m (fun h => by have := ht.2 h; cases this) w).mono fun _ _ h => RVAny.no h
  · obtain ⟨K, N, rfl, rfl, s1, s2, s3⟩ := fits_nat (ht.1 rfl)
    exact (rext_yes q b wd K N hg s1 s2 s3 w hb).mono fun _ _ h => RVAny.yes h
theorem rpar_any (q : FP) (b wd : Nat) (k m : Int) (t : Bool) (w : World) (ht : t = true ↔ fitsI k m) (hg : Good q.p wd) (hb : b < w.heap.size) :
    Calls Tryz.prog 9 #[.int .i64 wd, .int .u32 q.p, .int .i64 k, .int .i64 m] w (RVAny q b t m.toNat k.toNat (parE q k.toNat (k.toNat + m.toNat)) w) := by
  cases t
  · exact (rpar_no wd q.p k m (fun h => by have := ht.2 h; cases this) w).mono fun _ _ h => RVAny.no h
  · obtain ⟨K, N, rfl, rfl, s1, s2, s3⟩ := fits_nat (ht.1 rfl)
    exact (rpar_yes q b wd K N hg s1 s2 s3 w hb).mono fun _ _ h => RVAny.yes h

set_option maxRecDepth 100000 in
theorem jwas_yes (w : World) : Calls Tryz.prog 10 #[.int .i64 0, .bool true] w fun e w' => e = .returned (.bool true) ∧ w = w' := by
  go_enter Tryz.func10, Tryz.ntmps10
  go_wp2_with fail
  go_ret
  exact ⟨rfl, rfl⟩
theorem jwas_no (w : World) : Calls Tryz.prog 10 #[.int .i64 1, .bool false] w fun e w' => e = .returned (.bool true) ∧ w = w' := by
  go_enter Tryz.func10, Tryz.ntmps10
  go_wp2_with fail
  go_ret
  exact ⟨rfl, rfl⟩
theorem jwas12 (t : Bool) (w : World) : Calls Tryz.prog 10 #[.int .i64 (errOf t), .bool t] w fun e w' => e = .returned (.bool true) ∧ w = w' := by
  cases t
  · exact jwas_no w
  · exact jwas_yes w
end Go.Proofs.YtecnfkchlebafaaGreat
