/- The contracts of package cauchy: Orig, Isal. -/
import Derived.Test.YtgcochamjicjiaaGreatCyc
namespace Go.Proofs.YtgcochamjicjiaaGreat
open Go.RowKit

/-- what Orig and Isal tell, whatever they are asked -/
def CAny (q : FP) (b wd : Nat) (u : Bool) (n m : Nat) (E : Nat → Nat → El q) (w : World) (e : Ending) (w' : World) : Prop :=
  ∃ A c, e = .returned (.tuple #[.slice A (cond u n 0) c, .int .i64 (errOf u)]) ∧ cond u n 0 ≤ c ∧ Mx b w' (ivs E) (fun _ => m) A (cond u n 0) ∧ Fld q.p b wd w' ∧ Turned b w w'
theorem frm_apart {k m c : Nat} (hkm : k + m ≤ c) : apartP c (catL m (frm 0) (frm m)) (m + k) := fun i hi => by
  have h : ∀ j, catL m (frm 0) (frm m) j = (j : Int) := fun j => by
    unfold catL frm
    split <;> omega
  rw [h]
  exact ⟨by omega, fun j hj => by rw [h]; omega⟩
theorem frm_apart' {k m c : Nat} (hkm : k + m ≤ c) : apartP c (catL m (frm k) (frm 0)) (m + k) := fun i hi => by
  have h : ∀ j, catL m (frm k) (frm 0) j = if j < m then (k : Int) + j else (j : Int) - m := fun j => by
    unfold catL frm
    split <;> omega
  rw [h]
  refine ⟨by split <;> omega, fun j hj => ?_⟩
  rw [h]
  split <;> split <;> omega
theorem frm_in {a n : Nat} (ha : a ≤ 1000) (hn : n ≤ 100) : ∀ i, i < n → -9223372036854775808 ≤ frm a i ∧ frm a i ≤ 9223372036854775807 := fun i hi => by
  unfold frm
  omega

set_option maxRecDepth 100000 in
set_option maxHeartbeats 2000000 in
theorem orig_yes (q : FP) (b wd k m : Nat) (hk : 1 ≤ k) (hm : 1 ≤ m) (hkm : k + m ≤ 20) (w : World) (hf : Fld q.p b wd w) :
    Calls Tryz.prog 10 #[.pointer (some ⟨b, 0, none⟩), .int .i64 k, .int .i64 m] w (CAny q b wd true m k (ofE q (frm 0) (frm m)) w) := by
  have hbl := hf.lt
  have HF := Lib.hid hf
  have HFT := Lib.hid (show fitsI (k : Int) (m : Int) from ⟨⟨by omega, by omega⟩, ⟨by omega, by omega⟩, by omega⟩)
  have HP := Lib.hid (show ofP (M.ord q.p) m k (frm 0) (frm m) from ⟨⟨by omega, by omega⟩, ⟨by omega, by omega⟩, frm_apart (by have := hf.1.kind.bounds; omega)⟩)
  have H0 := Lib.hid (from29 0 m (by omega) (by omega))
  have H1 := Lib.hid (from29 m k (by omega) (by omega))
  have N0 := Lib.hid (frm_in (a := 0) (n := m) (by omega) (by omega))
  have N1 := Lib.hid (frm_in (a := m) (n := k) (by omega) (by omega))
  have hk20 : k ≤ 20 := by omega
  have hm20 : m ≤ 20 := by omega
  clear hf hkm
  go_enter Tryz.func10, Tryz.ntmps10
  go_wp2_with fail
  refine (ccode28 k m (by omega) _).mono ?_
  rintro e w' ⟨t, rfl, ht, rfl⟩
  obtain rfl : t = true := ht.2 HFT.out
  clear ht
  go_wp2_with fail
  refine (H0.out _).mono ?_
  rintro e w1 ⟨rfl, hr1, hb1⟩
  have R1 := Lib.hid hr1
  have B1 := Lib.hid hb1
  clear hr1 hb1
  go_wp2_with fail
  refine (H1.out _).mono ?_
  rintro e w2 ⟨rfl, hr2, hb2⟩
  have hs1 := B1.out.size
  have HA := Lib.hid (show Rd b w2 (i64s (frm 0)) (some ⟨w.heap.size, 0, none⟩) m from (Rd.of_row R1.out (by omega) (Nat.le_refl _)).below hb2)
  have HB := Lib.hid (show Rd b w2 (i64s (frm m)) (some ⟨w1.heap.size, 0, none⟩) k from Rd.of_row hr2 (by omega) (Nat.le_refl _))
  have B2 := Lib.hid (below_tr B1.out hb2)
  clear hr2 hb2 R1 B1
  go_wp2_with fail
  refine (of_any q b wd m k (frm 0) (frm m) _ _ m k N0.out N1.out _ (HF.out.of_below B2.out) HA.out HB.out).mono ?_
  rintro e w3 ⟨t, A, c, rfl, ht, hc, hx, hf3, ht3⟩
  obtain rfl : t = true := ht.2 HP.out
  have HE := Lib.hid (show CAny q b wd true m k (ofE q (frm 0) (frm m)) w (.returned (.tuple #[.slice A m c, .int .i64 0])) w3 from ⟨A, c, rfl, hc, hx, hf3, (Turned.of_below B2.out).trans ht3⟩)
  clear ht hc hx hf3 ht3
  go_wp2_with fail
  go_ret2
  exact HE.out

set_option maxRecDepth 100000 in
set_option maxHeartbeats 2000000 in
theorem cisal_yes (q : FP) (b wd k m : Nat) (hk : 1 ≤ k) (hm : 1 ≤ m) (hkm : k + m ≤ 20) (w : World) (hf : Fld q.p b wd w) :
    Calls Tryz.prog 11 #[.pointer (some ⟨b, 0, none⟩), .int .i64 k, .int .i64 m] w (CAny q b wd true m k (ofE q (frm k) (frm 0)) w) := by
  have hbl := hf.lt
  have HF := Lib.hid hf
  have HFT := Lib.hid (show fitsI (k : Int) (m : Int) from ⟨⟨by omega, by omega⟩, ⟨by omega, by omega⟩, by omega⟩)
  have HP := Lib.hid (show ofP (M.ord q.p) m k (frm k) (frm 0) from ⟨⟨by omega, by omega⟩, ⟨by omega, by omega⟩, frm_apart' (by have := hf.1.kind.bounds; omega)⟩)
  have H0 := Lib.hid (from29 k m (by omega) (by omega))
  have H1 := Lib.hid (from29 0 k (by omega) (by omega))
  have N0 := Lib.hid (frm_in (a := k) (n := m) (by omega) (by omega))
  have N1 := Lib.hid (frm_in (a := 0) (n := k) (by omega) (by omega))
  have hk20 : k ≤ 20 := by omega
  have hm20 : m ≤ 20 := by omega
  clear hf hkm
  go_enter Tryz.func11, Tryz.ntmps11
  go_wp2_with fail
  refine (ccode28 k m (by omega) _).mono ?_
  rintro e w' ⟨t, rfl, ht, rfl⟩
  obtain rfl : t = true := ht.2 HFT.out
  clear ht
  go_wp2_with fail
  refine (H0.out _).mono ?_
  rintro e w1 ⟨rfl, hr1, hb1⟩
  have R1 := Lib.hid hr1
  have B1 := Lib.hid hb1
  clear hr1 hb1
  go_wp2_with fail
  refine (H1.out _).mono ?_
  rintro e w2 ⟨rfl, hr2, hb2⟩
  have hs1 := B1.out.size
  have HA := Lib.hid (show Rd b w2 (i64s (frm k)) (some ⟨w.heap.size, 0, none⟩) m from (Rd.of_row R1.out (by omega) (Nat.le_refl _)).below hb2)
  have HB := Lib.hid (show Rd b w2 (i64s (frm 0)) (some ⟨w1.heap.size, 0, none⟩) k from Rd.of_row hr2 (by omega) (Nat.le_refl _))
  have B2 := Lib.hid (below_tr B1.out hb2)
  clear hr2 hb2 R1 B1
  go_wp2_with fail
  refine (of_any q b wd m k (frm k) (frm 0) _ _ m k N0.out N1.out _ (HF.out.of_below B2.out) HA.out HB.out).mono ?_
  rintro e w3 ⟨t, A, c, rfl, ht, hc, hx, hf3, ht3⟩
  obtain rfl : t = true := ht.2 HP.out
  have HE := Lib.hid (show CAny q b wd true m k (ofE q (frm k) (frm 0)) w (.returned (.tuple #[.slice A m c, .int .i64 0])) w3 from ⟨A, c, rfl, hc, hx, hf3, (Turned.of_below B2.out).trans ht3⟩)
  clear ht hc hx hf3 ht3
  go_wp2_with fail
  go_ret2
  exact HE.out

set_option maxRecDepth 100000 in
set_option maxHeartbeats 1000000 in
theorem orig_no (q : FP) (b wd n l : Nat) (E : Nat → Nat → El q) (k m : Int) (hk63 : k ≤ 9223372036854775807) (hno : ¬ fitsI k m) (w : World) (hf : Fld q.p b wd w) :
    Calls Tryz.prog 10 #[.pointer (some ⟨b, 0, none⟩), .int .i64 k, .int .i64 m] w (CAny q b wd false n l E w) := by
  have HE := Lib.hid (show CAny q b wd false n l E w (.returned (.tuple #[nilS, .int .i64 1])) w from ⟨none, 0, rfl, Nat.le_refl _, Mx.zero, hf, Turned.refl _ _⟩)
  have HN := Lib.hid hno
  clear hf hno
  go_enter Tryz.func10, Tryz.ntmps10
  go_wp2_with fail
  refine (ccode28 k m hk63 _).mono ?_
  rintro e w' ⟨t, rfl, ht, rfl⟩
  obtain rfl : t = false := by
    cases t
    · rfl
    · exact absurd (ht.1 rfl) HN.out
  clear ht
  go_wp2_with fail
  go_ret2
  exact HE.out

set_option maxRecDepth 100000 in
set_option maxHeartbeats 1000000 in
theorem cisal_no (q : FP) (b wd n l : Nat) (E : Nat → Nat → El q) (k m : Int) (hk63 : k ≤ 9223372036854775807) (hno : ¬ fitsI k m) (w : World) (hf : Fld q.p b wd w) :
    Calls Tryz.prog 11 #[.pointer (some ⟨b, 0, none⟩), .int .i64 k, .int .i64 m] w (CAny q b wd false n l E w) := by
  have HE := Lib.hid (show CAny q b wd false n l E w (.returned (.tuple #[nilS, .int .i64 1])) w from ⟨none, 0, rfl, Nat.le_refl _, Mx.zero, hf, Turned.refl _ _⟩)
  have HN := Lib.hid hno
  clear hf hno
  go_enter Tryz.func11, Tryz.ntmps11
  go_wp2_with fail
  refine (ccode28 k m hk63 _).mono ?_
  rintro e w' ⟨t, rfl, ht, rfl⟩
  obtain rfl : t = false := by
    cases t
    · rfl
    · exact absurd (ht.1 rfl) HN.out
  clear ht
  go_wp2_with fail
  go_ret2
  exact HE.out

theorem orig_any (q : FP) (b wd : Nat) (k m : Int) (hk63 : k ≤ 9223372036854775807) (u : Bool) (hu : u = true ↔ fitsI k m) (w : World) (hf : Fld q.p b wd w) :
    Calls Tryz.prog 10 #[.pointer (some ⟨b, 0, none⟩), .int .i64 k, .int .i64 m] w (CAny q b wd u m.toNat k.toNat (ofE q (frm 0) (frm m.toNat)) w) := by
  cases u
  · exact orig_no q b wd _ _ _ k m hk63 (fun h => by have := hu.2 h; cases this) w hf
  · obtain ⟨⟨h1, h2⟩, ⟨h3, h4⟩, h5⟩ := hu.1 rfl
    obtain ⟨K, rfl⟩ : ∃ K : Nat, k = K := ⟨k.toNat, by omega⟩
    obtain ⟨N, rfl⟩ : ∃ N : Nat, m = N := ⟨m.toNat, by omega⟩
    rw [Int.toNat_natCast, Int.toNat_natCast]
    exact orig_yes q b wd K N (by omega) (by omega) (by omega) w hf

theorem cisal_any (q : FP) (b wd : Nat) (k m : Int) (hk63 : k ≤ 9223372036854775807) (u : Bool) (hu : u = true ↔ fitsI k m) (w : World) (hf : Fld q.p b wd w) :
    Calls Tryz.prog 11 #[.pointer (some ⟨b, 0, none⟩), .int .i64 k, .int .i64 m] w (CAny q b wd u m.toNat k.toNat (ofE q (frm k.toNat) (frm 0)) w) := by
  cases u
  · exact cisal_no q b wd _ _ _ k m hk63 (fun h => by have := hu.2 h; cases this) w hf
  · obtain ⟨⟨h1, h2⟩, ⟨h3, h4⟩, h5⟩ := hu.1 rfl
    obtain ⟨K, rfl⟩ : ∃ K : Nat, k = K := ⟨k.toNat, by omega⟩
    obtain ⟨N, rfl⟩ : ∃ N : Nat, m = N := ⟨m.toNat, by omega⟩
    rw [Int.toNat_natCast, Int.toNat_natCast]
    exact cisal_yes q b wd K N (by omega) (by omega) (by omega) w hf
end Go.Proofs.YtgcochamjicjiaaGreat
