/- Contracts of gambrelref08: Orig, Isal. -/
import Derived.Test.YtgcochamjicjiaaCyi
namespace Go.Proofs.Ytgcochamjicjiaa
open Go.RowKit

/-- what Orig and Isal of the document tell, whatever they are asked -/
def RCAny (q : FP) (b : Nat) (u : Bool) (n m : Nat) (E : Nat → Nat → El q) (w : World) (e : Ending) (w' : World) : Prop :=
  ∃ A c, e = .returned (.tuple #[.slice A (cond u n 0) c, .bool u]) ∧ Mx b w' (ivs E) (fun _ => m) A (cond u n 0) ∧ Below w.heap.size w w'

set_option maxRecDepth 100000 in
set_option maxHeartbeats 2000000 in
theorem rorig_yes (q : FP) (b wd k m : Nat) (hg : Good q.p wd) (hk : 1 ≤ k) (hm : 1 ≤ m) (hkm : k + m ≤ 20) (w : World) (hbw : b < w.heap.size) :
    Calls Try.prog 12 #[.int .i64 wd, .int .u32 q.p, .int .i64 k, .int .i64 m] w (RCAny q b true m k (ofE q (frm 0) (frm m)) w) := by
  have HFT := Lib.hid (show fitsI (k : Int) (m : Int) from ⟨⟨by omega, by omega⟩, ⟨by omega, by omega⟩, by omega⟩)
  have HP := Lib.hid (show ofP (M.ord q.p) m k (frm 0) (frm m) from ⟨⟨by omega, by omega⟩, ⟨by omega, by omega⟩, frm_apart (by have := hg.kind.bounds; omega)⟩)
  have H0 := Lib.hid (rfrom31 0 m (by omega) (by omega))
  have H1 := Lib.hid (rfrom31 m k (by omega) (by omega))
  have HG := Lib.hid hg
  have hk20 : k ≤ 20 := by omega
  have hm20 : m ≤ 20 := by omega
  clear hg hkm
  go_enter Try.func12, Try.ntmps12
  go_wp2_with fail
  refine (rfits24 k m _).mono ?_
  rintro e w' ⟨t, rfl, ht, rfl⟩
  obtain rfl : t = true := ht.2 HFT.out
  clear ht
  go_wp2_with fail
  refine (H0.out _).mono ?_
  rintro e w1 ⟨v1, rfl, ha1⟩
  obtain ⟨A1, c1, rfl, _, hr1⟩ := ha1.rd hbw
  have R1 := Lib.hid hr1
  have B1 := Lib.hid ha1.2
  clear hr1 ha1
  go_wp2_with fail
  refine (H1.out _).mono ?_
  rintro e w2 ⟨v2, rfl, ha2⟩
  have hs1 := B1.out.size
  obtain ⟨A2, c2, rfl, _, hr2⟩ := ha2.rd (show b < w1.heap.size by omega)
  have R2 := Lib.hid hr2
  have R1' := Lib.hid (R1.out.below ha2.2)
  have B2 := Lib.hid (below_tr B1.out ha2.2)
  clear hr2 ha2 R1 B1
  have hs2 := B2.out.size
  go_wp2_with fail
  refine (rof10 q b wd m k HG.out (frm 0) (frm m) A1 A2 c1 c2 _ (by omega) R1'.out R2.out).mono ?_
  rintro e w3 ⟨t, A, c, rfl, ht, hx, hb3⟩
  obtain rfl : t = true := ht.2 HP.out
  have HE := Lib.hid (show RCAny q b true m k (ofE q (frm 0) (frm m)) w (.returned (.tuple #[.slice A m c, .bool true])) w3 from ⟨A, c, rfl, hx, below_tr B2.out hb3⟩)
  clear ht hx hb3
  go_wp2_with fail
  go_ret2
  exact HE.out

set_option maxRecDepth 100000 in
set_option maxHeartbeats 2000000 in
theorem rcisal_yes (q : FP) (b wd k m : Nat) (hg : Good q.p wd) (hk : 1 ≤ k) (hm : 1 ≤ m) (hkm : k + m ≤ 20) (w : World) (hbw : b < w.heap.size) :
    Calls Try.prog 14 #[.int .i64 wd, .int .u32 q.p, .int .i64 k, .int .i64 m] w (RCAny q b true m k (ofE q (frm k) (frm 0)) w) := by
  have HFT := Lib.hid (show fitsI (k : Int) (m : Int) from ⟨⟨by omega, by omega⟩, ⟨by omega, by omega⟩, by omega⟩)
  have HP := Lib.hid (show ofP (M.ord q.p) m k (frm k) (frm 0) from ⟨⟨by omega, by omega⟩, ⟨by omega, by omega⟩, frm_apart' (by have := hg.kind.bounds; omega)⟩)
  have H0 := Lib.hid (rfrom31 k m (by omega) (by omega))
  have H1 := Lib.hid (rfrom31 0 k (by omega) (by omega))
  have HG := Lib.hid hg
  have hk20 : k ≤ 20 := by omega
  have hm20 : m ≤ 20 := by omega
  clear hg hkm
  go_enter Try.func14, Try.ntmps14
  go_wp2_with fail
  refine (rfits24 k m _).mono ?_
  rintro e w' ⟨t, rfl, ht, rfl⟩
  obtain rfl : t = true := ht.2 HFT.out
  clear ht
  go_wp2_with fail
  refine (H0.out _).mono ?_
  rintro e w1 ⟨v1, rfl, ha1⟩
  obtain ⟨A1, c1, rfl, _, hr1⟩ := ha1.rd hbw
  have R1 := Lib.hid hr1
  have B1 := Lib.hid ha1.2
  clear hr1 ha1
  go_wp2_with fail
  refine (H1.out _).mono ?_
  rintro e w2 ⟨v2, rfl, ha2⟩
  have hs1 := B1.out.size
  obtain ⟨A2, c2, rfl, _, hr2⟩ := ha2.rd (show b < w1.heap.size by omega)
  have R2 := Lib.hid hr2
  have R1' := Lib.hid (R1.out.below ha2.2)
  have B2 := Lib.hid (below_tr B1.out ha2.2)
  clear hr2 ha2 R1 B1
  have hs2 := B2.out.size
  go_wp2_with fail
  refine (rof10 q b wd m k HG.out (frm k) (frm 0) A1 A2 c1 c2 _ (by omega) R1'.out R2.out).mono ?_
  rintro e w3 ⟨t, A, c, rfl, ht, hx, hb3⟩
  obtain rfl : t = true := ht.2 HP.out
  have HE := Lib.hid (show RCAny q b true m k (ofE q (frm k) (frm 0)) w (.returned (.tuple #[.slice A m c, .bool true])) w3 from ⟨A, c, rfl, hx, below_tr B2.out hb3⟩)
  clear ht hx hb3
  go_wp2_with fail
  go_ret2
  exact HE.out

set_option maxRecDepth 100000 in
set_option maxHeartbeats 1000000 in
theorem rorig_no (q : FP) (b wd n l : Nat) (E : Nat → Nat → El q) (k m : Int) (hno : ¬ fitsI k m) (w : World) :
    Calls Try.prog 12 #[.int .i64 wd, .int .u32 q.p, .int .i64 k, .int .i64 m] w (RCAny q b false n l E w) := by
  have HE := Lib.hid (show RCAny q b false n l E w (.returned (.tuple #[nilS, .bool false])) w from ⟨none, 0, rfl, Mx.zero, Below.refl _ _⟩)
  have HN := Lib.hid hno
  clear hno
  go_enter Try.func12, Try.ntmps12
  go_wp2_with fail
  refine (rfits24 k m _).mono ?_
  rintro e w' ⟨t, rfl, ht, rfl⟩
  obtain rfl : t = false := by
    cases t
    · rfl
    · exact absurd (ht.1 rfl) HN.out
  clear ht
  go_wp2_with fail
  go_ret2
  exact HE.out

set_option maxRecDepth 100000 in
set_option maxHeartbeats 1000000 in
theorem rcisal_no (q : FP) (b wd n l : Nat) (E : Nat → Nat → El q) (k m : Int) (hno : ¬ fitsI k m) (w : World) :
    Calls Try.prog 14 #[.int .i64 wd, .int .u32 q.p, .int .i64 k, .int .i64 m] w (RCAny q b false n l E w) := by
  have HE := Lib.hid (show RCAny q b false n l E w (.returned (.tuple #[nilS, .bool false])) w from ⟨none, 0, rfl, Mx.zero, Below.refl _ _⟩)
  have HN := Lib.hid hno
  clear hno
  go_enter Try.func14, Try.ntmps14
  go_wp2_with fail
  refine (rfits24 k m _).mono ?_
  rintro e w' ⟨t, rfl, ht, rfl⟩
  obtain rfl : t = false := by
    cases t
    · rfl
    · exact absurd (ht.1 rfl) HN.out
  clear ht
  go_wp2_with fail
  go_ret2
  exact HE.out

theorem rorig_any (q : FP) (b wd : Nat) (hg : Good q.p wd) (k m : Int) (u : Bool) (hu : u = true ↔ fitsI k m) (w : World) (hbw : b < w.heap.size) :
    Calls Try.prog 12 #[.int .i64 wd, .int .u32 q.p, .int .i64 k, .int .i64 m] w (RCAny q b u m.toNat k.toNat (ofE q (frm 0) (frm m.toNat)) w) := by
  cases u
  · exact rorig_no q b wd _ _ _ k m (fun h => by have := hu.2 h; cases this) w
  · obtain ⟨⟨h1, h2⟩, ⟨h3, h4⟩, h5⟩ := hu.1 rfl
    obtain ⟨K, rfl⟩ : ∃ K : Nat, k = K := ⟨k.toNat, by omega⟩
    obtain ⟨N, rfl⟩ : ∃ N : Nat, m = N := ⟨m.toNat, by omega⟩
    rw [Int.toNat_natCast, Int.toNat_natCast]
    exact rorig_yes q b wd K N hg (by omega) (by omega) (by omega) w hbw

theorem rcisal_any (q : FP) (b wd : Nat) (hg : Good q.p wd) (k m : Int) (u : Bool) (hu : u = true ↔ fitsI k m) (w : World) (hbw : b < w.heap.size) :
    Calls Try.prog 14 #[.int .i64 wd, .int .u32 q.p, .int .i64 k, .int .i64 m] w (RCAny q b u m.toNat k.toNat (ofE q (frm k.toNat) (frm 0)) w) := by
  cases u
  · exact rcisal_no q b wd _ _ _ k m (fun h => by have := hu.2 h; cases this) w
  · obtain ⟨⟨h1, h2⟩, ⟨h3, h4⟩, h5⟩ := hu.1 rfl
    obtain ⟨K, rfl⟩ : ∃ K : Nat, k = K := ⟨k.toNat, by omega⟩
    obtain ⟨N, rfl⟩ : ∃ N : Nat, m = N := ⟨m.toNat, by omega⟩
    rw [Int.toNat_natCast, Int.toNat_natCast]
    exact rcisal_yes q b wd K N hg (by omega) (by omega) (by omega) w hbw
end Go.Proofs.Ytgcochamjicjiaa
