/- Layer 4's own first test. -/
import Derived.Test.YtomlfmfahlcedaaMtm
namespace Go.Proofs.Ytomlfmfahlcedaa
open Go.RowKit

/-- the row 2, 3; and 1 everywhere -/
def twoThree (_ j : Nat) : Int := if j = 0 then 2 else 3
def allOne (_ _ : Nat) : Int := 1

theorem row_at {w : World} (c : Array Value) (t : TypeId) (f : Nat → Value) (s : Nat) (hs : w.heap.size = s) (h : ∀ i, i < c.size → c[i]? = some (f i)) : (w.alloc (.cells c t)).rowIs s t c.size f := by
  subst hs
  exact World.rowIs_alloc w c t f h

theorem awake_mats (b : Nat) (w1 W5 : World) (hb : b < w1.heap.size)
    (h5 : ((((w1.alloc (.cells #[.int .i64 2, .int .i64 3] TI)).alloc (.cells #[.slice (some ⟨w1.heap.size, 0, none⟩) 2 2] TIs)).alloc (.cells #[.int .i64 1] TI)).alloc (.cells #[.int .i64 1] TI)).alloc (.cells #[.slice (some ⟨w1.heap.size + 1 + 1, 0, none⟩) 1 1, .slice (some ⟨w1.heap.size + 1 + 1 + 1, 0, none⟩) 1 1] TIs) = W5) :
    Mx b W5 twoThree (fun _ => 2) (some ⟨w1.heap.size + 1, 0, none⟩) 1 ∧ Mx b W5 allOne (fun _ => 1) (some ⟨w1.heap.size + 1 + 1 + 1 + 1, 0, none⟩) 2 ∧ Below w1.heap.size w1 W5 := by
  have r1 := row_at (w := w1) #[.int .i64 2, .int .i64 3] TI (i64s (twoThree 0)) _ rfl (fun i hi => by
    simp at hi
    match i, hi with
    | 0, _ => rfl
    | 1, _ => rfl)
  have r2 := row_at (w := w1.alloc (.cells #[.int .i64 2, .int .i64 3] TI)) #[.slice (some ⟨w1.heap.size, 0, none⟩) 2 2] TIs (fun _ => .slice (some ⟨w1.heap.size, 0, none⟩) 2 2) (w1.heap.size + 1) (by simp) (fun i hi => by
    simp at hi
    subst hi
    rfl)
  have r3 := row_at (w := (w1.alloc (.cells #[.int .i64 2, .int .i64 3] TI)).alloc (.cells #[.slice (some ⟨w1.heap.size, 0, none⟩) 2 2] TIs)) #[.int .i64 1] TI (i64s (allOne 0)) (w1.heap.size + 1 + 1) (by simp) (fun i hi => by
    simp at hi
    subst hi
    rfl)
  have r4 := row_at (w := ((w1.alloc (.cells #[.int .i64 2, .int .i64 3] TI)).alloc (.cells #[.slice (some ⟨w1.heap.size, 0, none⟩) 2 2] TIs)).alloc (.cells #[.int .i64 1] TI)) #[.int .i64 1] TI (i64s (allOne 1)) (w1.heap.size + 1 + 1 + 1) (by simp) (fun i hi => by
    simp at hi
    subst hi
    rfl)
  have r5 := row_at (w := (((w1.alloc (.cells #[.int .i64 2, .int .i64 3] TI)).alloc (.cells #[.slice (some ⟨w1.heap.size, 0, none⟩) 2 2] TIs)).alloc (.cells #[.int .i64 1] TI)).alloc (.cells #[.int .i64 1] TI)) #[.slice (some ⟨w1.heap.size + 1 + 1, 0, none⟩) 1 1, .slice (some ⟨w1.heap.size + 1 + 1 + 1, 0, none⟩) 1 1] TIs (slis (fun r => if r = 0 then some ⟨w1.heap.size + 1 + 1, 0, none⟩ else some ⟨w1.heap.size + 1 + 1 + 1, 0, none⟩) (fun _ => 1) (fun _ => 1)) (w1.heap.size + 1 + 1 + 1 + 1) (by simp) (fun i hi => by
    simp at hi
    match i, hi with
    | 0, _ => rfl
    | 1, _ => rfl)
  subst h5
  refine ⟨⟨fun _ => some ⟨w1.heap.size, 0, none⟩, fun _ => 2, Rd.of_row ((((r2.alloc _).alloc _).alloc _)) (by omega) (by simp), fun r _ => ?_⟩, ⟨_, _, Rd.of_row r5 (by omega) (by simp), fun r hr => ?_⟩, ?_⟩
  · exact (Rd.of_row (((((r1.alloc _).alloc _).alloc _).alloc _)) (by omega) (by simp)).congr (fun j _ => rfl)
  · match r, hr with
    | 0, _ => exact Rd.of_row ((r3.alloc _).alloc _) (by omega) (by simp)
    | 1, _ => exact Rd.of_row (r4.alloc _) (by omega) (by simp)
  · exact (((((Below.refl _ w1).alloc (Nat.le_refl _) _).alloc (by simp) _).alloc (by simp; omega) _).alloc (by simp; omega) _).alloc (by simp; omega) _

theorem mul285' (x : Int) (x0 : 0 ≤ x) (x1 : x ≤ 255) : fmul 285 x 1 = x := by
  rw [fmul_in x0 (by rw [ord285]; omega) (by omega) (by rw [ord285]; omega), show (1 : Int).toNat = 1 from rfl, M.mul_one, M.md_self good285.prim.1 (by rw [ord285]; omega)]
  omega
theorem awake_one : mulF 285 twoThree allOne 2 0 0 = 1 := by
  simp only [mulF, dotN, allOne, twoThree]
  rw [if_pos trivial, if_neg (by omega), mul285' 2 (by omega) (by omega), mul285' 3 (by omega) (by omega)]
  rfl

set_option maxRecDepth 100000 in
set_option maxHeartbeats 2000000 in
theorem awakeM (w : World) : Calls Try.prog 9 #[] w fun e w' => e = .returned (.bool true) ∧ Below w.heap.size w w' := by
  go_enter Try.func9, Try.ntmps9
  go_wp2_with fail
  refine (mfield_no _).mono ?_
  rintro e w1 ⟨b, rfl, h1, hn, hb1⟩
  have hbl := h1.lt
  have H1 := Lib.hid (Live.start (Below.refl _ w) h1 hn hb1)
  clear h1 hn hb1
  obtain ⟨W5, hW5⟩ : ∃ W5, ((((w1.alloc (.cells #[.int .i64 2, .int .i64 3] TI)).alloc (.cells #[.slice (some ⟨w1.heap.size, 0, none⟩) 2 2] TIs)).alloc (.cells #[.int .i64 1] TI)).alloc (.cells #[.int .i64 1] TI)).alloc (.cells #[.slice (some ⟨w1.heap.size + 1 + 1, 0, none⟩) 1 1, .slice (some ⟨w1.heap.size + 1 + 1 + 1, 0, none⟩) 1 1] TIs) = W5 := ⟨_, rfl⟩
  obtain ⟨m1, m2, hb5⟩ := awake_mats b w1 W5 hbl hW5
  have H5 := Lib.hid (H1.out.below hb5)
  have M1 := Lib.hid m1
  have M2 := Lib.hid m2
  clear m1 m2 hb5
  have hma : mayP (M.ord 285) 1 (fun _ => 2) twoThree := ⟨show 1 ≤ 1 ∧ 1 ≤ 20 by omega, show 1 ≤ 2 ∧ 2 ≤ 20 by omega, fun r _ => ⟨rfl, fun j _ => by
    rw [ord285]
    unfold twoThree
    split <;> omega⟩⟩
  have hmb : mayP (M.ord 285) 2 (fun _ => 1) allOne := ⟨show 1 ≤ 2 ∧ 2 ≤ 20 by omega, show 1 ≤ 1 ∧ 1 ≤ 20 by omega, fun r _ => ⟨rfl, fun j _ => by
    rw [ord285]
    unfold allOne
    omega⟩⟩
  have HMA := Lib.hid hma
  have HMB := Lib.hid hmb
  clear hma hmb
  go_wp2_with fail
  refine (mmul_yes 285 b 8 twoThree allOne _ _ 1 2 1 1 2 _ H5.out.1 M1.out M2.out HMA.out HMB.out).mono ?_
  rintro e w6 ⟨A6, c6, rfl, m6, hf6, ht6⟩
  have H6 := Lib.hid (H5.out.next hf6 ht6)
  have hc6 := hf6.c0
  have M6 := Lib.hid m6
  have hmc : mayP 255 1 (fun _ => 1) (mulF 285 twoThree allOne 2) := ⟨show 1 ≤ 1 ∧ 1 ≤ 20 by omega, show 1 ≤ 1 ∧ 1 ≤ 20 by omega, fun r hr => ⟨rfl, fun j hj => by
    obtain rfl : r = 0 := by omega
    obtain rfl : j = 0 := by have : j < 1 := hj; omega
    rw [awake_one]
    omega⟩⟩
  have HMC := Lib.hid hmc
  obtain ⟨As, Cs, r1, r2⟩ := m6
  obtain ⟨ad, rfl, d1⟩ := r1.at_ (show 0 < 1 by omega)
  rw [show ad.add 0 = ad by simp [Addr.add]] at d1
  simp only [slis] at d1
  obtain ⟨ad2, hA2, d2⟩ := (r2 0 (by omega)).at_ (show 0 < 1 by omega)
  rw [show ad2.add 0 = ad2 by simp [Addr.add]] at d2
  simp only [i64s] at d2
  rw [awake_one] at d2
  rw [hA2] at d1
  clear r1 r2 hf6 ht6 hA2 hmc
  go_wp2_with fail
  refine (may_yes b 8 255 (Or.inl ⟨rfl, rfl⟩) _ _ _ 1 c6 _ hc6 M6.out HMC.out).mono ?_
  rintro e w' ⟨rfl, rfl⟩
  go_wp2_with fail
  refine (identity_yes 3 (by unfold side; omega) _).mono ?_
  rintro e w7 ⟨v, rfl, A7, c7, rfl, _, _, hb7⟩
  have H7 := Lib.hid (H6.out.below hb7)
  clear hb7
  go_wp2_with fail
  go_ret
  exact ⟨rfl, H7.out.2.1⟩
end Go.Proofs.Ytomlfmfahlcedaa
