/- The contracts of package vander: its two closures, Raw and Isal. -/
import Derived.Test.YtmpamgnbbomoaaaGreatVda
namespace Go.Proofs.YtmpamgnbbomoaaaGreat
open Go.RowKit

/-- rows of powers -/
def rawE (q : FP) (i j : Nat) : El q := ep (toEl q (i : Int)) j
/-- ISA-L's rows of powers -/
def isalE (q : FP) (i j : Nat) : El q := ep (ep (toEl q 2) i) j
theorem rawE_val {q : FP} {i : Nat} (hi : (i : Int) ≤ M.ord q.p) (j : Nat) : ivs (rawE q) i j = fpow q.p i j := (fpow_el ⟨by omega, hi⟩ j).symm
theorem isalE_val {q : FP} (h2 : (2 : Int) ≤ M.ord q.p) (i j : Nat) : ivs (isalE q) i j = fpow q.p (fpow q.p 2 i) j := by
  have h1 := fpow_el (q := q) (a := 2) ⟨by omega, h2⟩ i
  have h3 := (ep (toEl q 2) i).le
  rw [h1, fpow_el ⟨by omega, by omega⟩ j, toEl_of]
  rfl

set_option maxRecDepth 100000 in
theorem raw34 (p b wd n m bf : Nat) (hm : m ≤ 100) : ClosAns 18 p b wd n m bf (fun i j => fpow p i j) := by
  intro i j W hi hj hf hb
  have HF := Lib.hid hf
  clear hf
  go_enter Tryz.func18, Tryz.ntmps18
  go_wp2_with fail
  refine (fpow21 p b wd _ _ (by omega) _ HF.out).mono ?_
  rintro e w1 ⟨rfl, h1, t1⟩
  have HP := Lib.hid (show Ans p b wd W (.int .i64 (fpow p i j)) (.returned (.int .i64 (fpow p i j))) w1 from ⟨rfl, h1, t1⟩)
  clear h1 t1 hb
  go_wp2_with fail
  go_ret
  exact HP.out

set_option maxRecDepth 100000 in
set_option maxHeartbeats 2000000 in
theorem isal29 (p b wd n m bf : Nat) (hn : n ≤ 100) (hm : m ≤ 100) (hbf : bf ≠ b) : ClosAns 27 p b wd n m bf (fun i j => fpow p (fpow p 2 i) j) := by
  intro i j W hi hj hf hb
  have HF := Lib.hid hf
  have KEEP := Lib.hid (show ∀ W', Turned b W W' → W'.cell? ⟨bf, 0, none⟩ = some (.pointer (some ⟨b, 0, none⟩)) from fun W' ht => (ht.cell (World.block_lt_of_cell? _ _ hb) hbf).trans hb)
  obtain ⟨x, hx⟩ : ∃ x, fpow p 2 i = x := ⟨_, rfl⟩
  show Calls Tryz.prog 27 #[.int .i64 i, .int .i64 j, .pointer (some ⟨bf, 0, none⟩)] W (Ans p b wd W (.int .i64 (fpow p (fpow p 2 i) j)))
  rw [hx]
  have HX := Lib.hid hx
  clear hf hx
  go_enter Tryz.func27, Tryz.ntmps27
  go_wp2_with fail
  have C1 := Lib.hid (fpow21 p b wd 2 i (by omega) W.drew HF.out.drew)
  rw [HX.out] at C1
  have C2 := Lib.hid (fun w2 hf2 => fpow21 p b wd x j (by omega) w2 hf2)
  go_region_with (first | (go_at_call_of 19 (Value.int IntKind.i64 x); refine (C2.out w2 hf2).mono ?_; rintro e w3 ⟨rfl, hf3, ht3⟩) | (go_at_call_of 19 (Value.int IntKind.i64 2); refine C1.out.mono ?_; rintro e w2 ⟨rfl, hf2, ht2⟩; have e1 := KEEP.out _ ((Turned.refl b W).drew.trans ht2)))
  all_goals
    have HP := Lib.hid (show Ans p b wd W (.int .i64 (fpow p x j)) (.returned (.int .i64 (fpow p x j))) w3 from ⟨rfl, hf3, ((Turned.refl b W).drew.trans ht2).trans ht3⟩)
    clear hf2 ht2 hf3 ht3 e1 hb
    go_wp2_with fail
    go_ret
    exact HP.out

/-- a matrix is told -/
def VSaid (q : FP) (b wd n m : Nat) (E : Nat → Nat → El q) (w : World) (e : Ending) (w' : World) : Prop :=
  ∃ A c, e = .returned (.tuple #[.slice A n c, .int .i64 0]) ∧ n ≤ c ∧ Mx b w' (ivs E) (fun _ => m) A n ∧ Fld q.p b wd w' ∧ Turned b w w'
theorem VSaid.of_mad {q : FP} {b wd n m : Nat} {E : Nat → Nat → El q} {G : Nat → Nat → Int} {w w1 w2 : World} {g : Nat} (hE : ∀ i, i < n → ∀ j, ivs E i j = G i j) (ht : Turned b w w1) (h1 : Mx b w2 G (fun _ => m) (some ⟨g, 0, none⟩) n) (h2 : Fld q.p b wd w2) (h3 : Turned b w1 w2) :
    VSaid q b wd n m E w (.returned (.tuple #[.slice (some ⟨g, 0, none⟩) n n, .int .i64 0])) w2 :=
  ⟨_, _, rfl, Nat.le_refl _, h1.congr (fun _ _ => rfl) (fun r hr j _ => (hE r hr j).symm), h2, ht.trans h3⟩

set_option maxRecDepth 100000 in
set_option maxHeartbeats 1000000 in
theorem vraw_yes (q : FP) (b wd n m : Nat) (hn : side n) (hm : side m) (w : World) (hf : Fld q.p b wd w) :
    Calls Tryz.prog 6 #[.pointer (some ⟨b, 0, none⟩), .int .i64 n, .int .i64 m] w (VSaid q b wd n m (rawE q) w) := by
  have hkd := hf.1.kind
  have hkb := hkd.bounds
  have hbl := hf.lt
  have hn1 := hn.1
  have hn2 := hn.2
  have hm1 := hm.1
  have hm2 := hm.2
  have hmf : ∀ (fn : Fn) (first cap : Array Value) (w : World), (Instr.makeFunc fn first cap).run Tryz.prog w = .ok (.func fn first cap) w := fun _ _ _ _ => rfl
  have hb1 : Below w.heap.size w (w.alloc (.cells #[.pointer (some ⟨b, 0, none⟩)] TPF)) := below_alloc _ _
  have hc1 : (w.alloc (.cells #[.pointer (some ⟨b, 0, none⟩)] TPF)).cell? ⟨w.heap.size, 0, none⟩ = some (.pointer (some ⟨b, 0, none⟩)) := by simp
  obtain ⟨w1, hw1⟩ : ∃ w1, w.alloc (.cells #[.pointer (some ⟨b, 0, none⟩)] TPF) = w1 := ⟨_, rfl⟩
  rw [hw1] at hb1 hc1
  have HF1 := Lib.hid (hf.of_below hb1)
  have hc0 := HF1.out.c0
  have HB1 := Lib.hid (Turned.of_below (b := b) hb1)
  have HC := Lib.hid hc1
  have HN := Lib.hid (show sideI (n : Int) ∧ sideI (m : Int) from ⟨⟨by omega, by omega⟩, by omega, by omega⟩)
  clear hf hb1 hn hm
  go_enter Tryz.func6, Tryz.ntmps6
  go_wp2_with fail
  refine (vfield_yes b wd _ hkd _ hc0).mono ?_
  rintro e w' ⟨rfl, rfl⟩
  go_wp2_with fail
  refine (vside33 n _).mono ?_
  rintro e w' ⟨t, rfl, ht, rfl⟩
  obtain rfl : t = true := ht.2 HN.out.1
  clear ht
  go_wp2_with fail
  refine (vside33 m _).mono ?_
  rintro e w' ⟨t, rfl, ht, rfl⟩
  obtain rfl : t = true := ht.2 HN.out.2
  clear ht
  go_wp2_with fail
  refine (made_raw q.p b wd n m w.heap.size (fun i j => fpow q.p i j) (by omega) (by omega) _ HF1.out HC.out (by omega) (raw34 q.p b wd n m w.heap.size (by omega))).mono ?_
  rintro e w2 ⟨g, rfl, h1, h2, h3⟩
  have HE := Lib.hid (VSaid.of_mad (E := rawE q) (fun i hi j => rawE_val (by omega) j) HB1.out h1 h2 h3)
  clear h1 h2 h3
  go_wp2_with fail
  go_ret2
  exact HE.out

set_option maxRecDepth 100000 in
set_option maxHeartbeats 1000000 in
theorem vraw_nil (n m : Int) (w : World) :
    Calls Tryz.prog 6 #[.pointer none, .int .i64 n, .int .i64 m] w fun e w' => e = .returned (.tuple #[nilS, .int .i64 1]) ∧ Below w.heap.size w w' := by
  have HB := Lib.hid (below_alloc w (.cells #[.pointer none] TPF))
  go_enter Tryz.func6, Tryz.ntmps6
  go_wp2_with fail
  refine (vfield_nil _).mono ?_
  rintro e w' ⟨rfl, rfl⟩
  go_wp2_with fail
  go_ret2
  exact ⟨rfl, HB.out⟩

set_option maxRecDepth 100000 in
set_option maxHeartbeats 1000000 in
theorem vraw_no (p b wd : Nat) (n m : Int) (hno : ¬ (sideI n ∧ sideI m)) (w : World) (hf : Fld p b wd w) :
    Calls Tryz.prog 6 #[.pointer (some ⟨b, 0, none⟩), .int .i64 n, .int .i64 m] w fun e w' => e = .returned (.tuple #[nilS, .int .i64 1]) ∧ Below w.heap.size w w' := by
  have hkd := hf.1.kind
  have hb1 : Below w.heap.size w (w.alloc (.cells #[.pointer (some ⟨b, 0, none⟩)] TPF)) := below_alloc _ _
  have hc1 : (w.alloc (.cells #[.pointer (some ⟨b, 0, none⟩)] TPF)).cell? ⟨w.heap.size, 0, none⟩ = some (.pointer (some ⟨b, 0, none⟩)) := by simp
  obtain ⟨w1, hw1⟩ : ∃ w1, w.alloc (.cells #[.pointer (some ⟨b, 0, none⟩)] TPF) = w1 := ⟨_, rfl⟩
  rw [hw1] at hb1 hc1
  have hc0 := (hf.of_below hb1).c0
  have HB := Lib.hid hb1
  have HN := Lib.hid hno
  clear hf hb1 hno
  go_enter Tryz.func6, Tryz.ntmps6
  go_wp2_with fail
  refine (vfield_yes b wd _ hkd _ hc0).mono ?_
  rintro e w' ⟨rfl, rfl⟩
  go_wp2_with fail
  refine (vside33 n _).mono ?_
  rintro e w' ⟨t, rfl, ht, rfl⟩
  cases t
  · clear ht
    go_wp2_with fail
    go_ret2
    exact ⟨rfl, HB.out⟩
  have HT := Lib.hid (ht.1 rfl)
  clear ht
  go_wp2_with fail
  refine (vside33 m _).mono ?_
  rintro e w' ⟨t, rfl, ht, rfl⟩
  obtain rfl : t = false := by
    cases t
    · rfl
    · exact absurd ⟨HT.out, ht.1 rfl⟩ HN.out
  clear ht
  go_wp2_with fail
  go_ret2
  exact ⟨rfl, HB.out⟩

set_option maxRecDepth 100000 in
set_option maxHeartbeats 1000000 in
theorem visal_yes (q : FP) (b wd k m : Nat) (hk : side k) (hm : side m) (hkm : k + m ≤ 20) (w : World) (hf : Fld q.p b wd w) :
    Calls Tryz.prog 10 #[.pointer (some ⟨b, 0, none⟩), .int .i64 k, .int .i64 m] w (VSaid q b wd m k (isalE q) w) := by
  have hkd := hf.1.kind
  have hkb := hkd.bounds
  have hbl := hf.lt
  have hn1 := hk.1
  have hn2 := hk.2
  have hm1 := hm.1
  have hm2 := hm.2
  have hmf : ∀ (fn : Fn) (first cap : Array Value) (w : World), (Instr.makeFunc fn first cap).run Tryz.prog w = .ok (.func fn first cap) w := fun _ _ _ _ => rfl
  have hb1 : Below w.heap.size w (w.alloc (.cells #[.pointer (some ⟨b, 0, none⟩)] TPF)) := below_alloc _ _
  have hc1 : (w.alloc (.cells #[.pointer (some ⟨b, 0, none⟩)] TPF)).cell? ⟨w.heap.size, 0, none⟩ = some (.pointer (some ⟨b, 0, none⟩)) := by simp
  obtain ⟨w1, hw1⟩ : ∃ w1, w.alloc (.cells #[.pointer (some ⟨b, 0, none⟩)] TPF) = w1 := ⟨_, rfl⟩
  rw [hw1] at hb1 hc1
  have HF1 := Lib.hid (hf.of_below hb1)
  have hc0 := HF1.out.c0
  have HB1 := Lib.hid (Turned.of_below (b := b) hb1)
  have HC := Lib.hid hc1
  have HN := Lib.hid (show fitsI (k : Int) (m : Int) from ⟨⟨by omega, by omega⟩, ⟨by omega, by omega⟩, by omega⟩)
  clear hf hb1 hk hm hkm
  go_enter Tryz.func10, Tryz.ntmps10
  go_wp2_with fail
  refine (code20 b wd _ hkd k m _ hc0).mono ?_
  rintro e w' ⟨t, rfl, ht, rfl⟩
  obtain rfl : t = true := ht.2 HN.out
  clear ht
  go_wp2_with fail
  refine (made_isal q.p b wd m k w.heap.size (fun i j => fpow q.p (fpow q.p 2 i) j) (by omega) (by omega) _ HF1.out HC.out (by omega) (isal29 q.p b wd m k w.heap.size (by omega) (by omega) (by omega))).mono ?_
  rintro e w2 ⟨g, rfl, h1, h2, h3⟩
  have HE := Lib.hid (VSaid.of_mad (E := isalE q) (fun i hi j => isalE_val (by omega) i j) HB1.out h1 h2 h3)
  clear h1 h2 h3
  go_wp2_with fail
  go_ret2
  exact HE.out

set_option maxRecDepth 100000 in
set_option maxHeartbeats 1000000 in
theorem visal_nil (n m : Int) (w : World) :
    Calls Tryz.prog 10 #[.pointer none, .int .i64 n, .int .i64 m] w fun e w' => e = .returned (.tuple #[nilS, .int .i64 1]) ∧ Below w.heap.size w w' := by
  have HB := Lib.hid (below_alloc w (.cells #[.pointer none] TPF))
  go_enter Tryz.func10, Tryz.ntmps10
  go_wp2_with fail
  refine (code_nil n m _).mono ?_
  rintro e w' ⟨rfl, rfl⟩
  go_wp2_with fail
  go_ret2
  exact ⟨rfl, HB.out⟩

set_option maxRecDepth 100000 in
set_option maxHeartbeats 1000000 in
theorem visal_no (p b wd : Nat) (k m : Int) (hno : ¬ fitsI k m) (w : World) (hf : Fld p b wd w) :
    Calls Tryz.prog 10 #[.pointer (some ⟨b, 0, none⟩), .int .i64 k, .int .i64 m] w fun e w' => e = .returned (.tuple #[nilS, .int .i64 1]) ∧ Below w.heap.size w w' := by
  have hkd := hf.1.kind
  have hb1 : Below w.heap.size w (w.alloc (.cells #[.pointer (some ⟨b, 0, none⟩)] TPF)) := below_alloc _ _
  have hc1 : (w.alloc (.cells #[.pointer (some ⟨b, 0, none⟩)] TPF)).cell? ⟨w.heap.size, 0, none⟩ = some (.pointer (some ⟨b, 0, none⟩)) := by simp
  obtain ⟨w1, hw1⟩ : ∃ w1, w.alloc (.cells #[.pointer (some ⟨b, 0, none⟩)] TPF) = w1 := ⟨_, rfl⟩
  rw [hw1] at hb1 hc1
  have hc0 := (hf.of_below hb1).c0
  have HB := Lib.hid hb1
  have HN := Lib.hid hno
  clear hf hb1 hno
  go_enter Tryz.func10, Tryz.ntmps10
  go_wp2_with fail
  refine (code20 b wd _ hkd k m _ hc0).mono ?_
  rintro e w' ⟨t, rfl, ht, rfl⟩
  obtain rfl : t = false := by
    cases t
    · rfl
    · exact absurd (ht.1 rfl) HN.out
  clear ht
  go_wp2_with fail
  go_ret2
  exact ⟨rfl, HB.out⟩
end Go.Proofs.YtmpamgnbbomoaaaGreat
