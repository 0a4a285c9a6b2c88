/- Layer 9: All, Field and Parity. Layer 9: any K of all shards tell the others: of all params that may be. -/
import Derived.Test.YtgdgimknnjbieaaGreatDoorGxv
import Derived.Test.YtgdgimknnjbieaaGreatDoorGxp
import Derived.Test.YtgdgimknnjbieaaGreatDoorGxr
import Derived.Test.YtgdgimknnjbieaaGreatDoorGxs

namespace Go.Proofs.YtgdgimknnjbieaaGreatDoor
open Go.RowKit

/-- a profile's field -/
def qP (p : Int) : FP := if p = 2 then qL else qS
def wdP (p : Int) : Nat := if p = 2 then 16 else 8
theorem goodP (p : Int) : Good (qP p).p (wdP p) := by
  unfold qP wdP
  split
  · exact good69643
  · exact good285
theorem bitsP {p : Int} (h : 1 ≤ p ∧ p ≤ 6) : bitsI p = wdP p := by
  unfold bitsI wdP
  split
  · rfl
  · rfl
theorem polyP {p : Int} (h : 1 ≤ p ∧ p ≤ 6) : polyI p = (qP p).p := by
  unfold polyI qP
  split
  · rfl
  · rfl

set_option maxRecDepth 100000 in
theorem pfield_yes (p : Int) (h : 1 ≤ p ∧ p ≤ 6) (w : World) (hT : Tab w) :
    Calls Tryz.prog 27 #[.int .i64 p] w fun e w' => ∃ b, e = .returned (.pointer (some ⟨b, 0, none⟩)) ∧ Fld (qP p).p b (wdP p) w' ∧ w.heap.size ≤ b ∧ Below w.heap.size w w' := by
  have HT := Lib.hid hT
  have hI : isI p = true := by simp [isI]; omega
  have HB := Lib.hid (bitsP h)
  have HP := Lib.hid (polyP h)
  clear hT
  go_enter Tryz.func27, Tryz.ntmps27
  go_wp2_with fail
  refine (of8 p _ HT.out).mono ?_
  rintro e w1 ⟨rfl, hb1⟩
  have H1 := Lib.hid (below_tr hb1 (below_alloc w1 (.cells (rowA p) TPr)))
  clear hb1 HT
  simp only [rowA, HB.out, HP.out, hI] at H1 ⊢
  clear hI h
  go_wp2_with fail
  refine (new_yes (qP p).p (wdP p) (goodP p) _).mono ?_
  rintro e w2 ⟨b, rfl, h2, hn, hb2⟩
  have HE := Lib.hid (show Fld (qP p).p b (wdP p) w2 ∧ w.heap.size ≤ b ∧ Below w.heap.size w w2 from ⟨h2, Nat.le_trans H1.out.size hn, below_tr H1.out hb2⟩)
  clear h2 hn hb2 H1 HB HP
  go_wp2_with fail
  go_ret
  exact ⟨b, rfl, HE.out⟩

set_option maxRecDepth 100000 in
set_option maxHeartbeats 1000000 in
theorem syspar31 (q : FP) (b wd k m : Nat) (hk : side k) (hm : side m) (hkm : k + m ≤ 20) (w : World) (hf : Fld q.p b wd w) :
    Calls Tryz.prog 82 #[.pointer (some ⟨b, 0, none⟩), .int .i64 k, .int .i64 m] w (VSaid q b wd m k (fun i j => sysE q k (k + i) j) w) := by
  have HF := Lib.hid hf
  clear hf
  go_enter Tryz.func82, Tryz.ntmps82
  go_wp2_with fail
  refine (vsys_yes q b wd k m hk hm hkm _ HF.out).mono ?_
  rintro e w6 ⟨A6, c6, rfl, hc6, hx6, hf6, ht6⟩
  have hfr := run_fromM A6 (k + m) c6 k (by omega)
  have hat := run_atM A6 (k + m) c6 k (by omega)
  have HC := Lib.hid (hx6.cut (k := k) (cap := c6) (by omega) hc6)
  obtain ⟨A', hA'⟩ : ∃ A', (if c6 = k then A6 else A6.map (·.add k)) = A' := ⟨_, rfl⟩
  rw [hA'] at hfr HC
  simp only [hA'] at hat
  have hNk : k + m - k = m := by omega
  rw [hNk] at hfr HC
  simp only [hNk] at hat
  have HE := Lib.hid (show VSaid q b wd m k (fun i j => sysE q k (k + i) j) w (.returned (.tuple #[.slice A' m (c6 - k), .int .i64 0])) w6 from ⟨A', c6 - k, rfl, by omega, HC.out, hf6, ht6⟩)
  have hkc : (k : Int) ≤ ((k + m : Nat) : Int) := by omega
  clear hx6 hf6 ht6 HC hA' hNk HF
  go_wp2_with fail
  go_ret2
  exact HE.out

/-- a profile's parity rows -/
def rowsE (p : Int) (k m : Nat) : Nat → Nat → El (qP p) :=
  if p = 1 then parE (qP p) k (k + m) else if p = 2 then ofE (qP p) (frm 0) (frm m) else if p = 3 then isalE (qP p) else if p = 4 then ofE (qP p) (frm k) (frm 0) else fun i j => sysE (qP p) k (k + i) j
/-- what Parity tells; its rows lie apart from block g -/
def ParSaid (p k m : Int) (w : World) (e : Ending) (w' : World) : Prop :=
  ∃ t A c g, e = .returned (.tuple #[.slice A (cond t m.toNat 0) c, .int .i64 (errOf t)]) ∧ (t = true ↔ mayX p k m) ∧ cond t m.toNat 0 ≤ c ∧ Mx g w' (ivs (rowsE p k.toNat m.toNat)) (fun _ => k.toNat) A (cond t m.toNat 0) ∧ g < w'.heap.size ∧ Below w.heap.size w w'

set_option maxRecDepth 100000 in
theorem par_no (p k m : Int) (h : ¬ mayX p k m) (w : World) (hT : Tab w) : Calls Tryz.prog 46 #[.agg (parA p k m)] w (ParSaid p k m w) := by
  have hb0 := (Below.refl _ w).alloc (Nat.le_refl _) (.cells (parA p k m) TPa)
  have HT := Lib.hid (hT.below hb0)
  have H0 := Lib.hid hb0
  clear hT hb0
  go_enter Tryz.func46, Tryz.ntmps46
  go_wp2_with fail
  refine (may15 p k m _ HT.out).mono ?_
  rintro e w1 ⟨t, rfl, ht, hb1⟩
  obtain rfl : t = false := by cases t; rfl; exact absurd (ht.1 rfl) h
  have HE := Lib.hid (show ParSaid p k m w (.returned (.tuple #[nilS, .int .i64 1])) w1 from ⟨false, none, 0, 0, rfl, by simp [h], Nat.le_refl _, Mx.zero, (HT.out.below hb1).lt, below_tr H0.out hb1⟩)
  clear ht hb1 HT H0 h
  go_wp2_with fail
  go_ret2
  exact HE.out

/-- params that may be, as numbers from 0 on -/
theorem mayX.nat {p k m : Int} (h : mayX p k m) : ∃ K N : Nat, k = K ∧ m = N ∧ side K ∧ side N ∧ K + N ≤ 20 ∧ K ≤ 8 ∧ N ≤ 4 := by
  have h4 : maxI p ≤ 4 := by unfold maxI; split <;> (try split) <;> omega
  obtain ⟨_, ⟨h1, h2⟩, h3, h5⟩ := h
  exact ⟨k.toNat, m.toNat, by omega, by omega, ⟨by omega, by omega⟩, ⟨by omega, by omega⟩, by omega, by omega, by omega⟩

set_option maxRecDepth 100000 in
set_option maxHeartbeats 1000000 in
theorem par_1 (p : Int) (K N : Nat) (h : mayX p K N) (hp : p = 1) (sK : side K) (sN : side N) (hs : K + N ≤ 20) (w : World) (hT : Tab w) : Calls Tryz.prog 46 #[.agg (parA p K N)] w (ParSaid p K N w) := by
  have hb0 := (Below.refl _ w).alloc (Nat.le_refl _) (.cells (parA p K N) TPa)
  have HT := Lib.hid (hT.below hb0)
  have H0 := Lib.hid hb0
  have HH := Lib.hid h
  have HR := Lib.hid h.1
  have HQ := Lib.hid (show ivs (rowsE p (K : Int).toNat (N : Int).toNat) = ivs (parE (qP p) K (K + N)) by
    rw [Int.toNat_natCast, Int.toNat_natCast]
    subst hp
    rfl)
  have e1 : (p == 1) = true := by simp [hp]
  clear hT hb0 h hp
  go_enter Tryz.func46, Tryz.ntmps46
  go_wp2_with fail
  refine (may15 p K N _ HT.out).mono ?_
  rintro e w1 ⟨t, rfl, ht, hb1⟩
  obtain rfl : t = true := ht.2 HH.out
  have c0 := (box_cell (o := .cells #[] 0) (i := 0) hb1 rfl).1
  have HT1 := Lib.hid (HT.out.below hb1)
  have H1 := Lib.hid hb1
  clear ht hb1 HT
  go_wp2_with fail
  refine (pfield_yes p HR.out _ HT1.out).mono ?_
  rintro e w2 ⟨b, rfl, hf, hn, hb2⟩
  have hB := below_tr H1.out hb2
  have d0 := (box_cell (o := .cells #[] 0) (i := 0) hB rfl).1
  have d1 := (box_cell (o := .cells #[] 0) (i := 1) hB rfl).1
  have d2 := (box_cell (o := .cells #[] 0) (i := 2) hB rfl).1
  have HF := Lib.hid hf
  have HN := Lib.hid (Nat.le_trans H1.out.size hn)
  have HB := Lib.hid (below_tr H0.out hB)
  have HN2 := Lib.hid (show w.heap.size ≤ b from Nat.le_trans H0.out.size (Nat.le_trans H1.out.size hn))
  clear hf hn hb2 hB HT1 H0 H1 c0
  go_wp2_with fail
  refine (jpar_yes (qP p) b (wdP p) K N sK sN hs _ HF.out).mono ?_
  rintro e w3 ⟨A3, c3, rfl, hc3, hx3, hf3, ht3⟩
  have HE := Lib.hid (show ParSaid p K N w (.returned (.tuple #[.slice A3 N c3, .int .i64 0])) w3 from ⟨true, A3, c3, b, rfl, by simp [HH.out], hc3, by rw [HQ.out]; exact hx3, hf3.lt, HB.out.trans (ht3.below HN2.out HB.out.size)⟩)
  clear hc3 hx3 hf3 ht3 HF HB HN HN2
  go_wp2_with fail
  go_ret2
  exact HE.out

set_option maxRecDepth 100000 in
set_option maxHeartbeats 1000000 in
theorem par_2 (p : Int) (K N : Nat) (h : mayX p K N) (hp : p = 2) (sK : side K) (sN : side N) (hs : K + N ≤ 20) (w : World) (hT : Tab w) : Calls Tryz.prog 46 #[.agg (parA p K N)] w (ParSaid p K N w) := by
  have hb0 := (Below.refl _ w).alloc (Nat.le_refl _) (.cells (parA p K N) TPa)
  have HT := Lib.hid (hT.below hb0)
  have H0 := Lib.hid hb0
  have HH := Lib.hid h
  have HR := Lib.hid h.1
  have HQ := Lib.hid (show ivs (rowsE p (K : Int).toNat (N : Int).toNat) = ivs (ofE (qP p) (frm 0) (frm N)) by
    rw [Int.toNat_natCast, Int.toNat_natCast]
    subst hp
    rfl)
  have e1 : (p == 2) = true := by simp [hp]
  have n1 : (p == 1) = false := by simp [hp]
  clear hT hb0 h hp
  go_enter Tryz.func46, Tryz.ntmps46
  go_wp2_with fail
  refine (may15 p K N _ HT.out).mono ?_
  rintro e w1 ⟨t, rfl, ht, hb1⟩
  obtain rfl : t = true := ht.2 HH.out
  have c0 := (box_cell (o := .cells #[] 0) (i := 0) hb1 rfl).1
  have HT1 := Lib.hid (HT.out.below hb1)
  have H1 := Lib.hid hb1
  clear ht hb1 HT
  go_wp2_with fail
  refine (pfield_yes p HR.out _ HT1.out).mono ?_
  rintro e w2 ⟨b, rfl, hf, hn, hb2⟩
  have hB := below_tr H1.out hb2
  have d0 := (box_cell (o := .cells #[] 0) (i := 0) hB rfl).1
  have d1 := (box_cell (o := .cells #[] 0) (i := 1) hB rfl).1
  have d2 := (box_cell (o := .cells #[] 0) (i := 2) hB rfl).1
  have HF := Lib.hid hf
  have HN := Lib.hid (Nat.le_trans H1.out.size hn)
  have HB := Lib.hid (below_tr H0.out hB)
  have HN2 := Lib.hid (show w.heap.size ≤ b from Nat.le_trans H0.out.size (Nat.le_trans H1.out.size hn))
  clear hf hn hb2 hB HT1 H0 H1 c0
  go_wp2_with fail
  refine (orig_yes (qP p) b (wdP p) K N sK.1 sN.1 hs _ HF.out).mono ?_
  rintro e w3 ⟨A3, c3, rfl, hc3, hx3, hf3, ht3⟩
  have HE := Lib.hid (show ParSaid p K N w (.returned (.tuple #[.slice A3 N c3, .int .i64 0])) w3 from ⟨true, A3, c3, b, rfl, by simp [HH.out], hc3, by rw [HQ.out]; exact hx3, hf3.lt, HB.out.trans (ht3.below HN2.out HB.out.size)⟩)
  clear hc3 hx3 hf3 ht3 HF HB HN HN2
  go_wp2_with fail
  go_ret2
  exact HE.out

set_option maxRecDepth 100000 in
set_option maxHeartbeats 1000000 in
theorem par_3 (p : Int) (K N : Nat) (h : mayX p K N) (hp : p = 3) (sK : side K) (sN : side N) (hs : K + N ≤ 20) (w : World) (hT : Tab w) : Calls Tryz.prog 46 #[.agg (parA p K N)] w (ParSaid p K N w) := by
  have hb0 := (Below.refl _ w).alloc (Nat.le_refl _) (.cells (parA p K N) TPa)
  have HT := Lib.hid (hT.below hb0)
  have H0 := Lib.hid hb0
  have HH := Lib.hid h
  have HR := Lib.hid h.1
  have HQ := Lib.hid (show ivs (rowsE p (K : Int).toNat (N : Int).toNat) = ivs (isalE (qP p)) by
    rw [Int.toNat_natCast, Int.toNat_natCast]
    subst hp
    rfl)
  have e1 : (p == 3) = true := by simp [hp]
  have n1 : (p == 1) = false := by simp [hp]
  have n2 : (p == 2) = false := by simp [hp]
  clear hT hb0 h hp
  go_enter Tryz.func46, Tryz.ntmps46
  go_wp2_with fail
  refine (may15 p K N _ HT.out).mono ?_
  rintro e w1 ⟨t, rfl, ht, hb1⟩
  obtain rfl : t = true := ht.2 HH.out
  have c0 := (box_cell (o := .cells #[] 0) (i := 0) hb1 rfl).1
  have HT1 := Lib.hid (HT.out.below hb1)
  have H1 := Lib.hid hb1
  clear ht hb1 HT
  go_wp2_with fail
  refine (pfield_yes p HR.out _ HT1.out).mono ?_
  rintro e w2 ⟨b, rfl, hf, hn, hb2⟩
  have hB := below_tr H1.out hb2
  have d0 := (box_cell (o := .cells #[] 0) (i := 0) hB rfl).1
  have d1 := (box_cell (o := .cells #[] 0) (i := 1) hB rfl).1
  have d2 := (box_cell (o := .cells #[] 0) (i := 2) hB rfl).1
  have HF := Lib.hid hf
  have HN := Lib.hid (Nat.le_trans H1.out.size hn)
  have HB := Lib.hid (below_tr H0.out hB)
  have HN2 := Lib.hid (show w.heap.size ≤ b from Nat.le_trans H0.out.size (Nat.le_trans H1.out.size hn))
  clear hf hn hb2 hB HT1 H0 H1 c0
  go_wp2_with fail
  refine (visal_yes (qP p) b (wdP p) K N sK sN hs _ HF.out).mono ?_
  rintro e w3 ⟨A3, c3, rfl, hc3, hx3, hf3, ht3⟩
  have HE := Lib.hid (show ParSaid p K N w (.returned (.tuple #[.slice A3 N c3, .int .i64 0])) w3 from ⟨true, A3, c3, b, rfl, by simp [HH.out], hc3, by rw [HQ.out]; exact hx3, hf3.lt, HB.out.trans (ht3.below HN2.out HB.out.size)⟩)
  clear hc3 hx3 hf3 ht3 HF HB HN HN2
  go_wp2_with fail
  go_ret2
  exact HE.out

set_option maxRecDepth 100000 in
set_option maxHeartbeats 1000000 in
theorem par_4 (p : Int) (K N : Nat) (h : mayX p K N) (hp : p = 4) (sK : side K) (sN : side N) (hs : K + N ≤ 20) (w : World) (hT : Tab w) : Calls Tryz.prog 46 #[.agg (parA p K N)] w (ParSaid p K N w) := by
  have hb0 := (Below.refl _ w).alloc (Nat.le_refl _) (.cells (parA p K N) TPa)
  have HT := Lib.hid (hT.below hb0)
  have H0 := Lib.hid hb0
  have HH := Lib.hid h
  have HR := Lib.hid h.1
  have HQ := Lib.hid (show ivs (rowsE p (K : Int).toNat (N : Int).toNat) = ivs (ofE (qP p) (frm K) (frm 0)) by
    rw [Int.toNat_natCast, Int.toNat_natCast]
    subst hp
    rfl)
  have e1 : (p == 4) = true := by simp [hp]
  have n1 : (p == 1) = false := by simp [hp]
  have n2 : (p == 2) = false := by simp [hp]
  have n3 : (p == 3) = false := by simp [hp]
  clear hT hb0 h hp
  go_enter Tryz.func46, Tryz.ntmps46
  go_wp2_with fail
  refine (may15 p K N _ HT.out).mono ?_
  rintro e w1 ⟨t, rfl, ht, hb1⟩
  obtain rfl : t = true := ht.2 HH.out
  have c0 := (box_cell (o := .cells #[] 0) (i := 0) hb1 rfl).1
  have HT1 := Lib.hid (HT.out.below hb1)
  have H1 := Lib.hid hb1
  clear ht hb1 HT
  go_wp2_with fail
  refine (pfield_yes p HR.out _ HT1.out).mono ?_
  rintro e w2 ⟨b, rfl, hf, hn, hb2⟩
  have hB := below_tr H1.out hb2
  have d0 := (box_cell (o := .cells #[] 0) (i := 0) hB rfl).1
  have d1 := (box_cell (o := .cells #[] 0) (i := 1) hB rfl).1
  have d2 := (box_cell (o := .cells #[] 0) (i := 2) hB rfl).1
  have HF := Lib.hid hf
  have HN := Lib.hid (Nat.le_trans H1.out.size hn)
  have HB := Lib.hid (below_tr H0.out hB)
  have HN2 := Lib.hid (show w.heap.size ≤ b from Nat.le_trans H0.out.size (Nat.le_trans H1.out.size hn))
  clear hf hn hb2 hB HT1 H0 H1 c0
  go_wp2_with fail
  refine (cisal_yes (qP p) b (wdP p) K N sK.1 sN.1 hs _ HF.out).mono ?_
  rintro e w3 ⟨A3, c3, rfl, hc3, hx3, hf3, ht3⟩
  have HE := Lib.hid (show ParSaid p K N w (.returned (.tuple #[.slice A3 N c3, .int .i64 0])) w3 from ⟨true, A3, c3, b, rfl, by simp [HH.out], hc3, by rw [HQ.out]; exact hx3, hf3.lt, HB.out.trans (ht3.below HN2.out HB.out.size)⟩)
  clear hc3 hx3 hf3 ht3 HF HB HN HN2
  go_wp2_with fail
  go_ret2
  exact HE.out

set_option maxRecDepth 100000 in
set_option maxHeartbeats 1000000 in
theorem par_5 (p : Int) (K N : Nat) (h : mayX p K N) (hp : p = 5 ∨ p = 6) (sK : side K) (sN : side N) (hs : K + N ≤ 20) (w : World) (hT : Tab w) : Calls Tryz.prog 46 #[.agg (parA p K N)] w (ParSaid p K N w) := by
  have hb0 := (Below.refl _ w).alloc (Nat.le_refl _) (.cells (parA p K N) TPa)
  have HT := Lib.hid (hT.below hb0)
  have H0 := Lib.hid hb0
  have HH := Lib.hid h
  have HR := Lib.hid h.1
  have HQ := Lib.hid (show ivs (rowsE p (K : Int).toNat (N : Int).toNat) = ivs (fun i j => sysE (qP p) K (K + i) j) by
    rw [Int.toNat_natCast, Int.toNat_natCast]
    rcases hp with hp | hp <;> (subst hp; rfl))
  have n1 : (p == 1) = false := by rcases hp with hp | hp <;> simp [hp]
  have n2 : (p == 2) = false := by rcases hp with hp | hp <;> simp [hp]
  have n3 : (p == 3) = false := by rcases hp with hp | hp <;> simp [hp]
  have n4 : (p == 4) = false := by rcases hp with hp | hp <;> simp [hp]
  clear hT hb0 h hp
  go_enter Tryz.func46, Tryz.ntmps46
  go_wp2_with fail
  refine (may15 p K N _ HT.out).mono ?_
  rintro e w1 ⟨t, rfl, ht, hb1⟩
  obtain rfl : t = true := ht.2 HH.out
  have c0 := (box_cell (o := .cells #[] 0) (i := 0) hb1 rfl).1
  have HT1 := Lib.hid (HT.out.below hb1)
  have H1 := Lib.hid hb1
  clear ht hb1 HT
  go_wp2_with fail
  refine (pfield_yes p HR.out _ HT1.out).mono ?_
  rintro e w2 ⟨b, rfl, hf, hn, hb2⟩
  have hB := below_tr H1.out hb2
  have d0 := (box_cell (o := .cells #[] 0) (i := 0) hB rfl).1
  have d1 := (box_cell (o := .cells #[] 0) (i := 1) hB rfl).1
  have d2 := (box_cell (o := .cells #[] 0) (i := 2) hB rfl).1
  have HF := Lib.hid hf
  have HN := Lib.hid (Nat.le_trans H1.out.size hn)
  have HB := Lib.hid (below_tr H0.out hB)
  have HN2 := Lib.hid (show w.heap.size ≤ b from Nat.le_trans H0.out.size (Nat.le_trans H1.out.size hn))
  clear hf hn hb2 hB HT1 H0 H1 c0
  go_wp2_with fail
  refine (syspar31 (qP p) b (wdP p) K N sK sN hs _ HF.out).mono ?_
  rintro e w3 ⟨A3, c3, rfl, hc3, hx3, hf3, ht3⟩
  have HE := Lib.hid (show ParSaid p K N w (.returned (.tuple #[.slice A3 N c3, .int .i64 0])) w3 from ⟨true, A3, c3, b, rfl, by simp [HH.out], hc3, by rw [HQ.out]; exact hx3, hf3.lt, HB.out.trans (ht3.below HN2.out HB.out.size)⟩)
  clear hc3 hx3 hf3 ht3 HF HB HN HN2
  go_wp2_with fail
  go_ret2
  exact HE.out

theorem par12 (p k m : Int) (w : World) (hT : Tab w) : Calls Tryz.prog 46 #[.agg (parA p k m)] w (ParSaid p k m w) := by
  by_cases h : mayX p k m
  · obtain ⟨K, N, rfl, rfl, sK, sN, hs, _, _⟩ := h.nat
    obtain h1 | h1 | h1 | h1 | h1 : p = 1 ∨ p = 2 ∨ p = 3 ∨ p = 4 ∨ p = 5 ∨ p = 6 := by have := h.1; omega
    · exact par_1 p K N h h1 sK sN hs w hT
    · exact par_2 p K N h h1 sK sN hs w hT
    · exact par_3 p K N h h1 sK sN hs w hT
    · exact par_4 p K N h h1 sK sN hs w hT
    · exact par_5 p K N h h1 sK sN hs w hT
  · exact par_no p k m h w hT
end Go.Proofs.YtgdgimknnjbieaaGreatDoor

namespace Go.Proofs.YtgdgimknnjbieaaGreatDoor
open Go.RowKit

theorem of_all {q : FP} {n m : Nat} {lx ly : Nat → Int} (h : ofP (M.ord q.p) n m lx ly) (f : Nat → Nat) (hf : ∀ i, i < m → f i < m + n) (hu : ∀ i j, i < m → j < m → f i = f j → i = j) :
    rk m (fun i j => joinE m dl (ofE q lx ly) (f i) j) m = m :=
  cau_any (fun i j hi hj e => h.xx i j hi hj (toEl_inj (h.x hi) (h.x hj) e)) (fun i j hi hj e => h.yy i j hi hj (toEl_inj (h.y hi) (h.y hj) e)) (fun i j hi hj e => h.xy i j hi hj (toEl_inj (h.x hi) (h.y hj) e)) f hf hu

theorem sys_all {q : FP} {k m : Nat} (hN : ((k + m : Nat) : Int) ≤ M.ord q.p) (f : Nat → Nat) (hf : ∀ i, i < k → f i < k + m) (hu : ∀ i j, i < k → j < k → f i = f j → i = j) :
    rk k (fun i j => joinE k dl (fun i j => sysE q k (k + i) j) (f i) j) k = k := by
  refine Eq.trans (rk_congr (fun i hi j hj => ?_)) (sys_any (l := f) (by omega) (fun i hi => by have := hf i hi; omega) hu)
  unfold joinE
  by_cases e : f i < k
  · rw [if_pos e]
    exact (sys_id (by omega) e hj).symm
  · rw [if_neg e]
    dsimp only
    rw [show k + (f i - k) = f i by omega]

/-- any K of the identity's rows, and of those behind it, have an inverse -/
theorem rows_any {p : Int} {k m : Nat} (h : mayX p k m) (f : Nat → Nat) (hf : ∀ i, i < k → f i < k + m) (hu : ∀ i j, i < k → j < k → f i = f j → i = j) :
    rk k (fun i j => joinE k dl (rowsE p k m) (f i) j) k = k := by
  have HO := (goodP p).kind.bounds
  obtain ⟨h0, h1, h2, h3⟩ := h
  have h4 := (max_pos h0).2
  have h5 : m ≤ 4 := by omega
  have h6 : k ≤ 8 := by omega
  have sk : side k := ⟨by omega, by omega⟩
  have sm : side m := ⟨by omega, by omega⟩
  have hp : p = 1 ∨ p = 2 ∨ p = 3 ∨ p = 4 ∨ p = 5 ∨ p = 6 := by omega
  rcases hp with rfl | rfl | rfl | rfl | rfl | rfl
  · exact par_any (q := qP 1) (by omega) (by omega) f hf hu
  · exact of_all (q := qP 2) ⟨sm, sk, frm_apart (by omega)⟩ f hf hu
  · exact isal_any (q := qP 3) (by omega) (by omega) (by have : maxI 3 = 3 := rfl; omega) f hf hu
  · exact of_all (q := qP 4) ⟨sm, sk, frm_apart' (by omega)⟩ f hf hu
  · exact sys_all (q := qP 5) (by omega) f hf hu
  · exact sys_all (q := qP 6) (by omega) f hf hu
end Go.Proofs.YtgdgimknnjbieaaGreatDoor
