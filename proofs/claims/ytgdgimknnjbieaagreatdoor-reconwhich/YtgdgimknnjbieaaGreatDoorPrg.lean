/- Layer 9: the document's Parity. -/
import Derived.Test.YtgdgimknnjbieaaGreatDoorGxw
import Derived.Test.YtgdgimknnjbieaaGreatDoorJvg
import Derived.Test.YtgdgimknnjbieaaGreatDoorGxu
namespace Go.Proofs.YtgdgimknnjbieaaGreatDoor
open Go.RowKit

/-- what the document's Parity tells -/
def RParSaid (p k m : Int) (b : Nat) (w : World) (e : Ending) (w' : World) : Prop :=
  ∃ t A c, e = .returned (.tuple #[.slice A (cond t m.toNat 0) c, .bool t]) ∧ (t = true ↔ mayX p k m) ∧ Mx b w' (ivs (rowsE p k.toNat m.toNat)) (fun _ => k.toNat) A (cond t m.toNat 0) ∧ Below w.heap.size w w'

set_option maxRecDepth 100000 in
theorem rpar9_no (p k m : Int) (b : Nat) (h : ¬ mayX p k m) (w : World) : Calls Tryz.prog 33 #[.agg (parA p k m)] w (RParSaid p k m b w) := by
  have H0 := Lib.hid ((Below.refl _ w).alloc (Nat.le_refl _) (.cells (parA p k m) TPa))
  go_enter Tryz.func33, Tryz.ntmps33
  go_wp2_with fail
  refine (rmay16 p k m _).mono ?_
  rintro e w1 ⟨t, rfl, ht, hb1⟩
  obtain rfl : t = false := by cases t; rfl; exact absurd (ht.1 rfl) h
  have HE := Lib.hid (show RParSaid p k m b w (.returned (.tuple #[nilS, .bool false])) w1 from ⟨false, none, 0, rfl, by simp [h], Mx.zero, below_tr H0.out hb1⟩)
  clear ht hb1 H0 h
  go_wp2_with fail
  go_ret2
  exact HE.out

set_option maxRecDepth 100000 in
set_option maxHeartbeats 1000000 in
theorem rpar9_1 (p : Int) (K N b : Nat) (h : mayX p K N) (hp : p = 1) (sK : side K) (sN : side N) (hs : K + N ≤ 20) (w : World) (hbw : b < w.heap.size) : Calls Tryz.prog 33 #[.agg (parA p K N)] w (RParSaid p K N b w) := by
  have H0 := Lib.hid ((Below.refl _ w).alloc (Nat.le_refl _) (.cells (parA p K N) TPa))
  have HH := Lib.hid h
  have HR := Lib.hid h.1
  have HB := Lib.hid (bitsP h.1)
  have HP := Lib.hid (polyP h.1)
  have HQ := Lib.hid (show ivs (rowsE p (K : Int).toNat (N : Int).toNat) = ivs (parE (qP p) K (K + N)) by
    rw [Int.toNat_natCast, Int.toNat_natCast]
    subst hp
    rfl)
  have e1 : (p == 1) = true := by simp [hp]
  clear h hp
  go_enter Tryz.func33, Tryz.ntmps33
  go_wp2_with fail
  refine (rmay16 p K N _).mono ?_
  rintro e w1 ⟨t, rfl, ht, hb1⟩
  obtain rfl : t = true := ht.2 HH.out
  have c0 := (box_cell (o := .cells #[] 0) (i := 0) hb1 rfl).1
  have H1 := Lib.hid hb1
  clear ht hb1
  go_wp2_with fail
  refine (rof9 p _).mono ?_
  rintro e w2 ⟨rfl, hb2⟩
  have hB := below_tr H1.out hb2
  have d0 := (box_cell (o := .cells (rowA p) TRw) (i := 0) hB rfl).2
  have d1 := (box_cell (o := .cells (rowA p) TRw) (i := 1) hB rfl).2
  have d2 := (box_cell (o := .cells (rowA p) TRw) (i := 2) hB rfl).2
  have HW := Lib.hid (below_tr (below_tr H0.out hB) (below_alloc w2 (.cells (rowA p) TRw)))
  simp only [rowA, HB.out, HP.out] at d0 d1 d2 HW ⊢
  clear hb2 hB H0 H1 c0 HB HP
  go_wp2_with fail
  refine (rpar_yes (qP p) b (wdP p) K N (goodP p) sK sN hs _ (Nat.lt_of_lt_of_le hbw HW.out.size)).mono ?_
  rintro e w3 ⟨v3, rfl, A3, c3, rfl, _, hx3, hb3⟩
  have HE := Lib.hid (show RParSaid p K N b w (.returned (.tuple #[.slice A3 N c3, .bool true])) w3 from ⟨true, A3, c3, rfl, by simp [HH.out], by rw [HQ.out]; exact hx3, below_tr HW.out hb3⟩)
  clear hx3 hb3 HW d0 d1 d2
  go_wp2_with fail
  go_ret2
  exact HE.out

set_option maxRecDepth 100000 in
set_option maxHeartbeats 1000000 in
theorem rpar9_2 (p : Int) (K N b : Nat) (h : mayX p K N) (hp : p = 2) (sK : side K) (sN : side N) (hs : K + N ≤ 20) (w : World) (hbw : b < w.heap.size) : Calls Tryz.prog 33 #[.agg (parA p K N)] w (RParSaid p K N b w) := by
  have H0 := Lib.hid ((Below.refl _ w).alloc (Nat.le_refl _) (.cells (parA p K N) TPa))
  have HH := Lib.hid h
  have HR := Lib.hid h.1
  have HB := Lib.hid (bitsP h.1)
  have HP := Lib.hid (polyP h.1)
  have HQ := Lib.hid (show ivs (rowsE p (K : Int).toNat (N : Int).toNat) = ivs (ofE (qP p) (frm 0) (frm N)) by
    rw [Int.toNat_natCast, Int.toNat_natCast]
    subst hp
    rfl)
  have e1 : (p == 2) = true := by simp [hp]
  have n1 : (p == 1) = false := by simp [hp]
  clear h hp
  go_enter Tryz.func33, Tryz.ntmps33
  go_wp2_with fail
  refine (rmay16 p K N _).mono ?_
  rintro e w1 ⟨t, rfl, ht, hb1⟩
  obtain rfl : t = true := ht.2 HH.out
  have c0 := (box_cell (o := .cells #[] 0) (i := 0) hb1 rfl).1
  have H1 := Lib.hid hb1
  clear ht hb1
  go_wp2_with fail
  refine (rof9 p _).mono ?_
  rintro e w2 ⟨rfl, hb2⟩
  have hB := below_tr H1.out hb2
  have d0 := (box_cell (o := .cells (rowA p) TRw) (i := 0) hB rfl).2
  have d1 := (box_cell (o := .cells (rowA p) TRw) (i := 1) hB rfl).2
  have d2 := (box_cell (o := .cells (rowA p) TRw) (i := 2) hB rfl).2
  have HW := Lib.hid (below_tr (below_tr H0.out hB) (below_alloc w2 (.cells (rowA p) TRw)))
  simp only [rowA, HB.out, HP.out] at d0 d1 d2 HW ⊢
  clear hb2 hB H0 H1 c0 HB HP
  go_wp2_with fail
  refine (rorig_yes (qP p) b (wdP p) K N (goodP p) sK.1 sN.1 hs _ (Nat.lt_of_lt_of_le hbw HW.out.size)).mono ?_
  rintro e w3 ⟨A3, c3, rfl, hx3, hb3⟩
  have HE := Lib.hid (show RParSaid p K N b w (.returned (.tuple #[.slice A3 N c3, .bool true])) w3 from ⟨true, A3, c3, rfl, by simp [HH.out], by rw [HQ.out]; exact hx3, below_tr HW.out hb3⟩)
  clear hx3 hb3 HW d0 d1 d2
  go_wp2_with fail
  go_ret2
  exact HE.out

set_option maxRecDepth 100000 in
set_option maxHeartbeats 1000000 in
theorem rpar9_3 (p : Int) (K N b : Nat) (h : mayX p K N) (hp : p = 3) (sK : side K) (sN : side N) (hs : K + N ≤ 20) (w : World) (hbw : b < w.heap.size) : Calls Tryz.prog 33 #[.agg (parA p K N)] w (RParSaid p K N b w) := by
  have H0 := Lib.hid ((Below.refl _ w).alloc (Nat.le_refl _) (.cells (parA p K N) TPa))
  have HH := Lib.hid h
  have HR := Lib.hid h.1
  have HB := Lib.hid (bitsP h.1)
  have HP := Lib.hid (polyP h.1)
  have HQ := Lib.hid (show ivs (rowsE p (K : Int).toNat (N : Int).toNat) = ivs (isalE (qP p)) by
    rw [Int.toNat_natCast, Int.toNat_natCast]
    subst hp
    rfl)
  have e1 : (p == 3) = true := by simp [hp]
  have n1 : (p == 1) = false := by simp [hp]
  have n2 : (p == 2) = false := by simp [hp]
  clear h hp
  go_enter Tryz.func33, Tryz.ntmps33
  go_wp2_with fail
  refine (rmay16 p K N _).mono ?_
  rintro e w1 ⟨t, rfl, ht, hb1⟩
  obtain rfl : t = true := ht.2 HH.out
  have c0 := (box_cell (o := .cells #[] 0) (i := 0) hb1 rfl).1
  have H1 := Lib.hid hb1
  clear ht hb1
  go_wp2_with fail
  refine (rof9 p _).mono ?_
  rintro e w2 ⟨rfl, hb2⟩
  have hB := below_tr H1.out hb2
  have d0 := (box_cell (o := .cells (rowA p) TRw) (i := 0) hB rfl).2
  have d1 := (box_cell (o := .cells (rowA p) TRw) (i := 1) hB rfl).2
  have d2 := (box_cell (o := .cells (rowA p) TRw) (i := 2) hB rfl).2
  have HW := Lib.hid (below_tr (below_tr H0.out hB) (below_alloc w2 (.cells (rowA p) TRw)))
  simp only [rowA, HB.out, HP.out] at d0 d1 d2 HW ⊢
  clear hb2 hB H0 H1 c0 HB HP
  go_wp2_with fail
  refine (risal_yes (qP p) b (wdP p) N K (goodP p) sN sK hs _ (Nat.lt_of_lt_of_le hbw HW.out.size)).mono ?_
  rintro e w3 ⟨v3, rfl, A3, c3, rfl, _, hx3, hb3⟩
  have HE := Lib.hid (show RParSaid p K N b w (.returned (.tuple #[.slice A3 N c3, .bool true])) w3 from ⟨true, A3, c3, rfl, by simp [HH.out], by rw [HQ.out]; exact hx3, below_tr HW.out hb3⟩)
  clear hx3 hb3 HW d0 d1 d2
  go_wp2_with fail
  go_ret2
  exact HE.out

set_option maxRecDepth 100000 in
set_option maxHeartbeats 1000000 in
theorem rpar9_4 (p : Int) (K N b : Nat) (h : mayX p K N) (hp : p = 4) (sK : side K) (sN : side N) (hs : K + N ≤ 20) (w : World) (hbw : b < w.heap.size) : Calls Tryz.prog 33 #[.agg (parA p K N)] w (RParSaid p K N b w) := by
  have H0 := Lib.hid ((Below.refl _ w).alloc (Nat.le_refl _) (.cells (parA p K N) TPa))
  have HH := Lib.hid h
  have HR := Lib.hid h.1
  have HB := Lib.hid (bitsP h.1)
  have HP := Lib.hid (polyP h.1)
  have HQ := Lib.hid (show ivs (rowsE p (K : Int).toNat (N : Int).toNat) = ivs (ofE (qP p) (frm K) (frm 0)) by
    rw [Int.toNat_natCast, Int.toNat_natCast]
    subst hp
    rfl)
  have e1 : (p == 4) = true := by simp [hp]
  have n1 : (p == 1) = false := by simp [hp]
  have n2 : (p == 2) = false := by simp [hp]
  have n3 : (p == 3) = false := by simp [hp]
  clear h hp
  go_enter Tryz.func33, Tryz.ntmps33
  go_wp2_with fail
  refine (rmay16 p K N _).mono ?_
  rintro e w1 ⟨t, rfl, ht, hb1⟩
  obtain rfl : t = true := ht.2 HH.out
  have c0 := (box_cell (o := .cells #[] 0) (i := 0) hb1 rfl).1
  have H1 := Lib.hid hb1
  clear ht hb1
  go_wp2_with fail
  refine (rof9 p _).mono ?_
  rintro e w2 ⟨rfl, hb2⟩
  have hB := below_tr H1.out hb2
  have d0 := (box_cell (o := .cells (rowA p) TRw) (i := 0) hB rfl).2
  have d1 := (box_cell (o := .cells (rowA p) TRw) (i := 1) hB rfl).2
  have d2 := (box_cell (o := .cells (rowA p) TRw) (i := 2) hB rfl).2
  have HW := Lib.hid (below_tr (below_tr H0.out hB) (below_alloc w2 (.cells (rowA p) TRw)))
  simp only [rowA, HB.out, HP.out] at d0 d1 d2 HW ⊢
  clear hb2 hB H0 H1 c0 HB HP
  go_wp2_with fail
  refine (rcisal_yes (qP p) b (wdP p) K N (goodP p) sK.1 sN.1 hs _ (Nat.lt_of_lt_of_le hbw HW.out.size)).mono ?_
  rintro e w3 ⟨A3, c3, rfl, hx3, hb3⟩
  have HE := Lib.hid (show RParSaid p K N b w (.returned (.tuple #[.slice A3 N c3, .bool true])) w3 from ⟨true, A3, c3, rfl, by simp [HH.out], by rw [HQ.out]; exact hx3, below_tr HW.out hb3⟩)
  clear hx3 hb3 HW d0 d1 d2
  go_wp2_with fail
  go_ret2
  exact HE.out

set_option maxRecDepth 100000 in
set_option maxHeartbeats 1000000 in
theorem rpar9_5 (p : Int) (K N b : Nat) (h : mayX p K N) (hp : p = 5 ∨ p = 6) (sK : side K) (sN : side N) (hs : K + N ≤ 20) (w : World) (hbw : b < w.heap.size) : Calls Tryz.prog 33 #[.agg (parA p K N)] w (RParSaid p K N b w) := by
  have H0 := Lib.hid ((Below.refl _ w).alloc (Nat.le_refl _) (.cells (parA p K N) TPa))
  have HH := Lib.hid h
  have HR := Lib.hid h.1
  have HB := Lib.hid (bitsP h.1)
  have HP := Lib.hid (polyP h.1)
  have HQ := Lib.hid (show ivs (rowsE p (K : Int).toNat (N : Int).toNat) = ivs (fun i j => sysE (qP p) K (K + i) j) by
    rw [Int.toNat_natCast, Int.toNat_natCast]
    rcases hp with hp | hp <;> (subst hp; rfl))
  have n1 : (p == 1) = false := by rcases hp with hp | hp <;> simp [hp]
  have n2 : (p == 2) = false := by rcases hp with hp | hp <;> simp [hp]
  have n3 : (p == 3) = false := by rcases hp with hp | hp <;> simp [hp]
  have n4 : (p == 4) = false := by rcases hp with hp | hp <;> simp [hp]
  clear h hp
  go_enter Tryz.func33, Tryz.ntmps33
  go_wp2_with fail
  refine (rmay16 p K N _).mono ?_
  rintro e w1 ⟨t, rfl, ht, hb1⟩
  obtain rfl : t = true := ht.2 HH.out
  have c0 := (box_cell (o := .cells #[] 0) (i := 0) hb1 rfl).1
  have H1 := Lib.hid hb1
  clear ht hb1
  go_wp2_with fail
  refine (rof9 p _).mono ?_
  rintro e w2 ⟨rfl, hb2⟩
  have hB := below_tr H1.out hb2
  have d0 := (box_cell (o := .cells (rowA p) TRw) (i := 0) hB rfl).2
  have d1 := (box_cell (o := .cells (rowA p) TRw) (i := 1) hB rfl).2
  have d2 := (box_cell (o := .cells (rowA p) TRw) (i := 2) hB rfl).2
  have HW := Lib.hid (below_tr (below_tr H0.out hB) (below_alloc w2 (.cells (rowA p) TRw)))
  simp only [rowA, HB.out, HP.out] at d0 d1 d2 HW ⊢
  clear hb2 hB H0 H1 c0 HB HP
  go_wp2_with fail
  refine (rsys_yes (qP p) b (wdP p) K N (goodP p) sK sN hs _ (Nat.lt_of_lt_of_le hbw HW.out.size)).mono ?_
  rintro e w3 ⟨v3, rfl, A3, c3, rfl, hc3, hx3, hb3⟩
  have hfr := run_fromR A3 (K + N) c3 K (by omega)
  have hat := run_atR A3 (K + N) c3 K (by omega)
  have HC := Lib.hid (hx3.cut (k := K) (cap := c3) (by omega) hc3)
  obtain ⟨A', hA'⟩ : ∃ A', (if c3 = K then A3 else A3.map (·.add K)) = A' := ⟨_, rfl⟩
  rw [hA'] at hfr HC
  simp only [hA'] at hat
  have hNk : K + N - K = N := by omega
  rw [hNk] at hfr HC
  simp only [hNk] at hat
  have hkc : (K : Int) ≤ ((K + N : Nat) : Int) := by omega
  have HE := Lib.hid (show RParSaid p K N b w (.returned (.tuple #[.slice A' N (c3 - K), .bool true])) w3 from ⟨true, A', c3 - K, rfl, by simp [HH.out], by rw [HQ.out]; exact HC.out, below_tr HW.out hb3⟩)
  have k1 := (hb3.cell (p := ⟨w.heap.size, 1, none⟩) (World.block_lt_of_cell? _ _ d1)).trans d1
  clear hx3 hb3 HW d0 d1 d2 HC hA' hNk hc3
  go_wp2_with fail
  go_ret2
  exact HE.out

theorem rpar13 (p k m : Int) (b : Nat) (w : World) (hbw : b < w.heap.size) : Calls Tryz.prog 33 #[.agg (parA p k m)] w (RParSaid p k m b w) := by
  by_cases h : mayX p k m
  · obtain ⟨K, N, rfl, rfl, sK, sN, hs, _, _⟩ := h.nat
    obtain h1 | h1 | h1 | h1 | h1 : p = 1 ∨ p = 2 ∨ p = 3 ∨ p = 4 ∨ p = 5 ∨ p = 6 := by have := h.1; omega
    · exact rpar9_1 p K N b h h1 sK sN hs w hbw
    · exact rpar9_2 p K N b h h1 sK sN hs w hbw
    · exact rpar9_3 p K N b h h1 sK sN hs w hbw
    · exact rpar9_4 p K N b h h1 sK sN hs w hbw
    · exact rpar9_5 p K N b h h1 sK sN hs w hbw
  · exact rpar9_no p k m b h w
end Go.Proofs.YtgdgimknnjbieaaGreatDoor
