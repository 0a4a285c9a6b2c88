/- The contracts of package invert: isSquare and Inverse. The contracts of package invert: Rank. The contracts of package invert: Solve. -/
import Derived.Test.YtgdgimknnjbieaaGreatDoorGxf

namespace Go.Proofs.YtgdgimknnjbieaaGreatDoor
open Go.RowKit

/-- a number as one of the field -/
def toEl (q : FP) (a : Int) : El q := if h : 0 ≤ a ∧ a ≤ M.ord q.p then ⟨a.toNat, by omega⟩ else 0
theorem toEl_val {q : FP} {a : Int} (h : 0 ≤ a ∧ a ≤ M.ord q.p) : ((toEl q a).val : Int) = a := by
  unfold toEl
  rw [dif_pos h]
  dsimp only
  omega
theorem toEl_of {q : FP} (x : El q) : toEl q ((x.val : Nat) : Int) = x := by
  have := x.le
  unfold toEl
  rw [dif_pos (by omega)]
  exact El.ext (by simp)
/-- rows of numbers as rows of the field's -/
def elM (q : FP) (F : Nat → Nat → Int) (r j : Nat) : El q := toEl q (F r j)
theorem elM_val {q : FP} {F : Nat → Nat → Int} {n : Nat} {La : Nat → Nat} (h : mayP (M.ord q.p) n La F) {r j : Nat} (hr : r < n) (hj : j < La 0) : ivs (elM q F) r j = F r j := by
  obtain ⟨h1, h2⟩ := h.2.2 r hr
  exact toEl_val (h2 j (by rw [h1]; exact hj))
theorem elM_ivs {q : FP} (X : Nat → Nat → El q) : elM q (ivs X) = X := by
  funext r j
  exact toEl_of (X r j)
theorem ivs_in {q : FP} (X : Nat → Nat → El q) (r j : Nat) : 0 ≤ ivs X r j ∧ ivs X r j ≤ M.ord q.p := by
  have := (X r j).le
  unfold ivs
  omega
theorem ivs_may {q : FP} (X : Nat → Nat → El q) {n m : Nat} (hn : side n) (hm : side m) : mayP (M.ord q.p) n (fun _ => m) (ivs X) := ⟨hn, hm, fun r _ => ⟨rfl, fun j _ => ivs_in X r j⟩⟩

/-- a matrix with as many rows as numbers in each -/
def sqP (c n : Nat) (La : Nat → Nat) (F : Nat → Nat → Int) : Prop := mayP c n La F ∧ n = La 0

/-- a matrix, as its rows lie there: numbers of the field's -/
theorem Mx.rows {q : FP} {b : Nat} {w : World} {F : Nat → Nat → Int} {La : Nat → Nat} {A : Option Addr} {n : Nat} (h : Mx b w F La A n) (hm : mayP (M.ord q.p) n La F) :
    ∃ As Cs, Rd b w (slis As (fun _ => La 0) Cs) A n ∧ ∀ r, r < n → Rd b w (i64s (ivs (elM q F) r)) (As r) (La 0) := by
  obtain ⟨As, Cs, h1, h2⟩ := h
  refine ⟨As, Cs, h1.congr (fun r hr => by simp only [slis]; rw [(hm.2.2 r hr).1]), fun r hr => ?_⟩
  have := (h2 r hr).congr (k' := i64s (ivs (elM q F) r)) (fun j hj => by
    rw [(hm.2.2 r hr).1] at hj
    simp only [i64s]
    rw [elM_val hm hr hj])
  rwa [(hm.2.2 r hr).1] at this

set_option maxRecDepth 100000 in
set_option maxHeartbeats 1000000 in
theorem square28 (b wd c : Nat) (hk : Kind wd c) (F : Nat → Nat → Int) (La : Nat → Nat) (A : Option Addr) (n cap : Nat) (w : World) (hc : w.cell? ⟨b, 0, none⟩ = some (.int .i64 wd)) (hr : Mx b w F La A n) :
    Calls Tryz.prog 62 #[.pointer (some ⟨b, 0, none⟩), .slice A n cap] w (SaidB (sqP c n La F) w) := by
  have HM := Lib.hid (may16 b wd c hk F La A n cap w hc hr)
  by_cases hm : mayP c n La F
  · have hn1 := hm.1.1
    have hn2 := hm.1.2
    have hl2 := hm.2.1.2
    obtain ⟨As, Ca, ra, _⟩ := hr
    obtain ⟨ad, rfl, hc1⟩ := ra.at_ (show 0 < n by omega)
    rw [show ad.add 0 = ad by simp [Addr.add]] at hc1
    simp only [slis] at hc1
    have hn0 : (0 : Int) < (n : Int) := by omega
    clear ra
    by_cases he : n = La 0
    · have HE := Lib.hid (SaidB.yes (w := w) (show sqP c n La F from ⟨hm, he⟩))
      have hEq : (((n : Nat) : Int) == ((La 0 : Nat) : Int)) = true := by simp; omega
      have HMM := Lib.hid hm
      clear hm he
      go_enter Tryz.func62, Tryz.ntmps62
      go_wp2_with fail
      refine HM.out.mono ?_
      rintro e w' ⟨t, rfl, ht, rfl⟩
      obtain rfl : t = true := ht.2 HMM.out
      clear ht
      go_wp2_with fail
      go_ret
      exact HE.out
    · have HE := Lib.hid (SaidB.no (w := w) (show ¬ sqP c n La F from fun h => he h.2))
      have hEq : (((n : Nat) : Int) == ((La 0 : Nat) : Int)) = false := by simp; omega
      have HMM := Lib.hid hm
      clear hm he
      go_enter Tryz.func62, Tryz.ntmps62
      go_wp2_with fail
      refine HM.out.mono ?_
      rintro e w' ⟨t, rfl, ht, rfl⟩
      obtain rfl : t = true := ht.2 HMM.out
      clear ht
      go_wp2_with fail
      go_ret
      exact HE.out
  · have HE := Lib.hid (SaidB.no (w := w) (show ¬ sqP c n La F from fun h => hm h.1))
    have HMM := Lib.hid hm
    clear hm hr
    go_enter Tryz.func62, Tryz.ntmps62
    go_wp2_with fail
    refine HM.out.mono ?_
    rintro e w' ⟨t, rfl, ht, rfl⟩
    obtain rfl : t = false := by
      cases t
      · rfl
      · exact absurd (ht.1 rfl) HMM.out
    clear ht
    go_wp2_with fail
    go_ret
    exact HE.out

/-- the error's number: s: it may be; t: there is an inverse -/
def err2 (s t : Bool) : Int := cond s (cond t 0 2) 1
/-- what Inverse tells -/
def InvAny (q : FP) (b wd n : Nat) (La : Nat → Nat) (F : Nat → Nat → Int) (w : World) (e : Ending) (w' : World) : Prop :=
  ∃ s t A c, e = .returned (.tuple #[.slice A (cond (s && t) n 0) c, .int .i64 (err2 s t)]) ∧ (s = true ↔ sqP (M.ord q.p) n La F) ∧ (s = true → (t = true ↔ rk n (elM q F) n = n)) ∧ cond (s && t) n 0 ≤ c ∧
    Mx b w' (ivs (ivm n (elM q F))) (fun _ => n) A (cond (s && t) n 0) ∧ Fld q.p b wd w' ∧ Turned b w w'
theorem idF_el {q : FP} (r j : Nat) : idF r j = ivs (dl (q := q)) r j := by
  unfold idF ivs dl
  split <;> rfl

set_option maxRecDepth 100000 in
set_option maxHeartbeats 2000000 in
theorem inverse12 (q : FP) (b wd n : Nat) (La : Nat → Nat) (F : Nat → Nat → Int) (A : Option Addr) (cap : Nat) (w : World) (hfl : Fld q.p b wd w) (hr : Mx b w F La A n) :
    Calls Tryz.prog 28 #[.pointer (some ⟨b, 0, none⟩), .slice A n cap] w (InvAny q b wd n La F w) := by
  have HS := Lib.hid (square28 b wd (M.ord q.p) hfl.1.kind F La A n cap w hfl.c0 hr)
  have HF := Lib.hid hfl
  have HR := Lib.hid hr
  have hbl := hfl.lt
  clear hfl hr
  go_enter Tryz.func28, Tryz.ntmps28
  go_wp2_with fail
  refine HS.out.mono ?_
  rintro e w' ⟨s, rfl, hs, rfl⟩
  cases s
  · have HE := Lib.hid (show InvAny q b wd n La F w (.returned (.tuple #[nilS, .int .i64 1])) w from ⟨false, false, none, 0, rfl, hs, (fun h => by cases h), Nat.le_refl _, Mx.zero, HF.out, Turned.refl _ _⟩)
    clear hs
    go_wp2_with fail
    go_ret2
    exact HE.out
  have HSQ := Lib.hid (hs.1 rfl)
  have hsd : side n := (hs.1 rfl).1.1
  have hn1 := hsd.1
  have hn2 := hsd.2
  have HID := Lib.hid (identity_yes n hsd w)
  clear hs hsd HS
  go_wp2_with fail
  refine HID.out.mono ?_
  rintro e w1 ⟨v, rfl, hv⟩
  obtain ⟨AI, cI, rfl, _, hmx', hb1⟩ := hv
  have hmx := hmx' b hbl
  obtain ⟨As, Ca, r1, r2⟩ := (HR.out.below hb1).rows HSQ.out.1
  obtain ⟨Bs, Cb, s1, s2⟩ := hmx
  have hl : La 0 = n := HSQ.out.2.symm
  rw [hl] at r1 r2
  have HQ := Lib.hid (quot29 q b wd n n (elM q F) dl As Bs Ca Cb A AI cap cI (by omega) hn2 (by omega) hn2 w1 (HF.out.of_below hb1) r1 r2 s1 (fun r hr => (s2 r hr).congr (fun j _ => by simp only [i64s]; rw [idF_el])))
  have HT := Lib.hid (Turned.of_below (b := b) hb1)
  clear hmx' hb1 r1 r2 s1 s2 hl HID
  go_wp2_with fail
  refine HQ.out.mono ?_
  rintro e w2 ⟨t, A2, c2, rfl, ht, hc2, hm2, hf2, ht2⟩
  have HE := Lib.hid (show InvAny q b wd n La F w (.returned (.tuple #[.slice A2 (cond t n 0) c2, .int .i64 (err2 true t)])) w2 from ⟨true, t, A2, c2, rfl, by simp [HSQ.out], fun _ => ht, hc2, hm2, hf2, HT.out.trans ht2⟩)
  have HA2 := Lib.hid (show t = false → InvAny q b wd n La F w (.returned (.tuple #[nilS, .int .i64 2])) w2 from fun h => ⟨true, false, none, 0, rfl, by simp [HSQ.out], fun _ => by rw [← h]; exact ht, Nat.le_refl _, Mx.zero, hf2, HT.out.trans ht2⟩)
  clear ht hc2 hm2 hf2 ht2 HQ
  cases t
  · go_wp2_with fail
    go_ret2
    exact HA2.out trivial
  · go_wp2_with fail
    go_ret2
    exact HE.out
end Go.Proofs.YtgdgimknnjbieaaGreatDoor

namespace Go.Proofs.YtgdgimknnjbieaaGreatDoor
open Go.RowKit
end Go.Proofs.YtgdgimknnjbieaaGreatDoor

namespace Go.Proofs.YtgdgimknnjbieaaGreatDoor
open Go.RowKit

/-- numbers as a column of the field's -/
def colM (q : FP) (l : Nat → Int) (r _ : Nat) : El q := toEl q (l r)
/-- may these be asked? -/
def solP (c n : Nat) (La : Nat → Nat) (F : Nat → Nat → Int) (m : Nat) (l : Nat → Int) : Prop := sqP c n La F ∧ m = n ∧ allIn c l m
/-- what Solve tells -/
def SolAny (q : FP) (b wd n : Nat) (La : Nat → Nat) (F : Nat → Nat → Int) (m : Nat) (l : Nat → Int) (w : World) (e : Ending) (w' : World) : Prop :=
  ∃ s t A c, e = .returned (.tuple #[.slice A (cond (s && t) n 0) c, .int .i64 (err2 s t)]) ∧ (s = true ↔ solP (M.ord q.p) n La F m l) ∧ (s = true → (t = true ↔ rk n (elM q F) n = n)) ∧
    Rd b w' (i64s (fun r => ((mm n (ivm n (elM q F)) (colM q l) r 0).val : Int))) A (cond (s && t) n 0) ∧ Fld q.p b wd w' ∧ Turned b w w'
theorem SolAny.no {q : FP} {b wd n : Nat} {La : Nat → Nat} {F : Nat → Nat → Int} {m : Nat} {l : Nat → Int} {w w' : World} (h : ¬ solP (M.ord q.p) n La F m l) (hf : Fld q.p b wd w') (ht : Turned b w w') : SolAny q b wd n La F m l w (.returned (.tuple #[nilS, .int .i64 1])) w' :=
  ⟨false, false, none, 0, rfl, by simp [h], (fun h => by cases h), Rd.zero, hf, ht⟩
end Go.Proofs.YtgdgimknnjbieaaGreatDoor
