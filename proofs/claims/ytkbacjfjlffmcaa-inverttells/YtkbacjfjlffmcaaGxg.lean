/- The contracts of package invert: isSquare and Inverse. The contracts of package invert: Rank. The contracts of package invert: Solve. -/
import Derived.Test.YtkbacjfjlffmcaaGxf

namespace Go.Proofs.Ytkbacjfjlffmcaa
open Go.RowKit

/-- a number as one of the field -/
def toEl (q : FP) (a : Int) : El q := if h : 0 ≤ a ∧ a ≤ M.ord q.p then ⟨a.toNat, by omega⟩ else 0
theorem toEl_val {q : FP} {a : Int} (h : 0 ≤ a ∧ a ≤ M.ord q.p) : ((toEl q a).val : Int) = a := by
  unfold toEl
  rw [dif_pos h]
  dsimp only
  omega
theorem toEl_of {q : FP} (x : El q) : toEl q ((x.val : Nat) : Int) = x := by
  have := x.le
  unfold toEl
  rw [dif_pos (by omega)]
  exact El.ext (by simp)
/-- rows of numbers as rows of the field's -/
def elM (q : FP) (F : Nat → Nat → Int) (r j : Nat) : El q := toEl q (F r j)
theorem elM_val {q : FP} {F : Nat → Nat → Int} {n : Nat} {La : Nat → Nat} (h : mayP (M.ord q.p) n La F) {r j : Nat} (hr : r < n) (hj : j < La 0) : ivs (elM q F) r j = F r j := by
  obtain ⟨h1, h2⟩ := h.2.2 r hr
  exact toEl_val (h2 j (by rw [h1]; exact hj))
theorem elM_ivs {q : FP} (X : Nat → Nat → El q) : elM q (ivs X) = X := by
  funext r j
  exact toEl_of (X r j)
theorem ivs_in {q : FP} (X : Nat → Nat → El q) (r j : Nat) : 0 ≤ ivs X r j ∧ ivs X r j ≤ M.ord q.p := by
  have := (X r j).le
  unfold ivs
  omega
theorem ivs_may {q : FP} (X : Nat → Nat → El q) {n m : Nat} (hn : side n) (hm : side m) : mayP (M.ord q.p) n (fun _ => m) (ivs X) := ⟨hn, hm, fun r _ => ⟨rfl, fun j _ => ivs_in X r j⟩⟩

/-- a matrix with as many rows as numbers in each -/
def sqP (c n : Nat) (La : Nat → Nat) (F : Nat → Nat → Int) : Prop := mayP c n La F ∧ n = La 0

/-- a matrix, as its rows lie there: numbers of the field's -/
theorem Mx.rows {q : FP} {b : Nat} {w : World} {F : Nat → Nat → Int} {La : Nat → Nat} {A : Option Addr} {n : Nat} (h : Mx b w F La A n) (hm : mayP (M.ord q.p) n La F) :
    ∃ As Cs, Rd b w (slis As (fun _ => La 0) Cs) A n ∧ ∀ r, r < n → Rd b w (i64s (ivs (elM q F) r)) (As r) (La 0) := by
  obtain ⟨As, Cs, h1, h2⟩ := h
  refine ⟨As, Cs, h1.congr (fun r hr => by simp only [slis]; rw [(hm.2.2 r hr).1]), fun r hr => ?_⟩
  have := (h2 r hr).congr (k' := i64s (ivs (elM q F) r)) (fun j hj => by
    rw [(hm.2.2 r hr).1] at hj
    simp only [i64s]
    rw [elM_val hm hr hj])
  rwa [(hm.2.2 r hr).1] at this

set_option maxRecDepth 100000 in
set_option maxHeartbeats 1000000 in
theorem square28 (b wd c : Nat) (hk : Kind wd c) (F : Nat → Nat → Int) (La : Nat → Nat) (A : Option Addr) (n cap : Nat) (w : World) (hc : w.cell? ⟨b, 0, none⟩ = some (.int .i64 wd)) (hr : Mx b w F La A n) :
    Calls Try.prog 28 #[.pointer (some ⟨b, 0, none⟩), .slice A n cap] w (SaidB (sqP c n La F) w) := by
  have HM := Lib.hid (may16 b wd c hk F La A n cap w hc hr)
  by_cases hm : mayP c n La F
  · have hn1 := hm.1.1
    have hn2 := hm.1.2
    have hl2 := hm.2.1.2
    obtain ⟨As, Ca, ra, _⟩ := hr
    obtain ⟨ad, rfl, hc1⟩ := ra.at_ (show 0 < n by omega)
    rw [show ad.add 0 = ad by simp [Addr.add]] at hc1
    simp only [slis] at hc1
    have hn0 : (0 : Int) < (n : Int) := by omega
    clear ra
    by_cases he : n = La 0
    · have HE := Lib.hid (SaidB.yes (w := w) (show sqP c n La F from ⟨hm, he⟩))
      have hEq : (((n : Nat) : Int) == ((La 0 : Nat) : Int)) = true := by simp; omega
      have HMM := Lib.hid hm
      clear hm he
      go_enter Try.func28, Try.ntmps28
      go_wp2_with fail
      refine HM.out.mono ?_
      rintro e w' ⟨t, rfl, ht, rfl⟩
      obtain rfl : t = true := ht.2 HMM.out
      clear ht
      go_wp2_with fail
      go_ret
      exact HE.out
    · have HE := Lib.hid (SaidB.no (w := w) (show ¬ sqP c n La F from fun h => he h.2))
      have hEq : (((n : Nat) : Int) == ((La 0 : Nat) : Int)) = false := by simp; omega
      have HMM := Lib.hid hm
      clear hm he
      go_enter Try.func28, Try.ntmps28
      go_wp2_with fail
      refine HM.out.mono ?_
      rintro e w' ⟨t, rfl, ht, rfl⟩
      obtain rfl : t = true := ht.2 HMM.out
      clear ht
      go_wp2_with fail
      go_ret
      exact HE.out
  · have HE := Lib.hid (SaidB.no (w := w) (show ¬ sqP c n La F from fun h => hm h.1))
    have HMM := Lib.hid hm
    clear hm hr
    go_enter Try.func28, Try.ntmps28
    go_wp2_with fail
    refine HM.out.mono ?_
    rintro e w' ⟨t, rfl, ht, rfl⟩
    obtain rfl : t = false := by
      cases t
      · rfl
      · exact absurd (ht.1 rfl) HMM.out
    clear ht
    go_wp2_with fail
    go_ret
    exact HE.out

/-- the error's number: s: it may be; t: there is an inverse -/
def err2 (s t : Bool) : Int := cond s (cond t 0 2) 1
/-- what Inverse tells -/
def InvAny (q : FP) (b wd n : Nat) (La : Nat → Nat) (F : Nat → Nat → Int) (w : World) (e : Ending) (w' : World) : Prop :=
  ∃ s t A c, e = .returned (.tuple #[.slice A (cond (s && t) n 0) c, .int .i64 (err2 s t)]) ∧ (s = true ↔ sqP (M.ord q.p) n La F) ∧ (s = true → (t = true ↔ rk n (elM q F) n = n)) ∧ cond (s && t) n 0 ≤ c ∧
    Mx b w' (ivs (ivm n (elM q F))) (fun _ => n) A (cond (s && t) n 0) ∧ Fld q.p b wd w' ∧ Turned b w w'
theorem idF_el {q : FP} (r j : Nat) : idF r j = ivs (dl (q := q)) r j := by
  unfold idF ivs dl
  split <;> rfl

set_option maxRecDepth 100000 in
set_option maxHeartbeats 2000000 in
theorem inverse12 (q : FP) (b wd n : Nat) (La : Nat → Nat) (F : Nat → Nat → Int) (A : Option Addr) (cap : Nat) (w : World) (hfl : Fld q.p b wd w) (hr : Mx b w F La A n) :
    Calls Try.prog 12 #[.pointer (some ⟨b, 0, none⟩), .slice A n cap] w (InvAny q b wd n La F w) := by
  have HS := Lib.hid (square28 b wd (M.ord q.p) hfl.1.kind F La A n cap w hfl.c0 hr)
  have HF := Lib.hid hfl
  have HR := Lib.hid hr
  have hbl := hfl.lt
  clear hfl hr
  go_enter Try.func12, Try.ntmps12
  go_wp2_with fail
  refine HS.out.mono ?_
  rintro e w' ⟨s, rfl, hs, rfl⟩
  cases s
  · have HE := Lib.hid (show InvAny q b wd n La F w (.returned (.tuple #[nilS, .int .i64 1])) w from ⟨false, false, none, 0, rfl, hs, (fun h => by cases h), Nat.le_refl _, Mx.zero, HF.out, Turned.refl _ _⟩)
    clear hs
    go_wp2_with fail
    go_ret2
    exact HE.out
  have HSQ := Lib.hid (hs.1 rfl)
  have hsd : side n := (hs.1 rfl).1.1
  have hn1 := hsd.1
  have hn2 := hsd.2
  have HID := Lib.hid (identity_yes n hsd w)
  clear hs hsd HS
  go_wp2_with fail
  refine HID.out.mono ?_
  rintro e w1 ⟨v, rfl, hv⟩
  obtain ⟨AI, cI, rfl, _, hmx', hb1⟩ := hv
  have hmx := hmx' b hbl
  obtain ⟨As, Ca, r1, r2⟩ := (HR.out.below hb1).rows HSQ.out.1
  obtain ⟨Bs, Cb, s1, s2⟩ := hmx
  have hl : La 0 = n := HSQ.out.2.symm
  rw [hl] at r1 r2
  have HQ := Lib.hid (quot29 q b wd n n (elM q F) dl As Bs Ca Cb A AI cap cI (by omega) hn2 (by omega) hn2 w1 (HF.out.of_below hb1) r1 r2 s1 (fun r hr => (s2 r hr).congr (fun j _ => by simp only [i64s]; rw [idF_el])))
  have HT := Lib.hid (Turned.of_below (b := b) hb1)
  clear hmx' hb1 r1 r2 s1 s2 hl HID
  go_wp2_with fail
  refine HQ.out.mono ?_
  rintro e w2 ⟨t, A2, c2, rfl, ht, hc2, hm2, hf2, ht2⟩
  have HE := Lib.hid (show InvAny q b wd n La F w (.returned (.tuple #[.slice A2 (cond t n 0) c2, .int .i64 (err2 true t)])) w2 from ⟨true, t, A2, c2, rfl, by simp [HSQ.out], fun _ => ht, hc2, hm2, hf2, HT.out.trans ht2⟩)
  have HA2 := Lib.hid (show t = false → InvAny q b wd n La F w (.returned (.tuple #[nilS, .int .i64 2])) w2 from fun h => ⟨true, false, none, 0, rfl, by simp [HSQ.out], fun _ => by rw [← h]; exact ht, Nat.le_refl _, Mx.zero, hf2, HT.out.trans ht2⟩)
  clear ht hc2 hm2 hf2 ht2 HQ
  cases t
  · go_wp2_with fail
    go_ret2
    exact HA2.out trivial
  · go_wp2_with fail
    go_ret2
    exact HE.out
end Go.Proofs.Ytkbacjfjlffmcaa

namespace Go.Proofs.Ytkbacjfjlffmcaa
open Go.RowKit

/-- what Rank tells -/
def RankAny (q : FP) (b wd n : Nat) (La : Nat → Nat) (F : Nat → Nat → Int) (w : World) (e : Ending) (w' : World) : Prop :=
  ∃ s, e = .returned (.tuple #[.int .i64 (cond s (rk n (elM q F) (La 0)) 0 : Nat), .int .i64 (errOf s)]) ∧ (s = true ↔ mayP (M.ord q.p) n La F) ∧ Fld q.p b wd w' ∧ Turned b w w'

set_option maxRecDepth 100000 in
set_option maxHeartbeats 2000000 in
theorem rank14 (q : FP) (b wd n : Nat) (La : Nat → Nat) (F : Nat → Nat → Int) (A : Option Addr) (cap : Nat) (w : World) (hfl : Fld q.p b wd w) (hr : Mx b w F La A n) :
    Calls Try.prog 14 #[.pointer (some ⟨b, 0, none⟩), .slice A n cap] w (RankAny q b wd n La F w) := by
  have HS := Lib.hid (may16 b wd (M.ord q.p) hfl.1.kind F La A n cap w hfl.c0 hr)
  have HF := Lib.hid hfl
  have hbl := hfl.lt
  clear hfl
  by_cases hm : mayP (M.ord q.p) n La F
  case neg =>
    have HE := Lib.hid (show RankAny q b wd n La F w (.returned (.tuple #[.int .i64 0, .int .i64 1])) w from ⟨false, rfl, by simp [hm], HF.out, Turned.refl _ _⟩)
    have HMM := Lib.hid hm
    clear hm hr
    go_enter Try.func14, Try.ntmps14
    go_wp2_with fail
    refine HS.out.mono ?_
    rintro e w' ⟨t, rfl, ht, rfl⟩
    obtain rfl : t = false := by
      cases t
      · rfl
      · exact absurd (ht.1 rfl) HMM.out
    clear ht
    go_wp2_with fail
    go_ret2
    exact HE.out
  have hn1 := hm.1.1
  have hn2 := hm.1.2
  have hl1 := hm.2.1.1
  have hl2 := hm.2.1.2
  have hmk := run_make_row' (P := Try.prog) TM TIs nilS 24 underM' infoRow rfl .i64 .i64 n (by omega) (by omega)
  obtain ⟨As, Ca, r1, r2⟩ := hr.rows hm
  have HMM := Lib.hid hm
  have hn0 : 0 < n := by omega
  obtain ⟨ad, rfl, c1⟩ := r1.at_ (show 0 < n by omega)
  rw [show ad.add 0 = ad by simp [Addr.add]] at c1
  simp only [slis] at c1
  have KEEP := Lib.hid (show ∀ w', Turned b w w' → w'.cell? ad = some (.slice (As 0) (La 0) (Ca 0)) from fun w' ht => by
    obtain ⟨ad2, e, c⟩ := (r1.turned ht).at_ (show 0 < n by omega)
    injection e with e
    subst e
    rw [show ad.add 0 = ad by simp [Addr.add]] at c
    exact c)
  have hba := below_alloc w (.cells (madeCells #[nilS] n) TIs)
  have hbd : Below w.heap.size w (w.alloc (.cells (madeCells #[nilS] n) TIs)).drew := hba.drew
  have hmade := World.rowIs_made w nilS n TIs
  have HB := Lib.hid (beside34 q b (La 0) 0 n (elM q F) dl As (fun _ => none) Ca (fun _ => 0) (some ad) (some ⟨w.heap.size, 0, none⟩) cap n (by omega) hl2 (by omega) hn2 (w.alloc (.cells (madeCells #[nilS] n) TIs)).drew (Nat.lt_of_lt_of_le hbl hbd.size) (r1.below hbd) (fun r hr => (r2 r hr).below hbd)
    (Rd.of_row (b := b) hmade.drew (by omega) (Nat.le_refl _)) (fun r _ => Rd.zero) (fun r _ _ => rfl))
  have HBD := Lib.hid hbd
  have d1 := KEEP.out _ (Turned.of_below hba)
  clear hba hbd hmade r1 r2 hm hr
  go_enter Try.func14, Try.ntmps14
  go_wp2_with fail
  refine HS.out.mono ?_
  rintro e w' ⟨t, rfl, ht, rfl⟩
  obtain rfl : t = true := ht.2 HMM.out
  clear ht
  go_wp2_with fail
  obtain ⟨w1, hw1⟩ : ∃ w1, w.alloc (.cells (madeCells #[nilS] n) TIs) = w1 := ⟨_, rfl⟩
  rw [hw1] at HB HBD d1 ⊢
  clear hw1 hmk
  go_region_held3 (fun w' => w'.cell? ad = some (.slice (As 0) (La 0) (Ca 0)))
    (first | exact d1 | exact KEEP.out _ (Turned.of_below (below_tr HBD.out hb2)) | exact KEEP.out _ ht3 | assumption)
    (first
      | (go_at_call 34; refine HB.out.mono ?_; rintro e w2 ⟨g, gs, Cs, rfl, hG, hgl, hlow, hb2⟩)
      | (go_at_call 33; refine (reduce33 q b wd n (La 0 + 0) g n (La 0) gs Cs (aug (La 0) (elM q F) dl) w w2 (by omega) (by omega) (by omega) (HF.out.of_below (below_tr HBD.out hb2)) (Turned.of_below (below_tr HBD.out hb2)) hbl hG (Nat.le_trans HBD.out.size hgl) (fun r hr => Nat.le_trans HBD.out.size (hlow r hr))).mono ?_; rintro e w3 ⟨rfl, hf3, ht3, _⟩))
  all_goals
    have hrk : rk n (aug (La 0) (elM q F) dl) (La 0) = rk n (elM q F) (La 0) := rk_congr (fun r _ k hk => by unfold aug; rw [if_pos hk])
    rw [hrk]
    have HE := Lib.hid (show RankAny q b wd n La F w (.returned (.tuple #[.int .i64 (rk n (elM q F) (La 0) : Nat), .int .i64 0])) w3 from ⟨true, rfl, by simp [HMM.out], hf3, ht3⟩)
    clear hrk hf3 ht3 hG hgl hlow hb2
    go_wp2_with fail
    go_ret2
    exact HE.out
end Go.Proofs.Ytkbacjfjlffmcaa

namespace Go.Proofs.Ytkbacjfjlffmcaa
open Go.RowKit

/-- numbers as a column of the field's -/
def colM (q : FP) (l : Nat → Int) (r _ : Nat) : El q := toEl q (l r)
/-- may these be asked? -/
def solP (c n : Nat) (La : Nat → Nat) (F : Nat → Nat → Int) (m : Nat) (l : Nat → Int) : Prop := sqP c n La F ∧ m = n ∧ allIn c l m
/-- what Solve tells -/
def SolAny (q : FP) (b wd n : Nat) (La : Nat → Nat) (F : Nat → Nat → Int) (m : Nat) (l : Nat → Int) (w : World) (e : Ending) (w' : World) : Prop :=
  ∃ s t A c, e = .returned (.tuple #[.slice A (cond (s && t) n 0) c, .int .i64 (err2 s t)]) ∧ (s = true ↔ solP (M.ord q.p) n La F m l) ∧ (s = true → (t = true ↔ rk n (elM q F) n = n)) ∧
    Rd b w' (i64s (fun r => ((mm n (ivm n (elM q F)) (colM q l) r 0).val : Int))) A (cond (s && t) n 0) ∧ Fld q.p b wd w' ∧ Turned b w w'
theorem SolAny.no {q : FP} {b wd n : Nat} {La : Nat → Nat} {F : Nat → Nat → Int} {m : Nat} {l : Nat → Int} {w w' : World} (h : ¬ solP (M.ord q.p) n La F m l) (hf : Fld q.p b wd w') (ht : Turned b w w') : SolAny q b wd n La F m l w (.returned (.tuple #[nilS, .int .i64 1])) w' :=
  ⟨false, false, none, 0, rfl, by simp [h], (fun h => by cases h), Rd.zero, hf, ht⟩
theorem catN_one (n : Nat) : catN (fun _ => 1) n = n := by
  induction n with
  | zero => rfl
  | succ n ih => rw [catN, ih]
theorem catV_one (F : Nat → Nat → Int) (n : Nat) : catV F (fun _ => 1) n = (List.range n).map (i64s (fun r => F r 0)) := by
  induction n with
  | zero => rfl
  | succ n ih =>
    rw [catV, ih, range_snoc (i64s (fun r => F r 0)) n]
    rfl

set_option maxRecDepth 100000 in
set_option maxHeartbeats 4000000 in
theorem solve16 (q : FP) (b wd n : Nat) (La : Nat → Nat) (F : Nat → Nat → Int) (A : Option Addr) (cap : Nat) (m : Nat) (l : Nat → Int) (V : Option Addr) (cv : Nat) (hm5 : m ≤ 100000) (w : World) (hfl : Fld q.p b wd w) (hr : Mx b w F La A n) (hv : Rd b w (i64s l) V m) :
    Calls Try.prog 16 #[.pointer (some ⟨b, 0, none⟩), .slice A n cap, .slice V m cv] w (SolAny q b wd n La F m l w) := by
  have HS := Lib.hid (square28 b wd (M.ord q.p) hfl.1.kind F La A n cap w hfl.c0 hr)
  have hkd := hfl.1.kind
  have HF := Lib.hid hfl
  have HR := Lib.hid hr
  have HV := Lib.hid hv
  have hbl := hfl.lt
  clear hfl hr hv
  go_enter Try.func16, Try.ntmps16
  go_wp2_with fail
  refine HS.out.mono ?_
  rintro e w' ⟨s, rfl, hs, rfl⟩
  clear HS
  cases s
  · have HE := Lib.hid (SolAny.no (q := q) (wd := wd) (m := m) (l := l) (n := n) (La := La) (F := F) (w := w) (fun h => by have := hs.2 h.1; cases this) HF.out (Turned.refl _ _))
    clear hs
    go_wp2_with fail
    go_ret2
    exact HE.out
  have HSQ := Lib.hid (hs.1 rfl)
  have hsd : side n := (hs.1 rfl).1.1
  have hn1 := hsd.1
  have hn2 := hsd.2
  have HSD := Lib.hid hsd
  clear hs hsd
  by_cases hmn : m = n
  case neg =>
    have HE := Lib.hid (SolAny.no (q := q) (wd := wd) (m := m) (l := l) (n := n) (La := La) (F := F) (w := w) (fun h => hmn h.2.1) HF.out (Turned.refl _ _))
    have hne : (((m : Nat) : Int) != ((n : Nat) : Int)) = true := by simp; omega
    clear hmn
    go_wp2_with fail
    go_ret2
    exact HE.out
  subst hmn
  have hmk := run_make_row' (P := Try.prog) TM TIs nilS 24 underM' infoRow rfl .i64 .i64 m (by omega) (by omega)
  have hrow := World.rowIs_alloc w #[.slice V m cv] TIs (slis (fun _ => V) (fun _ => m) (fun _ => cv)) (fun i hi => by
    simp at hi
    subst hi
    rfl)
  have hba := below_alloc w (.cells #[.slice V m cv] TIs)
  have HMAY := Lib.hid (may16 b wd (M.ord q.p) hkd (fun _ => l) (fun _ => m) (some ⟨w.heap.size, 0, none⟩) 1 1 (w.alloc (.cells #[.slice V m cv] TIs)) (HF.out.of_below hba).c0 ⟨fun _ => V, fun _ => cv, Rd.of_row hrow (by omega) (by simp), fun r _ => HV.out.below hba⟩)
  have HBA := Lib.hid hba
  clear hrow hba
  go_wp2_with fail
  obtain ⟨w1, hw1⟩ : ∃ w1, w.alloc (.cells #[.slice V m cv] TIs) = w1 := ⟨_, rfl⟩
  rw [hw1] at HMAY HBA ⊢
  clear hw1
  refine HMAY.out.mono ?_
  rintro e w' ⟨s, rfl, hs, rfl⟩
  clear HMAY
  cases s
  · have HE := Lib.hid (SolAny.no (q := q) (wd := wd) (m := m) (l := l) (n := m) (La := La) (F := F) (w := w) (fun h => by
      have := hs.2 ⟨⟨Nat.le_refl _, (by decide : 1 ≤ 20)⟩, HSD.out, fun r _ => ⟨rfl, h.2.2⟩⟩
      cases this) (HF.out.of_below HBA.out) (Turned.of_below HBA.out))
    clear hs
    go_wp2_with fail
    go_ret2
    exact HE.out
  have HIN := Lib.hid (show allIn (M.ord q.p) l m from ((hs.1 rfl).2.2 0 Nat.zero_lt_one).2)
  clear hs
  go_wp2_with fail
  clear hmk
  go_loopw [36] (fun s36 wr => ∃ k : Nat, k ≤ m ∧ s36 = .int .i64 k ∧ Hid (Bld w1.heap.size m (fun r _ => l r) (fun _ => 1) w1 k wr)) (fun s36 _ => m - (intOf s36).toNat)
  case atStart => exact ⟨0, Nat.zero_le _, rfl, Lib.hid (Bld.start _ _ _ _)⟩
  case round =>
    obtain ⟨k, hk, rfl, hb⟩ := hrel
    by_cases hlt : k < m
    · obtain ⟨ad, rfl, hcell⟩ := (HV.out.below (below_tr HBA.out hb.out.2.1)).at_ hlt
      simp only [i64s] at hcell
      have hgl : w1.heap.size < wr.heap.size := by obtain ⟨_, _, _, _, h3, _⟩ := hb.out; exact h3.lt
      have hrow := World.rowIs_alloc wr #[.int .i64 (l k)] TI (i64s (fun _ => l k)) (fun i hi => by
        simp at hi
        subst hi
        rfl)
      have hb1 := hb.out.below (below_alloc wr (.cells #[.int .i64 (l k)] TI))
      obtain ⟨v0, g1, _, f1⟩ := hb1.cell hlt
      have HNX := Lib.hid (hb1.step (k := k) (A' := some ⟨wr.heap.size, 0, none⟩) (c' := 1) (fun b' hb' => Rd.of_row hrow (by rcases hb' with h | h <;> omega) (by simp)))
      rw [World.setCell_alloc_past (w := wr) (.cells #[.int .i64 (l k)] TI) w1.heap.size k (.slice (some ⟨wr.heap.size, 0, none⟩) 1 1) hgl] at HNX
      clear hb1 hrow
      go_wp2_with fail
      exact ⟨⟨k + 1, hlt, by go_num, HNX⟩, by simp [intOf]; omega⟩
    · obtain rfl : k = m := by omega
      obtain ⟨AC, cc, e, _, hmx', hb2⟩ := hb.out.told k (Nat.le_refl _)
      injection e with e _ e2
      subst e e2
      have hmx := hmx' b (Nat.lt_of_lt_of_le hbl HBA.out.size)
      have hB2 := below_tr HBA.out hb2
      obtain ⟨As, Ca, r1, r2⟩ := (HR.out.below hB2).rows HSQ.out.1
      obtain ⟨Bs, Cb, s1, s2⟩ := hmx
      have hl : La 0 = k := HSQ.out.2.symm
      rw [hl] at r1 r2
      have HQ := Lib.hid (quot29 q b wd k 1 (elM q F) (colM q l) As Bs Ca Cb A _ cap k (by omega) hn2 (by omega) (by omega) wr (HF.out.of_below hB2) r1 r2 s1 (fun r hr => (s2 r hr).congr (fun j _ => by
        simp only [i64s, ivs, colM]
        rw [toEl_val (HIN.out r hr)])))
      have HT := Lib.hid (Turned.of_below (b := b) hB2)
      clear hmx' hb2 hB2 r1 r2 s1 s2 hl hb
      go_wp2_with fail
      refine HQ.out.mono ?_
      rintro e w2 ⟨t, A2, c2, rfl, ht, hc2, hm2, hf2, ht2⟩
      clear HQ
      cases t
      · have HE := Lib.hid (show SolAny q b wd k La F k l w (.returned (.tuple #[nilS, .int .i64 2])) w2 from ⟨true, false, none, 0, rfl, by simp [solP, HSQ.out, HIN.out], fun _ => ht, Rd.zero, hf2, HT.out.trans ht2⟩)
        clear ht hm2 hf2 ht2
        go_wp2_with fail
        go_ret2
        exact HE.out
      · obtain ⟨Xs, Cx, x1, x2⟩ := hm2
        simp only [cond] at x1 x2 hc2 ⊢
        have HC := Lib.hid (concat35 b (ivs (fun r j => (red k (aug k (elM q F) (colM q l)) k).1 r (k + j))) Xs (fun _ => 1) Cx A2 k c2 (by omega) (fun _ _ => by omega) (by rw [catN_one]; omega) w2 x1 x2 (fun r hr h => by
          obtain ⟨_, e, _⟩ := x2 r hr Nat.zero_lt_one
          rw [e] at h
          cases h))
        have HT2 := Lib.hid (And.intro (ht.1 rfl) (And.intro hf2 (HT.out.trans ht2)))
        clear ht hf2 ht2 x1 x2 HT
        go_wp2_with fail
        refine HC.out.mono ?_
        rintro e w3 ⟨v, rfl, hown, hb3⟩
        rw [catN_one, catV_one] at hown
        obtain ⟨A3, c3, rfl, _, hrd⟩ := Rd.of_own hown HT2.out.2.1.lt
        have HE := Lib.hid (show SolAny q b wd k La F k l w (.returned (.tuple #[.slice A3 k c3, .int .i64 0])) w3 from ⟨true, true, A3, c3, rfl, by simp [solP, HSQ.out, HIN.out], fun _ => by simp [HT2.out.1], hrd.congr (fun r hr => by
          simp only [i64s, ivs]
          rw [aug_inv HT2.out.1 r hr 0]), HT2.out.2.1.of_below hb3, HT2.out.2.2.trans (Turned.of_below hb3)⟩)
        clear hown hb3 hrd HC
        go_wp2_with fail
        go_ret2
        exact HE.out
end Go.Proofs.Ytkbacjfjlffmcaa
