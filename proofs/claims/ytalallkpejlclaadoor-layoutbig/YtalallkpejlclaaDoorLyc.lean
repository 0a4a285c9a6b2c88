/- Rows of bytes that are read; contracts of bytes.Equal, slices.EqualFunc over it, areAsLong, and of the document's Same and Few. -/
import Derived.Test.YtalallkpejlclaaDoorLya
namespace Go.Proofs.YtalallkpejlclaaDoor
open Go.RowKit

/-- rows of bytes at A, n of them -/
def Bx (b : Nat) (w : World) (F : Nat → Nat → Nat) (Ls : Nat → Nat) (A : Option Addr) (n : Nat) : Prop :=
  ∃ (As : Nat → Option Addr) (Cs : Nat → Nat), Rd b w (slis As Ls Cs) A n ∧ ∀ r, r < n → Rd b w (u8s (F r)) (As r) (Ls r)
theorem Bx.zero {b : Nat} {w : World} {F : Nat → Nat → Nat} {Ls : Nat → Nat} {A : Option Addr} : Bx b w F Ls A 0 := ⟨fun _ => none, fun _ => 0, Rd.zero, fun r hr => absurd hr (by omega)⟩
theorem Bx.below {b : Nat} {w w' : World} {F : Nat → Nat → Nat} {Ls : Nat → Nat} {A : Option Addr} {n : Nat} (h : Bx b w F Ls A n) (hb : Below w.heap.size w w') : Bx b w' F Ls A n := by
  obtain ⟨As, Cs, h1, h2⟩ := h
  exact ⟨As, Cs, h1.below hb, fun r hr => (h2 r hr).below hb⟩
theorem Bx.congr {b : Nat} {w : World} {F G : Nat → Nat → Nat} {Ls Ms : Nat → Nat} {A : Option Addr} {n : Nat} (h : Bx b w F Ls A n) (hl : ∀ r, r < n → Ls r = Ms r) (he : ∀ r, r < n → ∀ j, j < Ls r → F r j = G r j) : Bx b w G Ms A n := by
  obtain ⟨As, Cs, h1, h2⟩ := h
  refine ⟨As, Cs, h1.congr (fun j hj => by simp only [slis]; rw [hl j hj]), fun r hr => ?_⟩
  rw [← hl r hr]
  exact (h2 r hr).congr (fun j hj => by simp only [u8s]; rw [he r hr j hj])
/-- rows that are told -/
def RowsTold (n : Nat) (F : Nat → Nat → Nat) (Ls : Nat → Nat) (w : World) (v : Value) (w' : World) : Prop := ∃ A c, v = .slice A n c ∧ n ≤ c ∧ (∀ b, b < w.heap.size → Bx b w' F Ls A n) ∧ Below w.heap.size w w'
theorem RowsTold.nil {F : Nat → Nat → Nat} {Ls : Nat → Nat} {w w' : World} (h : Below w.heap.size w w') : RowsTold 0 F Ls w nilS w' := ⟨none, 0, rfl, Nat.le_refl _, fun _ _ => Bx.zero, h⟩
theorem RowsTold.from {n : Nat} {F : Nat → Nat → Nat} {Ls : Nat → Nat} {w w1 w' : World} {v : Value} (hb : Below w.heap.size w w1) (h : RowsTold n F Ls w1 v w') : RowsTold n F Ls w v w' := by
  obtain ⟨A, c, h1, h2, h3, h4⟩ := h
  exact ⟨A, c, h1, h2, fun b hb' => h3 b (Nat.lt_of_lt_of_le hb' hb.size), below_tr hb h4⟩
/-- bytes that are told, apart from all that lay there -/
def BytesOut (n : Nat) (k : Nat → Nat) (w : World) (v : Value) (w' : World) : Prop := ∃ A c, v = .slice A n c ∧ n ≤ c ∧ (∀ b, b < w.heap.size → Rd b w' (u8s k) A n) ∧ Below w.heap.size w w'
theorem BytesOut.nil {k : Nat → Nat} {w w' : World} (h : Below w.heap.size w w') : BytesOut 0 k w nilS w' := ⟨none, 0, rfl, Nat.le_refl _, fun _ _ => Rd.zero, h⟩
theorem BytesOut.from {n : Nat} {k : Nat → Nat} {w w1 w' : World} {v : Value} (hb : Below w.heap.size w w1) (h : BytesOut n k w1 v w') : BytesOut n k w v w' := by
  obtain ⟨A, c, h1, h2, h3, h4⟩ := h
  exact ⟨A, c, h1, h2, fun b hb' => h3 b (Nat.lt_of_lt_of_le hb' hb.size), below_tr hb h4⟩

/-- are two lists of rows the same? -/
def sameP (n m : Nat) (Ls Ms : Nat → Nat) (F G : Nat → Nat → Nat) : Prop := n = m ∧ ∀ r, r < n → Ls r = Ms r ∧ ∀ j, j < Ls r → F r j = G r j
def SameSaid (n m : Nat) (Ls Ms : Nat → Nat) (F G : Nat → Nat → Nat) (w : World) (e : Ending) (w' : World) : Prop := ∃ t, e = .returned (.bool t) ∧ (t = true ↔ sameP n m Ls Ms F G) ∧ Below w.heap.size w w'

/-- in the loops that ask whether rows are the same -/
def SameAt (n : Nat) (Ls Ms : Nat → Nat) (F G : Nat → Nat → Nat) (w : World) (s : Value) (wr : World) : Prop :=
  ∃ k : Nat, k ≤ n ∧ s = .int .i64 k ∧ (∀ r, r < k → Ls r = Ms r ∧ ∀ j, j < Ls r → F r j = G r j) ∧ Below w.heap.size w wr
theorem SameSaid.no {n m : Nat} {Ls Ms : Nat → Nat} {F G : Nat → Nat → Nat} {w w' : World} (h : ¬ sameP n m Ls Ms F G) (hb : Below w.heap.size w w') : SameSaid n m Ls Ms F G w (.returned (.bool false)) w' := ⟨false, rfl, by simp [h], hb⟩
theorem SameSaid.yes {n m : Nat} {Ls Ms : Nat → Nat} {F G : Nat → Nat → Nat} {w w' : World} (h : sameP n m Ls Ms F G) (hb : Below w.heap.size w w') : SameSaid n m Ls Ms F G w (.returned (.bool true)) w' := ⟨true, rfl, by simp [h], hb⟩

set_option maxRecDepth 100000 in
set_option maxHeartbeats 1000000 in
theorem rsame14 (b b' : Nat) (F G : Nat → Nat → Nat) (hF : ∀ r j, F r j < 256) (hG : ∀ r j, G r j < 256) (Ls Ms : Nat → Nat) (A B : Option Addr) (n m ca cb : Nat) (hn : n ≤ 100000) (w : World) (ha : Bx b w F Ls A n) (hb : Bx b' w G Ms B m) :
    Calls Tryd.prog 14 #[.slice A n ca, .slice B m cb] w (SameSaid n m Ls Ms F G w) := by
  obtain ⟨As, Cs, ha1, ha2⟩ := ha
  obtain ⟨Bs, Ds, hb1, hb2⟩ := hb
  have HA := Lib.hid ha1
  have HA2 := Lib.hid ha2
  have HB := Lib.hid hb1
  have HB2 := Lib.hid hb2
  have HF := Lib.hid hF
  have HG := Lib.hid hG
  clear ha1 ha2 hb1 hb2 hF hG
  by_cases hnm : n = m
  · subst hnm
    go_enter Tryd.func14, Tryd.ntmps14
    go_wp2_with fail
    go_loopw [5] (fun s5 wr => SameAt n Ls Ms F G w s5 wr) (fun s5 _ => n - (intOf s5).toNat)
    case atStart => exact ⟨0, Nat.zero_le _, rfl, fun r hr => absurd hr (by omega), Below.refl _ _⟩
    case round =>
      obtain ⟨k, hk, rfl, hall, hbl⟩ := hrel
      by_cases hlt : k < n
      · obtain ⟨ad, rfl, c1⟩ := (HA.out.below hbl.drew).at_ hlt
        obtain ⟨ad', rfl, c2⟩ := (HB.out.below hbl.drew).at_ hlt
        have v1 := conv_rd (Cs k) ((HA2.out k hlt).below hbl.drew)
        have v2 := conv_rd (Ds k) ((HB2.out k hlt).below hbl.drew)
        have hi := beq_rows (f := F k) (g := G k) (n := Ls k) (m := Ms k) (HF.out k) (HG.out k)
        simp only [slis] at c1 c2
        have HALL := Lib.hid hall
        have HBL := Lib.hid hbl
        clear hall hbl
        obtain ⟨x, hx⟩ : ∃ x, strF (F k) (Ls k) = x := ⟨_, rfl⟩
        obtain ⟨y, hy⟩ : ∃ y, strF (G k) (Ms k) = y := ⟨_, rfl⟩
        rw [hx] at v1 hi
        rw [hy] at v2 hi
        obtain ⟨t, ht⟩ : ∃ t, (x.toList == y.toList) = t := ⟨_, rfl⟩
        rw [ht] at hi
        have HI := Lib.hid hi
        clear hx hy hi
        cases t
        · have HS := Lib.hid (SameSaid.no (n := n) (m := n) (fun h => by have := HI.out.2 (h.2 k hlt); cases this) HBL.out.drew)
          go_wp2_with fail
          go_region
          all_goals
            go_wp2_with fail
            go_ret
            exact HS.out
        · have HS := Lib.hid (show SameAt n Ls Ms F G w (.int .i64 ((k + 1 : Nat) : Int)) wr.drew from ⟨k + 1, hlt, rfl, fun r hr => (Nat.lt_succ_iff_lt_or_eq.1 hr).elim (fun h => HALL.out r h) (fun h => by rw [h]; exact HI.out.1 rfl), HBL.out.drew⟩)
          go_wp2_with fail
          go_region
          all_goals
            go_wp2_with fail
            exact ⟨HS.out, by simp [intOf]; omega⟩
      · obtain rfl : k = n := by omega
        have HS := Lib.hid (SameSaid.yes (n := k) (m := k) ⟨rfl, hall⟩ hbl)
        clear hall
        go_wp2_with fail
        go_ret
        exact HS.out
  · have hne : ((n : Int) != (m : Int)) = true := by simp; omega
    have HS := Lib.hid (SameSaid.no (Ls := Ls) (Ms := Ms) (F := F) (G := G) (n := n) (m := m) (w := w) (w' := w) (fun h => hnm h.1) (Below.refl _ _))
    clear hnm
    go_enter Tryd.func14, Tryd.ntmps14
    go_wp2_with fail
    go_ret
    exact HS.out

set_option maxRecDepth 100000 in
theorem beq34 (b b' : Nat) (f g : Nat → Nat) (hf : ∀ j, f j < 256) (hg : ∀ j, g j < 256) (A B : Option Addr) (n m ca cb : Nat) (w : World) (ha : Rd b w (u8s f) A n) (hb : Rd b' w (u8s g) B m) :
    Calls Tryd.prog 34 #[.slice A n ca, .slice B m cb] w fun e w' => (∃ t, e = .returned (.bool t) ∧ (t = true ↔ n = m ∧ ∀ j, j < n → f j = g j)) ∧ w = w' := by
  have v1 := conv_rd ca ha
  have v2 := conv_rd cb hb
  have hi := beq_rows (f := f) (g := g) (n := n) (m := m) hf hg
  obtain ⟨x, hx⟩ : ∃ x, strF f n = x := ⟨_, rfl⟩
  obtain ⟨y, hy⟩ : ∃ y, strF g m = y := ⟨_, rfl⟩
  rw [hx] at v1 hi
  rw [hy] at v2 hi
  obtain ⟨t, ht⟩ : ∃ t, (x.toList == y.toList) = t := ⟨_, rfl⟩
  rw [ht] at hi
  have HI := Lib.hid hi
  clear hx hy hi ha hb hf hg
  go_enter Tryd.func34, Tryd.ntmps34
  go_wp2_with fail
  go_ret
  exact ⟨⟨t, rfl, HI.out⟩, rfl⟩

set_option maxRecDepth 100000 in
set_option maxHeartbeats 1000000 in
theorem equal33 (b b' : Nat) (F G : Nat → Nat → Nat) (hF : ∀ r j, F r j < 256) (hG : ∀ r j, G r j < 256) (Ls Ms : Nat → Nat) (A B : Option Addr) (n m ca cb : Nat) (hn : n ≤ 100000) (w : World) (ha : Bx b w F Ls A n) (hb : Bx b' w G Ms B m) :
    Calls Tryd.prog 33 #[.slice A n ca, .slice B m cb, .func (.func 34) #[] #[]] w (SameSaid n m Ls Ms F G w) := by
  obtain ⟨As, Cs, ha1, ha2⟩ := ha
  obtain ⟨Bs, Ds, hb1, hb2⟩ := hb
  have HA := Lib.hid ha1
  have HA2 := Lib.hid ha2
  have HB := Lib.hid hb1
  have HB2 := Lib.hid hb2
  have HF := Lib.hid hF
  have HG := Lib.hid hG
  clear ha1 ha2 hb1 hb2 hF hG
  by_cases hnm : n = m
  · subst hnm
    go_enter Tryd.func33, Tryd.ntmps33
    go_wp2_with fail
    go_loopw [17] (fun s17 wr => SameAt n Ls Ms F G w s17 wr) (fun s17 _ => n - (intOf s17).toNat)
    case atStart => exact ⟨0, Nat.zero_le _, rfl, fun r hr => absurd hr (by omega), Below.refl _ _⟩
    case round =>
      obtain ⟨k, hk, rfl, hall, hbl⟩ := hrel
      by_cases hlt : k < n
      · obtain ⟨ad, rfl, c1⟩ := (HA.out.below hbl).at_ hlt
        obtain ⟨ad', rfl, c2⟩ := (HB.out.below hbl).at_ hlt
        simp only [slis] at c1 c2
        have HALL := Lib.hid hall
        have HBL := Lib.hid hbl
        have HQ := Lib.hid (beq34 b b' (F k) (G k) (HF.out k) (HG.out k) (As k) (Bs k) (Ls k) (Ms k) (Cs k) (Ds k) wr ((HA2.out k hlt).below hbl) ((HB2.out k hlt).below hbl))
        clear hall hbl
        go_wp2_with fail
        refine HQ.out.mono ?_
        rintro e w' ⟨⟨t, rfl, ht⟩, rfl⟩
        have HT := Lib.hid ht
        clear ht
        cases t
        · have HS := Lib.hid (SameSaid.no (n := n) (m := n) (fun h => by have := HT.out.2 (h.2 k hlt); cases this) HBL.out)
          go_wp2_with fail
          go_ret
          exact HS.out
        · have HS := Lib.hid (show SameAt n Ls Ms F G w (.int .i64 ((k + 1 : Nat) : Int)) wr from ⟨k + 1, hlt, rfl, fun r hr => (Nat.lt_succ_iff_lt_or_eq.1 hr).elim (fun h => HALL.out r h) (fun h => by rw [h]; exact HT.out.1 rfl), HBL.out⟩)
          go_wp2_with fail
          exact ⟨HS.out, by simp [intOf]; omega⟩
      · obtain rfl : k = n := by omega
        have HS := Lib.hid (SameSaid.yes (n := k) (m := k) ⟨rfl, hall⟩ hbl)
        clear hall
        go_wp2_with fail
        go_ret
        exact HS.out
  · have hne : ((n : Int) != (m : Int)) = true := by simp; omega
    have HS := Lib.hid (SameSaid.no (Ls := Ls) (Ms := Ms) (F := F) (G := G) (n := n) (m := m) (w := w) (w' := w) (fun h => hnm h.1) (Below.refl _ _))
    clear hnm
    go_enter Tryd.func33, Tryd.ntmps33
    go_wp2_with fail
    go_ret
    exact HS.out

set_option maxRecDepth 100000 in
/-- are n rows all as long as the first one? -/
def alikeR (n : Nat) (Ls : Nat → Nat) : Prop := ∀ r, r < n → Ls r = Ls 0
def AlikeSaid (n : Nat) (Ls : Nat → Nat) (w : World) (e : Ending) (w' : World) : Prop := ∃ t, e = .returned (.bool t) ∧ (t = true ↔ alikeR n Ls) ∧ w = w'
set_option maxHeartbeats 1000000 in
theorem alike29 (b : Nat) (As : Nat → Option Addr) (Ls Cs : Nat → Nat) (A : Option Addr) (n c : Nat) (hn : n ≤ 1000000000) (w : World) (hr : Rd b w (slis As Ls Cs) A n) :
    Calls Tryd.prog 29 #[.slice A n c] w (AlikeSaid n Ls w) := by
  have HR := Lib.hid hr
  clear hr
  go_enter Tryd.func29, Tryd.ntmps29
  go_wp2_with fail
  go_loop [7] (fun s7 => ∃ k : Nat, k ≤ n ∧ s7 = .int .i64 k ∧ Hid (∀ j, j < k → Ls j = Ls 0)) (fun s7 => n - (intOf s7).toNat)
  case atStart => exact ⟨0, Nat.zero_le _, rfl, Lib.hid (fun j hj => absurd hj (by omega))⟩
  case round =>
    obtain ⟨k, hk, rfl, hall⟩ := hrel
    by_cases hlt : k < n
    · obtain ⟨ad, rfl, hcell⟩ := HR.out.at_ hlt
      obtain ⟨ad', e', hc0⟩ := HR.out.at_ (show 0 < n by omega)
      injection e' with e'
      subst e'
      rw [show ad.add 0 = ad by simp [Addr.add]] at hc0
      simp only [slis] at hcell hc0
      have hn0 : (0 : Int) < (n : Int) := by omega
      obtain ⟨x, hx⟩ : ∃ x, Ls k = x := ⟨_, rfl⟩
      obtain ⟨y, hy⟩ : ∃ y, Ls 0 = y := ⟨_, rfl⟩
      rw [hx] at hcell
      rw [hy] at hc0
      have HX := Lib.hid hx
      have HY := Lib.hid hy
      clear hx hy
      by_cases he : x = y
      · have hne : (((x : Nat) : Int) != ((y : Nat) : Int)) = false := by simp [he]
        have HE := Lib.hid (show ∀ j, j < k + 1 → Ls j = Ls 0 from fun j hj => (Nat.lt_succ_iff_lt_or_eq.1 hj).elim (fun h => hall.out j h) (fun h => by rw [h, HX.out, HY.out, he]))
        clear he
        go_wp2_with fail
        exact ⟨⟨k + 1, hlt, by go_num, HE⟩, by simp [intOf]; omega⟩
      · have hne : (((x : Nat) : Int) != ((y : Nat) : Int)) = true := by simp; omega
        have HE := Lib.hid (show ¬ alikeR n Ls from fun h => he (by rw [← HX.out, ← HY.out]; exact h k hlt))
        clear he
        go_wp2_with fail
        go_ret
        exact ⟨false, rfl, by simp [HE.out], rfl⟩
    · obtain rfl : k = n := by omega
      go_wp2_with fail
      go_ret
      exact ⟨true, rfl, by simp [show alikeR k Ls from hall.out], rfl⟩

/-- what Few tells -/
def FewSaid10 (N : Nat) (Ls : Nat → Nat) (w : World) (e : Ending) (w' : World) : Prop := ∃ t, e = .returned (.bool t) ∧ (t = true → N ≤ 12 ∧ ∀ r, r < N → Ls r ≤ 300) ∧ w = w'

set_option maxRecDepth 100000 in
set_option maxHeartbeats 1000000 in
theorem few15 (b : Nat) (As : Nat → Option Addr) (Ls Cs : Nat → Nat) (A : Option Addr) (N c : Nat) (w : World) (hr : Rd b w (slis As Ls Cs) A N) :
    Calls Tryd.prog 15 #[.slice A N c] w (FewSaid10 N Ls w) := by
  have HR := Lib.hid hr
  clear hr
  go_enter Tryd.func15, Tryd.ntmps15
  go_wp2_with fail
  go_loop [3] (fun s3 => ∃ k : Nat, k ≤ N ∧ k ≤ 13 ∧ s3 = .int .i64 k ∧ Hid (∀ j, j < k → Ls j ≤ 300)) (fun s3 => 13 - (intOf s3).toNat)
  case atStart => exact ⟨0, Nat.zero_le _, Nat.zero_le _, rfl, Lib.hid (fun j hj => absurd hj (by omega))⟩
  case round =>
    obtain ⟨k, hk, hk2, rfl, hall⟩ := hrel
    by_cases hlt : k < N
    · by_cases hlt2 : k < 13
      · obtain ⟨ad, rfl, hcell⟩ := HR.out.at_ hlt
        simp only [slis] at hcell
        by_cases hL : 300 < Ls k
        · have HX := Lib.hid (show FewSaid10 N Ls w (.returned (.bool false)) w from ⟨false, rfl, fun h => (by cases h), rfl⟩)
          go_wp2_with fail
          go_ret
          exact HX.out
        · have HX := Lib.hid (show ∀ j, j < k + 1 → Ls j ≤ 300 from fun j hj => (Nat.lt_succ_iff_lt_or_eq.1 hj).elim (fun h => hall.out j h) (fun h => by rw [h]; omega))
          have hL' : ((Ls k : Nat) : Int) ≤ 300 := by omega
          go_wp2_with fail
          exact ⟨⟨k + 1, hlt, hlt2, by go_num, HX⟩, by simp [intOf]; omega⟩
      · have hd : decide (((N : Nat) : Int) ≤ 12) = false := by simp; omega
        have HX := Lib.hid (show FewSaid10 N Ls w (.returned (.bool false)) w from ⟨false, rfl, fun h => (by cases h), rfl⟩)
        go_wp2_with fail
        go_ret
        exact HX.out
    · obtain rfl : k = N := by omega
      by_cases h10 : k ≤ 12
      · have HX := Lib.hid (show FewSaid10 k Ls w (.returned (.bool true)) w from ⟨true, rfl, fun _ => ⟨h10, hall.out⟩, rfl⟩)
        have hd : decide (((k : Nat) : Int) ≤ 12) = true := by simp; omega
        go_wp2_with fail
        go_ret
        exact HX.out
      · have hd : decide (((k : Nat) : Int) ≤ 12) = false := by simp; omega
        have HX := Lib.hid (show FewSaid10 k Ls w (.returned (.bool false)) w from ⟨false, rfl, fun h => (by cases h), rfl⟩)
        go_wp2_with fail
        go_ret
        exact HX.out
end Go.Proofs.YtalallkpejlclaaDoor
