/- Contracts of gambrelref04: Few, May and Same. Contracts of gambrelref04: the identity, rows picked and joined. Contracts of gambrelref04: Join, the identity, Mul and Apply. Contracts of gambrelref04: Mul and Apply. The contract of gambrelref04's Apply; layer 4's own first test, how its laws choose a field, was it an error. Layer 4's own first test. -/
import Derived.Test.YtdidlfeolbcblaaDoorGxh
import Derived.Test.YtdidlfeolbcblaaDoorGxj
import Derived.Test.YtdidlfeolbcblaaDoorGxi
import Derived.Test.YtdidlfeolbcblaaDoorMte

namespace Go.Proofs.YtdidlfeolbcblaaDoor
open Go.RowKit

abbrev TRI : Nat := 26
theorem underRI : Tryd.prog.underlying TRI = some (.slice TIs) := Tryd.underlying26

/-- what Few tells -/
def FewSaid4 (N : Nat) (Ls : Nat → Nat) (w : World) (e : Ending) (w' : World) : Prop := ∃ t, e = .returned (.bool t) ∧ (t = true → N ≤ 10 ∧ ∀ r, r < N → Ls r ≤ 10) ∧ w = w'

/-- a question is answered; some orders are drawn, and nothing else is changed -/
def SaidQ (p : Prop) (w : World) (e : Ending) (w' : World) : Prop := ∃ t, e = .returned (.bool t) ∧ (t = true ↔ p) ∧ ∃ m, w' = w.drewN m
theorem SaidQ.yes {p : Prop} {w : World} {m : Nat} (h : p) : SaidQ p w (.returned (.bool true)) (w.drewN m) := ⟨true, rfl, by simp [h], m, rfl⟩
theorem SaidQ.no {p : Prop} {w : World} {m : Nat} (h : ¬ p) : SaidQ p w (.returned (.bool false)) (w.drewN m) := ⟨false, rfl, by simp [h], m, rfl⟩

/-- in May's two loops -/
def RMayAt (c n : Nat) (Ls : Nat → Nat) (F : Nat → Nat → Int) (w : World) (s5 : Value) (wr : World) : Prop := ∃ k : Nat, k ≤ n ∧ s5 = .int .i64 k ∧ (∀ r, r < k → Ls r = Ls 0 ∧ allIn c (F r) (Ls r)) ∧ ∃ m, wr = w.drewN m
def RMayIn (c L : Nat) (f : Nat → Int) (w : World) (s6 : Value) (wr : World) : Prop := ∃ j : Nat, j ≤ L ∧ s6 = .int .i64 j ∧ allIn c f j ∧ ∃ m, wr = w.drewN m

set_option maxRecDepth 100000 in
set_option maxHeartbeats 2000000 in
/-- Same, of two matrices that are the same -/
theorem same19 (b b' : Nat) (F G : Nat → Nat → Int) (La Lb : Nat → Nat) (A B : Option Addr) (n ca cb : Nat) (hn : n ≤ 1000) (hl : ∀ r, r < n → La r ≤ 1000) (w : World) (ha : Mx b w F La A n) (hb : Mx b' w G Lb B n)
    (h1 : ∀ r, r < n → La r = Lb r) (h2 : ∀ r, r < n → ∀ j, j < La r → F r j = G r j) :
    Calls Tryd.prog 8 #[.slice A n ca, .slice B n cb] w fun e w' => e = .returned (.bool true) ∧ ∃ m, w' = w.drewN m := by
  obtain ⟨As, Ca, a1, a2⟩ := ha
  obtain ⟨Bs, Cb, b1, b2⟩ := hb
  have A1 := Lib.hid a1
  have A2 := Lib.hid a2
  have B1 := Lib.hid b1
  have B2 := Lib.hid b2
  have HL := Lib.hid hl
  have H1 := Lib.hid h1
  have H2 := Lib.hid h2
  clear a1 a2 b1 b2 hl h1 h2
  go_enter Tryd.func8, Tryd.ntmps8
  go_wp2_with fail
  go_loopw [5] (fun s5 wr => ∃ k : Nat, k ≤ n ∧ s5 = .int .i64 k ∧ ∃ m, wr = w.drewN m) (fun s5 _ => n - (intOf s5).toNat)
  case atStart => exact ⟨0, Nat.zero_le _, rfl, 0, rfl⟩
  case round =>
    obtain ⟨k, hk, rfl, q, rfl⟩ := hrel
    by_cases hlt : k < n
    · obtain ⟨ad, rfl, hc1⟩ := A1.out.at_ hlt
      obtain ⟨ad', rfl, hc2⟩ := B1.out.at_ hlt
      simp only [slis] at hc1 hc2
      have hLk := HL.out k hlt
      rw [← H1.out k hlt] at hc2
      have d1 : (w.drewN q).cell? (ad.add k) = some (.slice (As k) (La k) (Ca k)) := hc1
      have d2 : (w.drewN q).cell? (ad'.add k) = some (.slice (Bs k) (La k) (Cb k)) := hc2
      have hk63 : (k : Int) < (n : Int) := by omega
      go_wp2_with fail
      go_quiet (fail)
      rw [World.drewN_drewN]
      generalize hqq : q + nq = q1
      clear hqq d1 d2
      have d1 : (w.drewN q1).cell? (ad.add k) = some (.slice (As k) (La k) (Ca k)) := hc1
      go_wp2_with fail
      go_loopw [6] (fun s6 wr => ∃ j : Nat, j ≤ La k ∧ s6 = .int .i64 j ∧ ∃ m, wr = w.drewN m) (fun s6 _ => La k - (intOf s6).toNat)
      case atStart => exact ⟨0, Nat.zero_le _, rfl, q1, rfl⟩
      case round =>
        obtain ⟨j, hj, rfl, q2, rfl⟩ := hrel
        clear d1
        have d1 : (w.drewN q2).cell? (ad.add k) = some (.slice (As k) (La k) (Ca k)) := hc1
        have d2 : (w.drewN q2).cell? (ad'.add k) = some (.slice (Bs k) (La k) (Cb k)) := hc2
        by_cases hlt2 : j < La k
        · obtain ⟨x1, hA3, hc3⟩ := (A2.out k hlt).at_ hlt2
          obtain ⟨x2, hB3, hc4⟩ := (B2.out k hlt).at_ (by rw [← H1.out k hlt]; exact hlt2)
          rw [hA3] at d1 hc1
          rw [hB3] at d2 hc2
          simp only [i64s] at hc3 hc4
          rw [← H2.out k hlt j hlt2] at hc4
          have d3 : (w.drewN q2).cell? (x1.add j) = some (.int .i64 (F k j)) := hc3
          have d4 : (w.drewN q2).cell? (x2.add j) = some (.int .i64 (F k j)) := hc4
          clear hA3 hB3
          obtain ⟨x, hx⟩ : ∃ x, F k j = x := ⟨_, rfl⟩
          rw [hx] at d3 d4 hc3 hc4
          clear hx
          have hj63 : (j : Int) < ((La k : Nat) : Int) := by omega
          go_wp2_with fail
          go_quiet (fail)
          rw [World.drewN_drewN]
          go_wp2_with fail
          exact ⟨⟨j + 1, hlt2, by go_num, _, rfl⟩, by simp [intOf]; omega⟩
        · obtain rfl : j = La k := by omega
          go_wp2_with fail
          exact ⟨⟨k + 1, hlt, by go_num, q2, rfl⟩, by simp [intOf]; omega⟩
    · obtain rfl : k = n := by omega
      go_wp2_with fail
      go_ret
      exact ⟨rfl, _, rfl⟩
end Go.Proofs.YtdidlfeolbcblaaDoor

namespace Go.Proofs.YtdidlfeolbcblaaDoor
open Go.RowKit

theorem Rd.other {b g : Nat} {w : World} {k : Nat → Value} {A : Option Addr} {n : Nat} (h : Rd b w k A n) (hg : w.heap.size ≤ g) : Rd g w k A n := fun hn => by
  obtain ⟨ad, e, h1, h2, h3⟩ := h hn
  exact ⟨ad, e, by omega, h2, h3⟩

/-- a matrix that is told, beside a field at b -/
def MTold (b n : Nat) (F : Nat → Nat → Int) (Ls : Nat → Nat) (w : World) (v : Value) (w' : World) : Prop := ∃ A c, v = .slice A n c ∧ n ≤ c ∧ Mx b w' F Ls A n ∧ Below w.heap.size w w'
theorem MatTold.at_ {b n : Nat} {F : Nat → Nat → Int} {Ls : Nat → Nat} {w : World} {v : Value} {w' : World} (h : MatTold n F Ls w v w') (hb : b < w.heap.size) : MTold b n F Ls w v w' := by
  obtain ⟨A, c, h1, h2, h3, h4⟩ := h
  exact ⟨A, c, h1, h2, h3 b hb, h4⟩
theorem MTold.nil {b : Nat} {F : Nat → Nat → Int} {Ls : Nat → Nat} {w w' : World} (h : Below w.heap.size w w') : MTold b 0 F Ls w nilS w' := ⟨none, 0, rfl, Nat.le_refl _, Mx.zero, h⟩
theorem MTold.from {b n : Nat} {F : Nat → Nat → Int} {Ls : Nat → Nat} {w w1 w' : World} {v : Value} (hb : Below w.heap.size w w1) (h : MTold b n F Ls w1 v w') : MTold b n F Ls w v w' := by
  obtain ⟨A, c, h1, h2, h3, h4⟩ := h
  exact ⟨A, c, h1, h2, h3, below_tr hb h4⟩

/-- rows that are appended, one by one -/
def MApp (b : Nat) (w : World) (F : Nat → Nat → Int) (Ls : Nat → Nat) (k : Nat) (v : Value) (wr : World) : Prop :=
  Below w.heap.size w wr ∧ ∃ (As : Nat → Option Addr) (Cs : Nat → Nat), wr.ownsRow w.heap.size TIs 1 v k ((List.range k).map (slis As Ls Cs)) ∧ ∀ r, r < k → ∀ g, (g = b ∨ v.ownBlock = some g) → Rd g wr (i64s (F r)) (As r) (Ls r)

theorem own_below {w w' : World} {base e n : Nat} {v : Value} {xs : List Value} (h : w.ownsRow base e 1 v n xs) (hb : Below w.heap.size w w') : w'.ownsRow base e 1 v n xs :=
  h.kept (row := none) ⟨hb.os, hb.tape, hb.output, hb.size, fun k hk _ => hb.block k hk⟩ (Classical.em _)

theorem MApp.start (b : Nat) (w : World) (F : Nat → Nat → Int) (Ls : Nat → Nat) : MApp b w F Ls 0 nilS w := ⟨Below.refl _ _, fun _ => none, fun _ => 0, World.ownsRow_nil _ _ _ _, fun r hr => absurd hr (by omega)⟩
theorem MApp.below {b : Nat} {w : World} {F : Nat → Nat → Int} {Ls : Nat → Nat} {k : Nat} {v : Value} {wr w' : World} (h : MApp b w F Ls k v wr) (hb : Below wr.heap.size wr w') : MApp b w F Ls k v w' := by
  obtain ⟨h1, As, Cs, h2, h3⟩ := h
  exact ⟨below_tr h1 hb, As, Cs, own_below h2 hb, fun r hr g hg => (h3 r hr g hg).below hb⟩
theorem rd_grown {b g' : Nat} {wr w1 : World} {o : Obj} {own : Option Nat} {k : Nat → Value} {A : Option Addr} {n : Nat} (hr : ∀ g, (g = b ∨ own = some g) → Rd g wr k A n) (hgr : (wr.alloc o).grownBy w1 own) (hg : own = some g' ∨ g' = (wr.alloc o).heap.size) :
    ∀ g, (g = b ∨ some g' = some g) → Rd g w1 k A n := fun g hgg hn => by
  obtain ⟨ad, rfl, h1, h2, h3⟩ := hr b (Or.inl rfl) hn
  have hno : own ≠ some ad.block := fun e => by
    obtain ⟨ad', e', h4, _⟩ := hr ad.block (Or.inr e) hn
    injection e' with e'
    subst e'
    exact h4 rfl
  have hbl : w1.heap[ad.block]? = wr.heap[ad.block]? := (hgr.block ad.block (by simp; omega) (fun e => hno e.symm)).trans (Below.heap_alloc wr o _ h2)
  refine ⟨ad, rfl, ?_, Nat.lt_of_lt_of_le h2 (Nat.le_trans (by simp) hgr.size), fun j hj => (World.cell?_of_block (by rw [block_of_add]; exact hbl)).trans (h3 j hj)⟩
  rcases hgg with rfl | hgg
  · exact h1
  · injection hgg with hgg
    subst hgg
    rcases hg with hg | hg
    · exact fun e => hno (e ▸ hg)
    · simp at hg
      omega
theorem MApp.step {b : Nat} {w : World} {F : Nat → Nat → Int} {Ls : Nat → Nat} {k : Nat} {v : Value} {wr w1 : World} {o : Obj} {As : Nat → Option Addr} {Cs : Nat → Nat} {A' : Option Addr} {n' c' g' cap : Nat} (h1 : Below w.heap.size w wr) (h2 : wr.ownsRow w.heap.size TIs 1 v k ((List.range k).map (slis As Ls Cs)))
    (h3 : ∀ r, r < k → ∀ g, (g = b ∨ v.ownBlock = some g) → Rd g wr (i64s (F r)) (As r) (Ls r)) (hn : Ls k = n') (hr : ∀ g, (g = b ∨ v.ownBlock = some g) → Rd g wr (i64s (F k)) A' n')
    (hown : w1.ownsRow w.heap.size TIs 1 (.slice (some ⟨g', 0, none⟩) (k + 1) cap) (k + 1) ((List.range k).map (slis As Ls Cs) ++ [.slice A' n' c'])) (hgr : (wr.alloc o).grownBy w1 v.ownBlock) (hg : v.ownBlock = some g' ∨ g' = wr.heap.size + 1) :
    MApp b w F Ls (k + 1) (.slice (some ⟨g', 0, none⟩) (k + 1) cap) w1 := by
  subst hn
  have hg : v.ownBlock = some g' ∨ g' = (wr.alloc o).heap.size := by rw [World.size_alloc]; exact hg
  refine ⟨(h1.alloc h1.size o).grown hgr (by simp; have := h1.size; omega) (fun q hq => (h2.lt q hq).1), fun r => if r = k then A' else As r, fun r => if r = k then c' else Cs r, ?_, fun r hr' g hgg => ?_⟩
  · rw [range_snoc]
    have e1 : (List.range k).map (slis (fun r => if r = k then A' else As r) Ls (fun r => if r = k then c' else Cs r)) = (List.range k).map (slis As Ls Cs) := range_congr (fun j hj => by
      simp only [slis]
      rw [if_neg (by omega), if_neg (by omega)])
    rw [e1]
    simp only [slis, if_pos]
    exact hown
  · by_cases e : r = k
    · subst e
      dsimp only
      rw [if_pos rfl]
      exact rd_grown hr hgr hg g hgg
    · dsimp only
      rw [if_neg e]
      exact rd_grown (h3 r (by omega)) hgr hg g hgg
theorem MApp.told {b : Nat} {w : World} {F : Nat → Nat → Int} {Ls : Nat → Nat} {k : Nat} {v : Value} {wr : World} (h : MApp b w F Ls k v wr) (hb : b < w.heap.size) : MTold b k F Ls w v wr := by
  obtain ⟨h1, As, Cs, h2, h3⟩ := h
  obtain ⟨A, c, e, hc, hrd⟩ := Rd.of_own h2 hb
  exact ⟨A, c, e, hc, ⟨As, Cs, hrd, fun r hr => h3 r hr b (Or.inl rfl)⟩, h1⟩
theorem one_slice (A : Option Addr) (n c : Nat) : ∀ u ∈ [Value.slice A n c], u.oneCell' = true := by intro u hu; simp at hu; subst hu; rfl

/-- in Pick's loop -/
def RPickAt (b n : Nat) (Ls : Nat → Nat) (F : Nat → Nat → Int) (m : Nat) (l : Nat → Int) (w : World) (s8 s9 : Value) (wr : World) : Prop :=
  ∃ k : Nat, k ≤ m ∧ s9 = .int .i64 k ∧ (∀ r, r < k → 0 ≤ l r ∧ l r < n) ∧ MApp b w (fun r => F (l r).toNat) (fun r => Ls (l r).toNat) k s8 wr
/-- what Pick of the document tells -/
def RPickAny (b c n : Nat) (Ls : Nat → Nat) (F : Nat → Nat → Int) (m : Nat) (l : Nat → Int) (w : World) (e : Ending) (w' : World) : Prop :=
  ∃ t v, e = .returned (.tuple #[v, .bool t]) ∧ (t = true ↔ pickP c n Ls F m l) ∧ MTold b (cond t m 0) (fun r => F (l r).toNat) (fun r => Ls (l r).toNat) w v w'
theorem RPickAny.no {b c n : Nat} {Ls : Nat → Nat} {F : Nat → Nat → Int} {m : Nat} {l : Nat → Int} {w w' : World} (h : ¬ pickP c n Ls F m l) (hb : Below w.heap.size w w') : RPickAny b c n Ls F m l w (.returned (.tuple #[nilS, .bool false])) w' :=
  ⟨false, _, rfl, by simp [h], MTold.nil hb⟩
end Go.Proofs.YtdidlfeolbcblaaDoor

namespace Go.Proofs.YtdidlfeolbcblaaDoor
open Go.RowKit

/-- what Join of the document tells -/
def RJoinAny (b c n : Nat) (La : Nat → Nat) (F : Nat → Nat → Int) (k : Nat) (Lb : Nat → Nat) (G : Nat → Nat → Int) (w : World) (e : Ending) (w' : World) : Prop :=
  ∃ t v, e = .returned (.tuple #[v, .bool t]) ∧ (t = true ↔ joinP c n La F k Lb G) ∧ MTold b (cond t (n + k) 0) (joinF n F G) (joinL n La Lb) w v w'
theorem RJoinAny.no {b c n : Nat} {La : Nat → Nat} {F : Nat → Nat → Int} {k : Nat} {Lb : Nat → Nat} {G : Nat → Nat → Int} {w w' : World} (h : ¬ joinP c n La F k Lb G) (hb : Below w.heap.size w w') : RJoinAny b c n La F k Lb G w (.returned (.tuple #[nilS, .bool false])) w' :=
  ⟨false, _, rfl, by simp [h], MTold.nil hb⟩

/-- in Identity's inner loop -/
def RIdIn (n i : Nat) (wi : World) (s5 s6 : Value) (wr : World) : Prop := ∃ j : Nat, j ≤ n ∧ s6 = .int .i64 j ∧ App wi TI (i64s (idF i)) j s5 wr
end Go.Proofs.YtdidlfeolbcblaaDoor

namespace Go.Proofs.YtdidlfeolbcblaaDoor
open Go.RowKit

/-- what Mul of the document tells -/
def RMMulAny (p b n k : Nat) (La Lb : Nat → Nat) (F G : Nat → Nat → Int) (w : World) (e : Ending) (w' : World) : Prop :=
  ∃ t v, e = .returned (.tuple #[v, .bool t]) ∧ (t = true ↔ mayP (M.ord p) n La F ∧ mayP (M.ord p) k Lb G ∧ La 0 = k) ∧ MTold b (cond t n 0) (mulF p F G k) (fun _ => Lb 0) w v w'
theorem RMMulAny.no {p b n k : Nat} {La Lb : Nat → Nat} {F G : Nat → Nat → Int} {w w' : World} (h : ¬ (mayP (M.ord p) n La F ∧ mayP (M.ord p) k Lb G ∧ La 0 = k)) (hb : Below w.heap.size w w') : RMMulAny p b n k La Lb F G w (.returned (.tuple #[nilS, .bool false])) w' :=
  ⟨false, _, rfl, by simp [h], MTold.nil hb⟩
/-- in its loops over the columns, and over the products -/
def RMulCol (p k m i : Nat) (F G : Nat → Nat → Int) (wi : World) (s12 s13 : Value) (wr : World) : Prop := ∃ j : Nat, j ≤ m ∧ s13 = .int .i64 j ∧ App wi TI (i64s (mulF p F G k i)) j s12 wr
def RMulSum (p k i j : Nat) (F G : Nat → Nat → Int) (wj : World) (s14 s15 : Value) (wr : World) : Prop := ∃ x : Nat, x ≤ k ∧ s15 = .int .i64 x ∧ s14 = .int .i64 (dotN p (F i) (fun r => G r j) x) ∧ Below wj.heap.size wj wr
end Go.Proofs.YtdidlfeolbcblaaDoor

namespace Go.Proofs.YtdidlfeolbcblaaDoor
open Go.RowKit

/-- what Apply of the document tells -/
def RAppAny (p b n : Nat) (La : Nat → Nat) (F : Nat → Nat → Int) (m : Nat) (l : Nat → Int) (w : World) (e : Ending) (w' : World) : Prop :=
  ∃ t v, e = .returned (.tuple #[v, .bool t]) ∧ (t = true ↔ mayP (M.ord p) n La F ∧ La 0 = m ∧ allIn (M.ord p) l m) ∧ IntsTold b (cond t n 0) (fun r => (dotN p (F r) l m : Nat)) w v w'

theorem col_may {p n m : Nat} {La : Nat → Nat} {F : Nat → Nat → Int} {l : Nat → Int} : (mayP (M.ord p) n La F ∧ mayP (M.ord p) m (fun _ => 1) (fun r _ => l r) ∧ La 0 = m) ↔ (mayP (M.ord p) n La F ∧ La 0 = m ∧ allIn (M.ord p) l m) := by
  constructor
  · rintro ⟨h1, h2, h3⟩
    exact ⟨h1, h3, fun j hj => (h2.2.2 j hj).2 0 Nat.zero_lt_one⟩
  · rintro ⟨h1, h2, h3⟩
    refine ⟨h1, ⟨by rw [← h2]; exact h1.2.1, ⟨Nat.le_refl _, (by decide : 1 ≤ 20)⟩, fun r hr => ⟨rfl, fun j _ => h3 r hr⟩⟩, h2⟩
end Go.Proofs.YtdidlfeolbcblaaDoor

namespace Go.Proofs.YtdidlfeolbcblaaDoor
open Go.RowKit

/-- the row 2, 3; and 1 everywhere -/
def twoThree (_ j : Nat) : Int := if j = 0 then 2 else 3
def allOne (_ _ : Nat) : Int := 1

theorem row_at {w : World} (c : Array Value) (t : TypeId) (f : Nat → Value) (s : Nat) (hs : w.heap.size = s) (h : ∀ i, i < c.size → c[i]? = some (f i)) : (w.alloc (.cells c t)).rowIs s t c.size f := by
  subst hs
  exact World.rowIs_alloc w c t f h

theorem awake_mats (b : Nat) (w1 W5 : World) (hb : b < w1.heap.size)
    (h5 : ((((w1.alloc (.cells #[.int .i64 2, .int .i64 3] TI)).alloc (.cells #[.slice (some ⟨w1.heap.size, 0, none⟩) 2 2] TIs)).alloc (.cells #[.int .i64 1] TI)).alloc (.cells #[.int .i64 1] TI)).alloc (.cells #[.slice (some ⟨w1.heap.size + 1 + 1, 0, none⟩) 1 1, .slice (some ⟨w1.heap.size + 1 + 1 + 1, 0, none⟩) 1 1] TIs) = W5) :
    Mx b W5 twoThree (fun _ => 2) (some ⟨w1.heap.size + 1, 0, none⟩) 1 ∧ Mx b W5 allOne (fun _ => 1) (some ⟨w1.heap.size + 1 + 1 + 1 + 1, 0, none⟩) 2 ∧ Below w1.heap.size w1 W5 := by
  have r1 := row_at (w := w1) #[.int .i64 2, .int .i64 3] TI (i64s (twoThree 0)) _ rfl (fun i hi => by
    simp at hi
    match i, hi with
    | 0, _ => rfl
    | 1, _ => rfl)
  have r2 := row_at (w := w1.alloc (.cells #[.int .i64 2, .int .i64 3] TI)) #[.slice (some ⟨w1.heap.size, 0, none⟩) 2 2] TIs (fun _ => .slice (some ⟨w1.heap.size, 0, none⟩) 2 2) (w1.heap.size + 1) (by simp) (fun i hi => by
    simp at hi
    subst hi
    rfl)
  have r3 := row_at (w := (w1.alloc (.cells #[.int .i64 2, .int .i64 3] TI)).alloc (.cells #[.slice (some ⟨w1.heap.size, 0, none⟩) 2 2] TIs)) #[.int .i64 1] TI (i64s (allOne 0)) (w1.heap.size + 1 + 1) (by simp) (fun i hi => by
    simp at hi
    subst hi
    rfl)
  have r4 := row_at (w := ((w1.alloc (.cells #[.int .i64 2, .int .i64 3] TI)).alloc (.cells #[.slice (some ⟨w1.heap.size, 0, none⟩) 2 2] TIs)).alloc (.cells #[.int .i64 1] TI)) #[.int .i64 1] TI (i64s (allOne 1)) (w1.heap.size + 1 + 1 + 1) (by simp) (fun i hi => by
    simp at hi
    subst hi
    rfl)
  have r5 := row_at (w := (((w1.alloc (.cells #[.int .i64 2, .int .i64 3] TI)).alloc (.cells #[.slice (some ⟨w1.heap.size, 0, none⟩) 2 2] TIs)).alloc (.cells #[.int .i64 1] TI)).alloc (.cells #[.int .i64 1] TI)) #[.slice (some ⟨w1.heap.size + 1 + 1, 0, none⟩) 1 1, .slice (some ⟨w1.heap.size + 1 + 1 + 1, 0, none⟩) 1 1] TIs (slis (fun r => if r = 0 then some ⟨w1.heap.size + 1 + 1, 0, none⟩ else some ⟨w1.heap.size + 1 + 1 + 1, 0, none⟩) (fun _ => 1) (fun _ => 1)) (w1.heap.size + 1 + 1 + 1 + 1) (by simp) (fun i hi => by
    simp at hi
    match i, hi with
    | 0, _ => rfl
    | 1, _ => rfl)
  subst h5
  refine ⟨⟨fun _ => some ⟨w1.heap.size, 0, none⟩, fun _ => 2, Rd.of_row ((((r2.alloc _).alloc _).alloc _)) (by omega) (by simp), fun r _ => ?_⟩, ⟨_, _, Rd.of_row r5 (by omega) (by simp), fun r hr => ?_⟩, ?_⟩
  · exact (Rd.of_row (((((r1.alloc _).alloc _).alloc _).alloc _)) (by omega) (by simp)).congr (fun j _ => rfl)
  · match r, hr with
    | 0, _ => exact Rd.of_row ((r3.alloc _).alloc _) (by omega) (by simp)
    | 1, _ => exact Rd.of_row (r4.alloc _) (by omega) (by simp)
  · exact (((((Below.refl _ w1).alloc (Nat.le_refl _) _).alloc (by simp) _).alloc (by simp; omega) _).alloc (by simp; omega) _).alloc (by simp; omega) _

theorem mul285' (x : Int) (x0 : 0 ≤ x) (x1 : x ≤ 255) : fmul 285 x 1 = x := by
  rw [fmul_in x0 (by rw [ord285]; omega) (by omega) (by rw [ord285]; omega), show (1 : Int).toNat = 1 from rfl, M.mul_one, M.md_self good285.prim.1 (by rw [ord285]; omega)]
  omega
theorem awake_one : mulF 285 twoThree allOne 2 0 0 = 1 := by
  simp only [mulF, dotN, allOne, twoThree]
  rw [if_pos trivial, if_neg (by omega), mul285' 2 (by omega) (by omega), mul285' 3 (by omega) (by omega)]
  rfl
end Go.Proofs.YtdidlfeolbcblaaDoor
