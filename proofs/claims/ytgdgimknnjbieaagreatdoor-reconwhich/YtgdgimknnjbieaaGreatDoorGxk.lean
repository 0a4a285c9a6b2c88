/- Contracts of gambrelref04: Few, May and Same. Contracts of gambrelref04: the identity, rows picked and joined. Contracts of gambrelref04: Join, the identity, Mul and Apply. Contracts of gambrelref04: Mul and Apply. The contract of gambrelref04's Apply; layer 4's own first test, how its laws choose a field, was it an error. Layer 4's own first test. -/
import Derived.Test.YtgdgimknnjbieaaGreatDoorGxh
import Derived.Test.YtgdgimknnjbieaaGreatDoorGxj
import Derived.Test.YtgdgimknnjbieaaGreatDoorGxi
import Derived.Test.YtgdgimknnjbieaaGreatDoorMte

namespace Go.Proofs.YtgdgimknnjbieaaGreatDoor
open Go.RowKit

abbrev TRI : Nat := 56
theorem underRI : Tryz.prog.underlying TRI = some (.slice TIs) := Tryz.underlying56

/-- a question is answered; some orders are drawn, and nothing else is changed -/
def SaidQ (p : Prop) (w : World) (e : Ending) (w' : World) : Prop := ∃ t, e = .returned (.bool t) ∧ (t = true ↔ p) ∧ ∃ m, w' = w.drewN m
theorem SaidQ.yes {p : Prop} {w : World} {m : Nat} (h : p) : SaidQ p w (.returned (.bool true)) (w.drewN m) := ⟨true, rfl, by simp [h], m, rfl⟩
theorem SaidQ.no {p : Prop} {w : World} {m : Nat} (h : ¬ p) : SaidQ p w (.returned (.bool false)) (w.drewN m) := ⟨false, rfl, by simp [h], m, rfl⟩

/-- in May's two loops -/
def RMayAt (c n : Nat) (Ls : Nat → Nat) (F : Nat → Nat → Int) (w : World) (s5 : Value) (wr : World) : Prop := ∃ k : Nat, k ≤ n ∧ s5 = .int .i64 k ∧ (∀ r, r < k → Ls r = Ls 0 ∧ allIn c (F r) (Ls r)) ∧ ∃ m, wr = w.drewN m
def RMayIn (c L : Nat) (f : Nat → Int) (w : World) (s6 : Value) (wr : World) : Prop := ∃ j : Nat, j ≤ L ∧ s6 = .int .i64 j ∧ allIn c f j ∧ ∃ m, wr = w.drewN m

set_option maxRecDepth 100000 in
set_option maxHeartbeats 2000000 in
theorem rmay17 (b wd c : Nat) (hk : Kind wd c) (F : Nat → Nat → Int) (Ls : Nat → Nat) (A : Option Addr) (n cap : Nat) (w : World) (hr : Mx b w F Ls A n) :
    Calls Tryz.prog 71 #[.int .i64 wd, .slice A n cap] w (SaidQ (mayP c n Ls F) w) := by
  obtain ⟨As, Cs, hr1, hr2⟩ := hr
  have HR := Lib.hid hr1
  have HRS := Lib.hid hr2
  clear hr1 hr2
  by_cases h1 : 1 ≤ n
  · by_cases h2 : n ≤ 20
    · obtain ⟨ad, rfl, hc0⟩ := HR.out.at_ (show 0 < n by omega)
      rw [show ad.add 0 = ad by simp [Addr.add]] at hc0
      simp only [slis] at hc0
      have hd1 : decide ((n : Int) < 1) = false := by simp; omega
      have hd2 : decide ((20 : Int) < (n : Int)) = false := by simp; omega
      have hn0 : (0 : Int) < (n : Int) := by omega
      by_cases h3 : 1 ≤ Ls 0
      · have hd3 : decide (((Ls 0 : Nat) : Int) < 1) = false := by simp; omega
        by_cases h4 : Ls 0 ≤ 20
        · have hd4 : decide ((20 : Int) < ((Ls 0 : Nat) : Int)) = false := by simp; omega
          have H34 := Lib.hid (show side n ∧ side (Ls 0) from ⟨⟨h1, h2⟩, h3, h4⟩)
          go_enter Tryz.func71, Tryz.ntmps71
          go_wp2_with fail
          go_loopw [5] (fun s5 wr => RMayAt c n Ls F w s5 wr) (fun s5 _ => n - (intOf s5).toNat)
          case atStart => exact ⟨0, Nat.zero_le _, rfl, fun r hr => absurd hr (by omega), 0, rfl⟩
          case round =>
            obtain ⟨k, hk', rfl, hall, q, rfl⟩ := hrel
            have HALL := Lib.hid hall
            clear hall
            by_cases hlt : k < n
            · obtain ⟨ad2, e2, hc2⟩ := HR.out.at_ hlt
              injection e2 with e2
              subst e2
              simp only [slis] at hc2
              have d0 : (w.drewN q).cell? ad = some (.slice (As 0) (Ls 0) (Cs 0)) := hc0
              have d2 : (w.drewN q).cell? (ad.add k) = some (.slice (As k) (Ls k) (Cs k)) := hc2
              have hk63 : (k : Int) < (n : Int) := by omega
              by_cases he : Ls k = Ls 0
              · have hne : (((Ls k : Nat) : Int) != ((Ls 0 : Nat) : Int)) = false := by simp [he]
                have HE0 := Lib.hid he
                have hlk : Ls k ≤ 20 := by omega
                clear he
                go_wp2_with fail
                go_quiet (fail)
                rw [World.drewN_drewN]
                generalize hqq : q + nq = q1
                clear hqq d0 d2
                have d2 : (w.drewN q1).cell? (ad.add k) = some (.slice (As k) (Ls k) (Cs k)) := hc2
                go_wp2_with fail
                go_loopw [6] (fun s6 wr => RMayIn c (Ls k) (F k) w s6 wr) (fun s6 _ => Ls k - (intOf s6).toNat)
                case atStart => exact ⟨0, Nat.zero_le _, rfl, fun j hj => absurd hj (by omega), q1, rfl⟩
                case round =>
                  obtain ⟨j, hj, rfl, hin, q2, rfl⟩ := hrel
                  have HIN := Lib.hid hin
                  have d3 : (w.drewN q2).cell? (ad.add k) = some (.slice (As k) (Ls k) (Cs k)) := hc2
                  clear d2 hin
                  by_cases hlt2 : j < Ls k
                  · obtain ⟨ad3, hA3, hc3⟩ := (HRS.out k hlt).at_ hlt2
                    rw [hA3] at d3
                    simp only [i64s] at hc3
                    have d4 : (w.drewN q2).cell? (ad3.add j) = some (.int .i64 (F k j)) := hc3
                    clear hc3 hA3
                    obtain ⟨x, hx⟩ : ∃ x, F k j = x := ⟨_, rfl⟩
                    rw [hx] at d4
                    have HX := Lib.hid hx
                    clear hx
                    cases hib : inB c x
                    · have HB := Lib.hid hib
                      have HE := Lib.hid (fun m => SaidQ.no (w := w) (m := m) (show ¬ mayP c n Ls F from fun h => by have := (h.2.2 k hlt).2 j hlt2; rw [HX.out] at this; exact absurd this (inB_false.1 hib)))
                      clear hib
                      go_wp2_with fail
                      refine (rin32 wd c hk x _).mono ?_
                      rintro e w' ⟨rfl, rfl⟩
                      rw [HB.out]
                      go_wp2_with fail
                      go_ret
                      exact HE.out _
                    · have HB := Lib.hid hib
                      have HNX := Lib.hid (show allIn c (F k) (j + 1) from fun i hi => (Nat.lt_succ_iff_lt_or_eq.1 hi).elim (fun h => HIN.out i h) (fun h => by rw [h, HX.out]; exact inB_iff.1 hib))
                      clear hib
                      go_wp2_with fail
                      refine (rin32 wd c hk x _).mono ?_
                      rintro e w' ⟨rfl, rfl⟩
                      rw [HB.out]
                      go_wp2_with fail
                      exact ⟨⟨j + 1, hlt2, by go_num, HNX.out, q2, rfl⟩, by simp [intOf]; omega⟩
                  · obtain rfl : j = Ls k := by omega
                    have HNX := Lib.hid (show ∀ r, r < k + 1 → Ls r = Ls 0 ∧ allIn c (F r) (Ls r) from fun r hr => (Nat.lt_succ_iff_lt_or_eq.1 hr).elim (fun h => HALL.out r h) (fun h => by rw [h]; exact ⟨HE0.out, HIN.out⟩))
                    go_wp2_with fail
                    exact ⟨⟨k + 1, hlt, by go_num, HNX.out, q2, rfl⟩, by simp [intOf]; omega⟩
              · have hne : (((Ls k : Nat) : Int) != ((Ls 0 : Nat) : Int)) = true := by simp; omega
                have HE := Lib.hid (fun m => SaidQ.no (w := w) (m := m) (show ¬ mayP c n Ls F from fun h => he (h.2.2 k hlt).1))
                clear he
                go_wp2_with fail
                go_quiet (fail)
                rw [World.drewN_drewN]
                go_wp2_with fail
                go_ret
                exact HE.out _
            · obtain rfl : k = n := by omega
              have HE := Lib.hid (fun m => SaidQ.yes (w := w) (m := m) (show mayP c k Ls F from ⟨H34.out.1, H34.out.2, HALL.out⟩))
              go_wp2_with fail
              go_ret
              exact HE.out _
        · have hd4 : decide ((20 : Int) < ((Ls 0 : Nat) : Int)) = true := by simp; omega
          have HE := Lib.hid (SaidQ.no (w := w) (m := 0) (show ¬ mayP c n Ls F from fun h => h4 h.2.1.2))
          go_enter Tryz.func71, Tryz.ntmps71
          go_wp2_with fail
          go_ret
          exact HE.out
      · have hd3 : decide (((Ls 0 : Nat) : Int) < 1) = true := by simp; omega
        have HE := Lib.hid (SaidQ.no (w := w) (m := 0) (show ¬ mayP c n Ls F from fun h => h3 h.2.1.1))
        go_enter Tryz.func71, Tryz.ntmps71
        go_wp2_with fail
        go_ret
        exact HE.out
    · have hd1 : decide ((n : Int) < 1) = false := by simp; omega
      have hd2 : decide ((20 : Int) < (n : Int)) = true := by simp; omega
      have HE := Lib.hid (SaidQ.no (w := w) (m := 0) (show ¬ mayP c n Ls F from fun h => h2 h.1.2))
      go_enter Tryz.func71, Tryz.ntmps71
      go_wp2_with fail
      go_ret
      exact HE.out
  · have hd1 : decide ((n : Int) < 1) = true := by simp; omega
    have HE := Lib.hid (SaidQ.no (w := w) (m := 0) (show ¬ mayP c n Ls F from fun h => h1 h.1.1))
    go_enter Tryz.func71, Tryz.ntmps71
    go_wp2_with fail
    go_ret
    exact HE.out
end Go.Proofs.YtgdgimknnjbieaaGreatDoor

namespace Go.Proofs.YtgdgimknnjbieaaGreatDoor
open Go.RowKit

theorem Rd.other {b g : Nat} {w : World} {k : Nat → Value} {A : Option Addr} {n : Nat} (h : Rd b w k A n) (hg : w.heap.size ≤ g) : Rd g w k A n := fun hn => by
  obtain ⟨ad, e, h1, h2, h3⟩ := h hn
  exact ⟨ad, e, by omega, h2, h3⟩

/-- a matrix that is told, beside a field at b -/
def MTold (b n : Nat) (F : Nat → Nat → Int) (Ls : Nat → Nat) (w : World) (v : Value) (w' : World) : Prop := ∃ A c, v = .slice A n c ∧ n ≤ c ∧ Mx b w' F Ls A n ∧ Below w.heap.size w w'
theorem MatTold.at_ {b n : Nat} {F : Nat → Nat → Int} {Ls : Nat → Nat} {w : World} {v : Value} {w' : World} (h : MatTold n F Ls w v w') (hb : b < w.heap.size) : MTold b n F Ls w v w' := by
  obtain ⟨A, c, h1, h2, h3, h4⟩ := h
  exact ⟨A, c, h1, h2, h3 b hb, h4⟩
theorem MTold.nil {b : Nat} {F : Nat → Nat → Int} {Ls : Nat → Nat} {w w' : World} (h : Below w.heap.size w w') : MTold b 0 F Ls w nilS w' := ⟨none, 0, rfl, Nat.le_refl _, Mx.zero, h⟩
theorem MTold.from {b n : Nat} {F : Nat → Nat → Int} {Ls : Nat → Nat} {w w1 w' : World} {v : Value} (hb : Below w.heap.size w w1) (h : MTold b n F Ls w1 v w') : MTold b n F Ls w v w' := by
  obtain ⟨A, c, h1, h2, h3, h4⟩ := h
  exact ⟨A, c, h1, h2, h3, below_tr hb h4⟩

/-- rows that are appended, one by one -/
def MApp (b : Nat) (w : World) (F : Nat → Nat → Int) (Ls : Nat → Nat) (k : Nat) (v : Value) (wr : World) : Prop :=
  Below w.heap.size w wr ∧ ∃ (As : Nat → Option Addr) (Cs : Nat → Nat), wr.ownsRow w.heap.size TIs 1 v k ((List.range k).map (slis As Ls Cs)) ∧ ∀ r, r < k → ∀ g, (g = b ∨ v.ownBlock = some g) → Rd g wr (i64s (F r)) (As r) (Ls r)

theorem own_below {w w' : World} {base e n : Nat} {v : Value} {xs : List Value} (h : w.ownsRow base e 1 v n xs) (hb : Below w.heap.size w w') : w'.ownsRow base e 1 v n xs :=
  h.kept (row := none) ⟨hb.os, hb.tape, hb.output, hb.size, fun k hk _ => hb.block k hk⟩ (Classical.em _)

theorem MApp.start (b : Nat) (w : World) (F : Nat → Nat → Int) (Ls : Nat → Nat) : MApp b w F Ls 0 nilS w := ⟨Below.refl _ _, fun _ => none, fun _ => 0, World.ownsRow_nil _ _ _ _, fun r hr => absurd hr (by omega)⟩
theorem MApp.below {b : Nat} {w : World} {F : Nat → Nat → Int} {Ls : Nat → Nat} {k : Nat} {v : Value} {wr w' : World} (h : MApp b w F Ls k v wr) (hb : Below wr.heap.size wr w') : MApp b w F Ls k v w' := by
  obtain ⟨h1, As, Cs, h2, h3⟩ := h
  exact ⟨below_tr h1 hb, As, Cs, own_below h2 hb, fun r hr g hg => (h3 r hr g hg).below hb⟩
theorem rd_grown {b g' : Nat} {wr w1 : World} {o : Obj} {own : Option Nat} {k : Nat → Value} {A : Option Addr} {n : Nat} (hr : ∀ g, (g = b ∨ own = some g) → Rd g wr k A n) (hgr : (wr.alloc o).grownBy w1 own) (hg : own = some g' ∨ g' = (wr.alloc o).heap.size) :
    ∀ g, (g = b ∨ some g' = some g) → Rd g w1 k A n := fun g hgg hn => by
  obtain ⟨ad, rfl, h1, h2, h3⟩ := hr b (Or.inl rfl) hn
  have hno : own ≠ some ad.block := fun e => by
    obtain ⟨ad', e', h4, _⟩ := hr ad.block (Or.inr e) hn
    injection e' with e'
    subst e'
    exact h4 rfl
  have hbl : w1.heap[ad.block]? = wr.heap[ad.block]? := (hgr.block ad.block (by simp; omega) (fun e => hno e.symm)).trans (Below.heap_alloc wr o _ h2)
  refine ⟨ad, rfl, ?_, Nat.lt_of_lt_of_le h2 (Nat.le_trans (by simp) hgr.size), fun j hj => (World.cell?_of_block (by rw [block_of_add]; exact hbl)).trans (h3 j hj)⟩
  rcases hgg with rfl | hgg
  · exact h1
  · injection hgg with hgg
    subst hgg
    rcases hg with hg | hg
    · exact fun e => hno (e ▸ hg)
    · simp at hg
      omega
theorem MApp.step {b : Nat} {w : World} {F : Nat → Nat → Int} {Ls : Nat → Nat} {k : Nat} {v : Value} {wr w1 : World} {o : Obj} {As : Nat → Option Addr} {Cs : Nat → Nat} {A' : Option Addr} {n' c' g' cap : Nat} (h1 : Below w.heap.size w wr) (h2 : wr.ownsRow w.heap.size TIs 1 v k ((List.range k).map (slis As Ls Cs)))
    (h3 : ∀ r, r < k → ∀ g, (g = b ∨ v.ownBlock = some g) → Rd g wr (i64s (F r)) (As r) (Ls r)) (hn : Ls k = n') (hr : ∀ g, (g = b ∨ v.ownBlock = some g) → Rd g wr (i64s (F k)) A' n')
    (hown : w1.ownsRow w.heap.size TIs 1 (.slice (some ⟨g', 0, none⟩) (k + 1) cap) (k + 1) ((List.range k).map (slis As Ls Cs) ++ [.slice A' n' c'])) (hgr : (wr.alloc o).grownBy w1 v.ownBlock) (hg : v.ownBlock = some g' ∨ g' = wr.heap.size + 1) :
    MApp b w F Ls (k + 1) (.slice (some ⟨g', 0, none⟩) (k + 1) cap) w1 := by
  subst hn
  have hg : v.ownBlock = some g' ∨ g' = (wr.alloc o).heap.size := by rw [World.size_alloc]; exact hg
  refine ⟨(h1.alloc h1.size o).grown hgr (by simp; have := h1.size; omega) (fun q hq => (h2.lt q hq).1), fun r => if r = k then A' else As r, fun r => if r = k then c' else Cs r, ?_, fun r hr' g hgg => ?_⟩
  · rw [range_snoc]
    have e1 : (List.range k).map (slis (fun r => if r = k then A' else As r) Ls (fun r => if r = k then c' else Cs r)) = (List.range k).map (slis As Ls Cs) := range_congr (fun j hj => by
      simp only [slis]
      rw [if_neg (by omega), if_neg (by omega)])
    rw [e1]
    simp only [slis, if_pos]
    exact hown
  · by_cases e : r = k
    · subst e
      dsimp only
      rw [if_pos rfl]
      exact rd_grown hr hgr hg g hgg
    · dsimp only
      rw [if_neg e]
      exact rd_grown (h3 r (by omega)) hgr hg g hgg
theorem MApp.told {b : Nat} {w : World} {F : Nat → Nat → Int} {Ls : Nat → Nat} {k : Nat} {v : Value} {wr : World} (h : MApp b w F Ls k v wr) (hb : b < w.heap.size) : MTold b k F Ls w v wr := by
  obtain ⟨h1, As, Cs, h2, h3⟩ := h
  obtain ⟨A, c, e, hc, hrd⟩ := Rd.of_own h2 hb
  exact ⟨A, c, e, hc, ⟨As, Cs, hrd, fun r hr => h3 r hr b (Or.inl rfl)⟩, h1⟩
theorem one_slice (A : Option Addr) (n c : Nat) : ∀ u ∈ [Value.slice A n c], u.oneCell' = true := by intro u hu; simp at hu; subst hu; rfl

/-- in Pick's loop -/
def RPickAt (b n : Nat) (Ls : Nat → Nat) (F : Nat → Nat → Int) (m : Nat) (l : Nat → Int) (w : World) (s8 s9 : Value) (wr : World) : Prop :=
  ∃ k : Nat, k ≤ m ∧ s9 = .int .i64 k ∧ (∀ r, r < k → 0 ≤ l r ∧ l r < n) ∧ MApp b w (fun r => F (l r).toNat) (fun r => Ls (l r).toNat) k s8 wr
/-- what Pick of the document tells -/
def RPickAny (b c n : Nat) (Ls : Nat → Nat) (F : Nat → Nat → Int) (m : Nat) (l : Nat → Int) (w : World) (e : Ending) (w' : World) : Prop :=
  ∃ t v, e = .returned (.tuple #[v, .bool t]) ∧ (t = true ↔ pickP c n Ls F m l) ∧ MTold b (cond t m 0) (fun r => F (l r).toNat) (fun r => Ls (l r).toNat) w v w'
theorem RPickAny.no {b c n : Nat} {Ls : Nat → Nat} {F : Nat → Nat → Int} {m : Nat} {l : Nat → Int} {w w' : World} (h : ¬ pickP c n Ls F m l) (hb : Below w.heap.size w w') : RPickAny b c n Ls F m l w (.returned (.tuple #[nilS, .bool false])) w' :=
  ⟨false, _, rfl, by simp [h], MTold.nil hb⟩

set_option maxRecDepth 100000 in
set_option maxHeartbeats 2000000 in
theorem rpick13 (b wd c : Nat) (hk : Kind wd c) (F : Nat → Nat → Int) (Ls : Nat → Nat) (A B : Option Addr) (n m ca cb : Nat) (l : Nat → Int) (w : World) (hbw : b < w.heap.size) (hr : Mx b w F Ls A n) (hl : Rd b w (i64s l) B m) :
    Calls Tryz.prog 36 #[.int .i64 wd, .slice A n ca, .slice B m cb] w (RPickAny b c n Ls F m l w) := by
  obtain ⟨i0, hi, hz0, hz1, hz2⟩ := info_parts infoRow
  have HM := Lib.hid hr
  obtain ⟨As, Cs, hr1, hr2⟩ := hr
  have HR := Lib.hid hr1
  have HRS := Lib.hid hr2
  have HL := Lib.hid hl
  clear hr1 hr2 hl
  by_cases hm : side m
  · have hm1 := hm.1
    have hm2 := hm.2
    have hd1 : decide ((m : Int) < 1) = false := by simp; omega
    have hd2 : decide ((20 : Int) < (m : Int)) = false := by simp; omega
    have HSIDE := Lib.hid hm
    clear hm
    go_enter Tryz.func36, Tryz.ntmps36
    go_wp2_with fail
    refine (rmay17 b wd c hk F Ls A n ca _ HM.out).mono ?_
    rintro e w1 ⟨t, rfl, ht, q, rfl⟩
    have HB1 := Lib.hid (below_drewN' w q)
    generalize w.drewN q = w1 at *
    cases t
    · have HE := Lib.hid (RPickAny.no (b := b) (c := c) (n := n) (Ls := Ls) (F := F) (m := m) (l := l) (w := w) (w' := w1) (fun h => by have := ht.2 h.1; cases this) HB1.out)
      clear ht
      go_wp2_with fail
      go_ret2
      exact HE.out
    have HMAY := Lib.hid (ht.1 rfl)
    clear ht
    have hn20 : n ≤ 20 := HMAY.out.1.2
    have hbw1 : b < w1.heap.size := Nat.lt_of_lt_of_le hbw HB1.out.size
    go_wp2_with fail
    go_loopw [8, 9] (fun s8 s9 wr => RPickAt b n Ls F m l w1 s8 s9 wr) (fun _ s9 _ => m - (intOf s9).toNat)
    case atStart => exact ⟨0, Nat.zero_le _, rfl, fun r hr => absurd hr (by omega), MApp.start _ _ _ _⟩
    case round =>
      obtain ⟨k, hk', rfl, hall, happ⟩ := hrel
      have HAPP := Lib.hid happ
      have HALL := Lib.hid hall
      have HBW := Lib.hid (below_tr HB1.out happ.1)
      have hsz := happ.1.size
      clear happ hall
      by_cases hlt : k < m
      · obtain ⟨ad, rfl, hcell⟩ := (HL.out.below HBW.out).at_ hlt
        simp only [i64s] at hcell
        obtain ⟨x, hx⟩ : ∃ x, l k = x := ⟨_, rfl⟩
        rw [hx] at hcell
        have HX := Lib.hid hx
        clear hx
        by_cases hin : 0 ≤ x ∧ x < n
        · have h0 := hin.1
          have h1 := hin.2
          have hd3 : decide (x < 0) = false := by simp; omega
          have hd4 : decide ((n : Int) ≤ x) = false := by simp; omega
          obtain ⟨y, rfl⟩ : ∃ y : Nat, x = (y : Int) := ⟨x.toNat, by omega⟩
          have hyn : y < n := by omega
          obtain ⟨ad2, rfl, hc2⟩ := (HR.out.below HBW.out).at_ hyn
          simp only [slis] at hc2
          obtain ⟨hb0, As0, Cs0, hown0, hrow0⟩ := HAPP.out
          have HOWN := Lib.hid hown0
          have HROW := Lib.hid hrow0
          have hown1 := hown0.lt
          have HRY := Lib.hid (show ∀ g, (g = b ∨ u8.ownBlock = some g) → Rd g wr (i64s (F (l k).toNat)) (As y) (Ls y) from fun g hg => by
            rw [HX.out, Int.toNat_natCast]
            rcases hg with rfl | hg
            · exact (HRS.out y hyn).below HBW.out
            · exact ((HRS.out y hyn).other (Nat.le_trans HB1.out.size (hown1 g hg).1)).below HBW.out)
          have HB0 := Lib.hid hb0
          have HNX := Lib.hid (show ∀ r, r < k + 1 → 0 ≤ l r ∧ l r < n from fun r hr => (Nat.lt_succ_iff_lt_or_eq.1 hr).elim (fun h => HALL.out r h) (fun h => by rw [h, HX.out]; exact ⟨h0, h1⟩))
          have HLY := Lib.hid (show Ls (l k).toNat = Ls y by rw [HX.out, Int.toNat_natCast])
          clear hin hown0 hrow0 hb0 hown1
          go_wp2_with (at_builtin; refine wpList_append_lies _ rfl _ _ TRI rfl w1.heap.size TIs i0 nilS 1 24 underRI hi hz0 hz1 hz2 rfl (by decide) _ k _ rfl (HOWN.out.alloc _) ⟨wr.heap.size, 0, none⟩ 1 1 [.slice (As y) (Ls y) (Cs y)] rfl rfl (news_one rfl) (one_slice _ _ _) (by omega) (by unfold maxLen; omega) (by omega) (by simp; omega) _ rfl ?_)
          intro g' cap' w2 hown2 hgr2 hg2 _
          have HS := Lib.hid (MApp.step (F := fun r => F (l r).toNat) (Ls := fun r => Ls (l r).toNat) HB0.out HOWN.out HROW.out HLY.out HRY.out hown2 hgr2 hg2)
          clear hown2 hgr2 hg2
          go_wp2_with fail
          exact ⟨⟨k + 1, hlt, by go_num, HNX.out, HS.out⟩, by simp [intOf]; omega⟩
        · have HE := Lib.hid (RPickAny.no (b := b) (c := c) (n := n) (Ls := Ls) (F := F) (m := m) (l := l) (w := w) (w' := wr) (fun h => hin (by have := h.2.2 k hlt; rwa [HX.out] at this)) HBW.out)
          by_cases h0 : 0 ≤ x
          · have hd3 : decide (x < 0) = false := by simp; omega
            have hd4 : decide ((n : Int) ≤ x) = true := by simp; omega
            clear hin
            go_wp2_with fail
            go_ret2
            exact HE.out
          · have hd3 : decide (x < 0) = true := by simp; omega
            clear hin
            go_wp2_with fail
            go_ret2
            exact HE.out
      · obtain rfl : k = m := by omega
        have HE := Lib.hid (show ∀ v, MApp b w1 (fun r => F (l r).toNat) (fun r => Ls (l r).toNat) k v wr → RPickAny b c n Ls F k l w (.returned (.tuple #[v, .bool true])) wr from fun v h => ⟨true, v, rfl, by simp [pickP, HMAY.out, HSIDE.out]; exact HALL.out, (h.told hbw1).from HB1.out⟩)
        go_wp2_with fail
        go_ret2
        exact HE.out _ HAPP.out
  · have HE := Lib.hid (fun q => RPickAny.no (b := b) (c := c) (n := n) (Ls := Ls) (F := F) (m := m) (l := l) (w := w) (w' := w.drewN q) (fun h => hm h.2.1) (below_drewN' _ _))
    go_enter Tryz.func36, Tryz.ntmps36
    go_wp2_with fail
    refine (rmay17 b wd c hk F Ls A n ca _ HM.out).mono ?_
    rintro e w1 ⟨t, rfl, ht, q, rfl⟩
    clear ht
    cases t
    · go_wp2_with fail
      go_ret2
      exact HE.out _
    · by_cases h1 : 1 ≤ m
      · have hd1 : decide ((m : Int) < 1) = false := by simp; omega
        have hd2 : decide ((20 : Int) < (m : Int)) = true := by
          simp
          unfold side at hm
          omega
        clear hm
        go_wp2_with fail
        go_ret2
        exact HE.out _
      · have hd1 : decide ((m : Int) < 1) = true := by simp; omega
        clear hm
        go_wp2_with fail
        go_ret2
        exact HE.out _
end Go.Proofs.YtgdgimknnjbieaaGreatDoor

namespace Go.Proofs.YtgdgimknnjbieaaGreatDoor
open Go.RowKit

theorem rmay_yes (b wd c : Nat) (hk : Kind wd c) (F : Nat → Nat → Int) (Ls : Nat → Nat) (A : Option Addr) (n cap : Nat) (w : World) (hr : Mx b w F Ls A n) (h : mayP c n Ls F) :
    Calls Tryz.prog 71 #[.int .i64 wd, .slice A n cap] w fun e w' => e = .returned (.bool true) ∧ ∃ m, w' = w.drewN m :=
  (rmay17 b wd c hk F Ls A n cap w hr).mono fun e w' ⟨t, he, ht, hw⟩ => ⟨by rw [he, ht.2 h], hw⟩
theorem rmay_no (b wd c : Nat) (hk : Kind wd c) (F : Nat → Nat → Int) (Ls : Nat → Nat) (A : Option Addr) (n cap : Nat) (w : World) (hr : Mx b w F Ls A n) (h : ¬ mayP c n Ls F) :
    Calls Tryz.prog 71 #[.int .i64 wd, .slice A n cap] w fun e w' => e = .returned (.bool false) ∧ ∃ m, w' = w.drewN m :=
  (rmay17 b wd c hk F Ls A n cap w hr).mono fun e w' ⟨t, he, ht, hw⟩ => ⟨by
    cases t
    · exact he
    · exact absurd (ht.1 rfl) h, hw⟩

/-- what Join of the document tells -/
def RJoinAny (b c n : Nat) (La : Nat → Nat) (F : Nat → Nat → Int) (k : Nat) (Lb : Nat → Nat) (G : Nat → Nat → Int) (w : World) (e : Ending) (w' : World) : Prop :=
  ∃ t v, e = .returned (.tuple #[v, .bool t]) ∧ (t = true ↔ joinP c n La F k Lb G) ∧ MTold b (cond t (n + k) 0) (joinF n F G) (joinL n La Lb) w v w'
theorem RJoinAny.no {b c n : Nat} {La : Nat → Nat} {F : Nat → Nat → Int} {k : Nat} {Lb : Nat → Nat} {G : Nat → Nat → Int} {w w' : World} (h : ¬ joinP c n La F k Lb G) (hb : Below w.heap.size w w') : RJoinAny b c n La F k Lb G w (.returned (.tuple #[nilS, .bool false])) w' :=
  ⟨false, _, rfl, by simp [h], MTold.nil hb⟩

set_option maxRecDepth 100000 in
set_option maxHeartbeats 4000000 in
theorem rjoin15 (b wd c : Nat) (hk : Kind wd c) (F G : Nat → Nat → Int) (La Lb : Nat → Nat) (A B : Option Addr) (n k ca cb : Nat) (w : World) (hbw : b < w.heap.size) (ha : Mx b w F La A n) (hb : Mx b w G Lb B k) :
    Calls Tryz.prog 34 #[.int .i64 wd, .slice A n ca, .slice B k cb] w (RJoinAny b c n La F k Lb G w) := by
  obtain ⟨i0, hi, hz0, hz1, hz2⟩ := info_parts infoRow
  have HA := Lib.hid ha
  have HB := Lib.hid hb
  by_cases h1 : mayP c n La F
  · by_cases h2 : mayP c k Lb G
    · have hn1 := h1.1.1
      have hn2 := h1.1.2
      have hk1 := h2.1.1
      have hk2 := h2.1.2
      have H1 := Lib.hid h1
      have H2 := Lib.hid h2
      obtain ⟨As, Ca, ra, ra2⟩ := ha
      obtain ⟨Bs, Cb, rb, rb2⟩ := hb
      obtain ⟨ad, rfl, hc1⟩ := ra.at_ (show 0 < n by omega)
      obtain ⟨ad', rfl, hc2⟩ := rb.at_ (show 0 < k by omega)
      rw [show ad.add 0 = ad by simp [Addr.add]] at hc1
      rw [show ad'.add 0 = ad' by simp [Addr.add]] at hc2
      simp only [slis] at hc1 hc2
      have RA := Lib.hid ra
      have RA2 := Lib.hid ra2
      have RB := Lib.hid rb
      have RB2 := Lib.hid rb2
      have hn0 : (0 : Int) < (n : Int) := by omega
      have hk0 : (0 : Int) < (k : Int) := by omega
      clear ra ra2 rb rb2
      by_cases h3 : La 0 = Lb 0
      · have hne : (((La 0 : Nat) : Int) != ((Lb 0 : Nat) : Int)) = false := by simp [h3]
        have H3 := Lib.hid h3
        by_cases h4 : n + k ≤ 20
        · have hd4 : decide ((20 : Int) < (n : Int) + (k : Int)) = false := by simp; omega
          clear h1 h2 h3
          go_enter Tryz.func34, Tryz.ntmps34
          go_wp2_with fail
          go_quiet (first
            | (go_at_call_of 71 (Value.slice (some ad) n ca); exact Calls.quiet_of (rmay_yes b wd c hk F La (some ad) n ca _ (HA.out.below (below_drewN' _ _)) H1.out))
            | (go_at_call_of 71 (Value.slice (some ad') k cb); exact Calls.quiet_of (rmay_yes b wd c hk G Lb (some ad') k cb _ (HB.out.below (below_drewN' _ _)) H2.out)))
          have HBQ := Lib.hid (below_drewN' w nq)
          generalize w.drewN nq = w1 at *
          clear HA HB
          have hbw1 : b < w1.heap.size := Nat.lt_of_lt_of_le hbw HBQ.out.size
          go_wp2_with (at_builtin; refine append_rd _ rfl (.tmp 38) (.tmp 39) TRI rfl w1.heap.size TIs i0 nilS 24 underRI hi hz0 hz1 hz2 rfl _ 0 [] rfl (World.ownsRow_lit w1 #[] 0 (Nat.le_refl _) (Nat.zero_le _) rfl) b _ _ _ _ rfl (fun h => by cases h) ((RA.out.below HBQ.out).below (below_alloc _ _)) (one_slis _ _ _) (by unfold maxLen; omega) (by omega) (by simp) ?_)
          intro v2 w2 hown2 hgr2
          have hb2 : Below w1.heap.size w1 w2 := (below_alloc w1 _).grown hgr2 (by simp) (fun q h => by simp [Value.ownBlock] at h; omega)
          have HB2 := Lib.hid hb2
          have HB02 := Lib.hid (below_tr HBQ.out hb2)
          have HO2 := Lib.hid hown2
          have hsz2 := hb2.size
          clear hown2 hgr2 hb2
          go_wp2_with (at_builtin; refine append_rd _ rfl (.tmp 41) (.tmp 42) TRI rfl w1.heap.size TIs i0 nilS 24 underRI hi hz0 hz1 hz2 rfl _ _ _ rfl HO2.out b _ _ _ _ rfl (fun h => by cases h) (RB.out.below HB02.out) (one_slis _ _ _) (by unfold maxLen; omega) (by omega) (by omega) ?_)
          intro v3 w3 hown3 hgr3
          have hb3 : Below w1.heap.size w1 w3 := HB2.out.grown hgr3 (by omega) (fun q h => (HO2.out.lt q h).1)
          have hB03 := below_tr HBQ.out hb3
          rw [← joinV_all] at hown3
          obtain ⟨A', c', rfl, hcc, hrd⟩ := Rd.of_own hown3 hbw1
          have HE := Lib.hid (show RJoinAny b c n La F k Lb G w (.returned (.tuple #[.slice A' (n + k) c', .bool true])) w3 from ⟨true, _, rfl, by simp [joinP, H1.out, H2.out, H3.out, h4], A', c', rfl, hcc,
            ⟨fun r => if r < n then As r else Bs (r - n), fun r => if r < n then Ca r else Cb (r - n), hrd.congr (fun r _ => by
              simp only [joinV, slis, joinL]
              split <;> rfl), fun r hr => by
              simp only [joinF, joinL]
              by_cases hrn : r < n
              · rw [if_pos hrn, if_pos hrn, if_pos hrn]; exact (RA2.out r hrn).below hB03
              · rw [if_neg hrn, if_neg hrn, if_neg hrn]; exact (RB2.out (r - n) (by simp at hr; omega)).below hB03⟩, hB03⟩)
          clear hown3 hgr3 hb3 hB03 hrd
          go_wp2_with fail
          go_ret2
          exact HE.out
        · have HE := Lib.hid (fun q => RJoinAny.no (b := b) (c := c) (n := n) (La := La) (F := F) (k := k) (Lb := Lb) (G := G) (w := w) (w' := w.drewN q) (fun h => h4 h.2.2.2) (below_drewN' _ _))
          have hd4 : decide ((20 : Int) < (n : Int) + (k : Int)) = true := by simp; omega
          clear h1 h2 h3
          go_enter Tryz.func34, Tryz.ntmps34
          go_wp2_with fail
          go_quiet (first
            | (go_at_call_of 71 (Value.slice (some ad) n ca); exact Calls.quiet_of (rmay_yes b wd c hk F La (some ad) n ca _ (HA.out.below (below_drewN' _ _)) H1.out))
            | (go_at_call_of 71 (Value.slice (some ad') k cb); exact Calls.quiet_of (rmay_yes b wd c hk G Lb (some ad') k cb _ (HB.out.below (below_drewN' _ _)) H2.out)))
          go_wp2_with fail
          go_ret2
          exact HE.out _
      · have HE := Lib.hid (fun q => RJoinAny.no (b := b) (c := c) (n := n) (La := La) (F := F) (k := k) (Lb := Lb) (G := G) (w := w) (w' := w.drewN q) (fun h => h3 h.2.2.1) (below_drewN' _ _))
        have hne : (((La 0 : Nat) : Int) != ((Lb 0 : Nat) : Int)) = true := by simp; omega
        clear h1 h2 h3
        go_enter Tryz.func34, Tryz.ntmps34
        go_wp2_with fail
        go_quiet (first
          | (go_at_call_of 71 (Value.slice (some ad) n ca); exact Calls.quiet_of (rmay_yes b wd c hk F La (some ad) n ca _ (HA.out.below (below_drewN' _ _)) H1.out))
          | (go_at_call_of 71 (Value.slice (some ad') k cb); exact Calls.quiet_of (rmay_yes b wd c hk G Lb (some ad') k cb _ (HB.out.below (below_drewN' _ _)) H2.out)))
        go_wp2_with fail
        go_ret2
        exact HE.out _
    · have HE := Lib.hid (fun q => RJoinAny.no (b := b) (c := c) (n := n) (La := La) (F := F) (k := k) (Lb := Lb) (G := G) (w := w) (w' := w.drewN q) (fun h => h2 h.2.1) (below_drewN' _ _))
      have H1 := Lib.hid h1
      have H2 := Lib.hid h2
      clear ha hb h1 h2
      go_enter Tryz.func34, Tryz.ntmps34
      go_wp2_with fail
      go_quiet (first
        | (go_at_call_of 71 (Value.slice A n ca); exact Calls.quiet_of (rmay_yes b wd c hk F La A n ca _ (HA.out.below (below_drewN' _ _)) H1.out))
        | (go_at_call_of 71 (Value.slice B k cb); exact Calls.quiet_of (rmay_no b wd c hk G Lb B k cb _ (HB.out.below (below_drewN' _ _)) H2.out)))
      go_wp2_with fail
      go_ret2
      exact HE.out _
  · have HE := Lib.hid (fun q => RJoinAny.no (b := b) (c := c) (n := n) (La := La) (F := F) (k := k) (Lb := Lb) (G := G) (w := w) (w' := w.drewN q) (fun h => h1 h.1) (below_drewN' _ _))
    have H1 := Lib.hid h1
    clear ha hb h1
    go_enter Tryz.func34, Tryz.ntmps34
    go_wp2_with fail
    go_quiet ((go_at_call 71; exact Calls.quiet_of (rmay_no b wd c hk F La A n ca _ (HA.out.below (below_drewN' _ _)) H1.out)))
    go_wp2_with fail
    go_ret2
    exact HE.out _

/-- in Identity's inner loop -/
def RIdIn (n i : Nat) (wi : World) (s5 s6 : Value) (wr : World) : Prop := ∃ j : Nat, j ≤ n ∧ s6 = .int .i64 j ∧ App wi TI (i64s (idF i)) j s5 wr

set_option maxRecDepth 100000 in
set_option maxHeartbeats 2000000 in
theorem ridentity26 (b n : Nat) (hn : n ≤ 20) (w : World) (hbw : b < w.heap.size) :
    Calls Tryz.prog 35 #[.int .i64 n] w fun e w' => ∃ v, e = .returned v ∧ MTold b n idF (fun _ => n) w v w' := by
  obtain ⟨i0, hi, hz0, hz1, hz2⟩ := info_parts infoRow
  obtain ⟨j0, hj, hy0, hy1, hy2⟩ := info_parts infoI
  have hd20 : decide ((n : Int) ≤ 20) = true := by simp; omega
  go_enter Tryz.func35, Tryz.ntmps35
  go_wp2_with fail
  go_loopw [3, 4] (fun s3 s4 wr => ∃ i : Nat, i ≤ n ∧ s4 = .int .i64 i ∧ MApp b w idF (fun _ => n) i s3 wr) (fun _ s4 _ => n - (intOf s4).toNat)
  case atStart => exact ⟨0, Nat.zero_le _, rfl, MApp.start _ _ _ _⟩
  case round =>
    obtain ⟨i, hin, rfl, happ⟩ := hrel
    obtain ⟨wi, hwi⟩ : ∃ wi, wi = wr := ⟨_, rfl⟩
    subst hwi
    have HAPP := Lib.hid happ
    have hsz := happ.1.size
    clear happ
    by_cases hlt : i < n
    · go_wp2_with fail
      go_loopw [5, 6] (fun s5 s6 wr => RIdIn n i wi s5 s6 wr) (fun _ s6 _ => n - (intOf s6).toNat)
      case atStart => exact ⟨0, Nat.zero_le _, rfl, App.start _ _ _⟩
      case round =>
        obtain ⟨j, hjn, rfl, ha⟩ := hrel
        have HA := Lib.hid ha
        have hsz2 := ha.2.size
        clear ha
        by_cases hlt2 : j < n
        · by_cases hij : i = j
          · have hb : (((i : Nat) : Int) == ((j : Nat) : Int)) = true := by simp [hij]
            have HV := Lib.hid (show i64s (idF i) j = .int .i64 1 by simp [i64s, idF, hij])
            clear hij
            go_wp2_with (at_builtin; refine wpList_append_own _ rfl _ _ TIs rfl wi.heap.size TI j0 (.int .i64 0) 1 8 underI hj hy0 hy1 hy2 rfl (by decide) _ _ _ rfl (HA.out.1.alloc _) ⟨wr.heap.size, 0, none⟩ 1 1 [i64s (idF i) j] rfl rfl (news_one HV.out.symm) (one_i64 _) (by unfold maxLen; omega) (by omega) (by simp; omega) ?_)
            intro v' w1 hown' hgrow _
            have HS := Lib.hid (HA.out.step hown' hgrow)
            clear hown' hgrow
            go_wp2_with fail
            exact ⟨⟨j + 1, hlt2, by go_num, HS.out⟩, by simp [intOf]; omega⟩
          · have hb : (((i : Nat) : Int) == ((j : Nat) : Int)) = false := by simp; omega
            have HV := Lib.hid (show i64s (idF i) j = .int .i64 0 by simp [i64s, idF, hij])
            clear hij
            go_wp2_with (at_builtin; refine wpList_append_own _ rfl _ _ TIs rfl wi.heap.size TI j0 (.int .i64 0) 1 8 underI hj hy0 hy1 hy2 rfl (by decide) _ _ _ rfl (HA.out.1.alloc _) ⟨wr.heap.size, 0, none⟩ 1 1 [i64s (idF i) j] rfl rfl (news_one HV.out.symm) (one_i64 _) (by unfold maxLen; omega) (by omega) (by simp; omega) ?_)
            intro v' w1 hown' hgrow _
            have HS := Lib.hid (HA.out.step hown' hgrow)
            clear hown' hgrow
            go_wp2_with fail
            exact ⟨⟨j + 1, hlt2, by go_num, HS.out⟩, by simp [intOf]; omega⟩
        · obtain rfl : j = n := by omega
          obtain ⟨hb0, As0, Cs0, hown0, hrow0⟩ := HAPP.out.below HA.out.2
          have hlo := HAPP.out.2
          obtain ⟨A', c', e', _, _⟩ := HA.out.rd (show b < wi.heap.size by omega)
          subst e'
          have HRY := Lib.hid (show ∀ g, (g = b ∨ u3.ownBlock = some g) → Rd g wr (i64s (idF i)) A' j from fun g hg => by
            have hgl : g < wi.heap.size := by
              rcases hg with rfl | hg
              · omega
              · obtain ⟨_, _, ho, _⟩ := hlo
                exact (ho.lt g hg).2
            obtain ⟨A2, c2, e2, _, h2⟩ := HA.out.rd hgl
            injection e2 with e2
            subst e2
            exact h2)
          have HB0 := Lib.hid hb0
          have HOWN := Lib.hid hown0
          have HROW := Lib.hid hrow0
          have hsz3 := hb0.size
          clear hb0 hown0 hrow0 hlo
          go_wp2_with (at_builtin; refine wpList_append_lies _ rfl _ _ TRI rfl w.heap.size TIs i0 nilS 1 24 underRI hi hz0 hz1 hz2 rfl (by decide) _ i _ rfl (HOWN.out.alloc _) ⟨wr.heap.size, 0, none⟩ 1 1 [.slice A' j c'] rfl rfl (news_one rfl) (one_slice _ _ _) (by omega) (by unfold maxLen; omega) (by omega) (by simp; omega) _ rfl ?_)
          intro g' cap' w2 hown2 hgr2 hg2 _
          have HS := Lib.hid (MApp.step (F := idF) (Ls := fun _ => j) HB0.out HOWN.out HROW.out rfl HRY.out hown2 hgr2 hg2)
          clear hown2 hgr2 hg2
          go_wp2_with fail
          exact ⟨⟨i + 1, hlt, by go_num, HS.out⟩, by simp [intOf]; omega⟩
    · obtain rfl : i = n := by omega
      go_wp2_with fail
      go_ret
      exact ⟨_, rfl, HAPP.out.told hbw⟩

end Go.Proofs.YtgdgimknnjbieaaGreatDoor

namespace Go.Proofs.YtgdgimknnjbieaaGreatDoor
open Go.RowKit

/-- what Mul of the document tells -/
def RMMulAny (p b n k : Nat) (La Lb : Nat → Nat) (F G : Nat → Nat → Int) (w : World) (e : Ending) (w' : World) : Prop :=
  ∃ t v, e = .returned (.tuple #[v, .bool t]) ∧ (t = true ↔ mayP (M.ord p) n La F ∧ mayP (M.ord p) k Lb G ∧ La 0 = k) ∧ MTold b (cond t n 0) (mulF p F G k) (fun _ => Lb 0) w v w'
theorem RMMulAny.no {p b n k : Nat} {La Lb : Nat → Nat} {F G : Nat → Nat → Int} {w w' : World} (h : ¬ (mayP (M.ord p) n La F ∧ mayP (M.ord p) k Lb G ∧ La 0 = k)) (hb : Below w.heap.size w w') : RMMulAny p b n k La Lb F G w (.returned (.tuple #[nilS, .bool false])) w' :=
  ⟨false, _, rfl, by simp [h], MTold.nil hb⟩
/-- in its loops over the columns, and over the products -/
def RMulCol (p k m i : Nat) (F G : Nat → Nat → Int) (wi : World) (s12 s13 : Value) (wr : World) : Prop := ∃ j : Nat, j ≤ m ∧ s13 = .int .i64 j ∧ App wi TI (i64s (mulF p F G k i)) j s12 wr
def RMulSum (p k i j : Nat) (F G : Nat → Nat → Int) (wj : World) (s14 s15 : Value) (wr : World) : Prop := ∃ x : Nat, x ≤ k ∧ s15 = .int .i64 x ∧ s14 = .int .i64 (dotN p (F i) (fun r => G r j) x) ∧ Below wj.heap.size wj wr

set_option maxRecDepth 100000 in
set_option maxHeartbeats 4000000 in
theorem rmul_go (p b wd : Nat) (hg : Good p wd) (F G : Nat → Nat → Int) (La Lb : Nat → Nat) (A B : Option Addr) (n k ca cb : Nat) (w : World) (hbw : b < w.heap.size) (ha : Mx b w F La A n) (hb : Mx b w G Lb B k)
    (h1 : mayP (M.ord p) n La F) (h2 : mayP (M.ord p) k Lb G) (h3 : La 0 = k) :
    Calls Tryz.prog 106 #[.int .i64 wd, .int .u32 p, .slice A n ca, .slice B k cb] w (RMMulAny p b n k La Lb F G w) := by
  obtain ⟨i0, hi, hz0, hz1, hz2⟩ := info_parts infoRow
  obtain ⟨j0, hj, hy0, hy1, hy2⟩ := info_parts infoI
  have hkd := hg.kind
  have hbd := hg.bounds
  have HA := Lib.hid ha
  have HB := Lib.hid hb
  have H1 := Lib.hid h1
  have H2 := Lib.hid h2
  have H3 := Lib.hid h3
  have hn1 := h1.1.1
  have hn2 := h1.1.2
  have hk1 := h2.1.1
  have hk2 := h2.1.2
  have hm1 := h2.2.1.1
  have hm2 := h2.2.1.2
  obtain ⟨As, Ca, ra, ra2⟩ := ha
  obtain ⟨Bs, Cb, rb, rb2⟩ := hb
  obtain ⟨ad, rfl, hc1⟩ := ra.at_ (show 0 < n by omega)
  obtain ⟨ad', rfl, hc2⟩ := rb.at_ (show 0 < k by omega)
  rw [show ad.add 0 = ad by simp [Addr.add], ] at hc1
  rw [show ad'.add 0 = ad' by simp [Addr.add]] at hc2
  simp only [slis] at hc1 hc2
  rw [h3] at hc1
  have RA := Lib.hid ra
  have RA2 := Lib.hid ra2
  have RB := Lib.hid rb
  have RB2 := Lib.hid rb2
  have hadl := World.block_lt_of_cell? w _ hc1
  have hadl' := World.block_lt_of_cell? w _ hc2
  have HC1 := Lib.hid hc1
  have HC2 := Lib.hid hc2
  obtain ⟨m, hm⟩ : ∃ m, Lb 0 = m := ⟨_, rfl⟩
  have HM := Lib.hid hm
  rw [hm] at hm1 hm2
  clear ra ra2 rb rb2 h1 h2 h3 hc1 hc2
  go_enter Tryz.func106, Tryz.ntmps106
  go_wp2_with fail
  refine (rmay_yes b wd _ hkd F La (some ad) n ca _ HA.out H1.out).mono ?_
  rintro e w0 ⟨rfl, q0, rfl⟩
  have HB0 := Lib.hid (below_drewN' w q0)
  generalize w.drewN q0 = w0 at *
  go_wp2_with fail
  refine (rmay_yes b wd _ hkd G Lb (some ad') k cb _ (HB.out.below HB0.out) H2.out).mono ?_
  rintro e w1 ⟨rfl, q1, rfl⟩
  have HB1 := Lib.hid (below_tr HB0.out (below_drewN' w0 q1))
  generalize w0.drewN q1 = w1 at *
  have hc1 : w1.cell? ad = some (.slice (As 0) k (Ca 0)) := (HB1.out.cell hadl).trans HC1.out
  have hbw1 : b < w1.heap.size := Nat.lt_of_lt_of_le hbw HB1.out.size
  have hn0 : (0 : Int) < (n : Int) := by omega
  have hk0 : (0 : Int) < (k : Int) := by omega
  go_wp2_with fail
  go_loopw [10, 11] (fun s10 s11 wr => ∃ i : Nat, i ≤ n ∧ s11 = .int .i64 i ∧ MApp b w1 (mulF p F G k) (fun _ => m) i s10 wr) (fun _ s11 _ => n - (intOf s11).toNat)
  case atStart => exact ⟨0, Nat.zero_le _, rfl, MApp.start _ _ _ _⟩
  case round =>
    clear hc1
    obtain ⟨i, hin, rfl, happ⟩ := hrel
    obtain ⟨wi, hwi⟩ : ∃ wi, wi = wr := ⟨_, rfl⟩
    subst hwi
    have HAPP := Lib.hid happ
    have hsz := happ.1.size
    have HBI := Lib.hid (below_tr HB1.out happ.1)
    clear happ
    by_cases hlt : i < n
    · go_wp2_with fail
      go_loopw [12, 13] (fun s12 s13 wr => RMulCol p k m i F G wi s12 s13 wr) (fun _ s13 _ => m - (intOf s13).toNat)
      case atStart => exact ⟨0, Nat.zero_le _, rfl, App.start _ _ _⟩
      case round =>
        obtain ⟨j, hjm, rfl, ha⟩ := hrel
        obtain ⟨wj, hwj⟩ : ∃ wj, wj = wr := ⟨_, rfl⟩
        subst hwj
        have HAJ := Lib.hid ha
        have hsz2 := ha.2.size
        have HBJ := Lib.hid (below_tr HBI.out ha.2)
        have hc2 : wj.cell? ad' = some (.slice (Bs 0) m (Cb 0)) := by rw [← HM.out]; exact (HBJ.out.cell hadl').trans HC2.out
        clear ha
        by_cases hlt2 : j < m
        · go_wp2_with fail
          go_loopw [14, 15] (fun s14 s15 wr => RMulSum p k i j F G wj s14 s15 wr) (fun _ s15 _ => k - (intOf s15).toNat)
          case atStart => exact ⟨0, Nat.zero_le _, rfl, rfl, Below.refl _ _⟩
          case round =>
            obtain ⟨x, hxk, rfl, rfl, hbx⟩ := hrel
            have HBX := Lib.hid hbx
            have HBJX := Lib.hid (below_tr HBJ.out hbx)
            clear hbx
            have hs := dotN_le hg (F i) (fun r => G r j) x
            by_cases hlt3 : x < k
            · have hLa : La i = k := (H1.out.2.2 i hlt).1.trans H3.out
              have hLb : Lb x = m := ((H2.out.2.2 x hlt3).1).trans HM.out
              obtain ⟨e1, he1, d1⟩ := (RA.out.below HBJX.out).at_ hlt
              injection he1 with he1
              subst he1
              obtain ⟨e2, he2, d2⟩ := (RB.out.below HBJX.out).at_ hlt3
              injection he2 with he2
              subst he2
              simp only [slis] at d1 d2
              rw [hLa] at d1
              rw [hLb] at d2
              obtain ⟨x1, hA3, d3⟩ := ((RA2.out i hlt).below HBJX.out).at_ (show x < La i by omega)
              obtain ⟨x2, hB3, d4⟩ := ((RB2.out x hlt3).below HBJX.out).at_ (show j < Lb x by omega)
              rw [hA3] at d1
              rw [hB3] at d2
              simp only [i64s] at d3 d4
              have hr := fmulr hg (F i x) (G x j)
              have HS := Lib.hid (show dotN p (F i) (fun r => G r j) (x + 1) = dotN p (F i) (fun r => G r j) x ^^^ (fmul p (F i x) (G x j)).toNat from rfl)
              clear hA3 hB3 hLa hLb
              obtain ⟨u, hu⟩ : ∃ u, F i x = u := ⟨_, rfl⟩
              obtain ⟨v, hv⟩ : ∃ v, G x j = v := ⟨_, rfl⟩
              obtain ⟨s, hss⟩ : ∃ s, dotN p (F i) (fun r => G r j) x = s := ⟨_, rfl⟩
              rw [hu] at d3 HS hr
              rw [hv] at d4 HS hr
              rw [hss] at HS hs ⊢
              have HX := Lib.hid (i64_xor_nat s (fmul p u v).toNat (by omega) (by omega))
              clear hu hv hss
              have i1 : (i : Int) < (n : Int) := by omega
              have i2 : (x : Int) < (k : Int) := by omega
              have i3 : (j : Int) < (m : Int) := by omega
              have hm20 : m ≤ 20 := hm2
              go_wp2_with fail
              go_quiet ((go_at_call 89; exact quiet_same (rmul20 p wd hg u v _)))
              obtain ⟨y, hy⟩ : ∃ y : Nat, fmul p u v = (y : Int) := ⟨(fmul p u v).toNat, by omega⟩
              rw [hy] at HX HS hr ⊢
              rw [Int.toNat_natCast] at HX HS
              clear hy
              go_wp2_with fail
              exact ⟨⟨x + 1, hlt3, by go_num, by rw [HS.out, ← HX.out], below_tr HBX.out (below_drewN' _ _)⟩, by simp [intOf]; omega⟩
            · obtain rfl : x = k := by omega
              have HAQ := Lib.hid (show App wi TI (i64s (mulF p F G x i)) j u12 wr from ⟨own_below HAJ.out.1 HBX.out, below_tr HAJ.out.2 HBX.out⟩)
              have hszq : wi.heap.size ≤ wr.heap.size := HAQ.out.2.size
              go_wp2_with (at_builtin; refine wpList_append_own _ rfl _ _ TIs rfl wi.heap.size TI j0 (.int .i64 0) 1 8 underI hj hy0 hy1 hy2 rfl (by decide) _ _ _ rfl (HAQ.out.1.alloc _) ⟨wr.heap.size, 0, none⟩ 1 1 [i64s (mulF p F G x i) j] rfl rfl (news_one rfl) (one_i64 _) (by unfold maxLen; omega) (by omega) (by simp; omega) ?_)
              intro v' w2 hown' hgrow _
              have HS := Lib.hid (HAQ.out.step hown' hgrow)
              clear hown' hgrow
              go_wp2_with fail
              exact ⟨⟨j + 1, hlt2, by go_num, HS.out⟩, by simp [intOf]; omega⟩
        · obtain rfl : j = m := by omega
          obtain ⟨hb0, As0, Cs0, hown0, hrow0⟩ := HAPP.out.below HAJ.out.2
          have hlo := HAPP.out.2
          obtain ⟨A', c', e', _, _⟩ := HAJ.out.rd (show b < wi.heap.size by omega)
          subst e'
          have HRY := Lib.hid (show ∀ g, (g = b ∨ u10.ownBlock = some g) → Rd g wj (i64s (mulF p F G k i)) A' j from fun g hg' => by
            have hgl : g < wi.heap.size := by
              rcases hg' with rfl | hg'
              · omega
              · obtain ⟨_, _, ho, _⟩ := hlo
                exact (ho.lt g hg').2
            obtain ⟨A2, c2, e2, _, h2⟩ := HAJ.out.rd hgl
            injection e2 with e2
            subst e2
            exact h2)
          have HBB := Lib.hid hb0
          have HOWN := Lib.hid hown0
          have HROW := Lib.hid hrow0
          have hsz3 := hb0.size
          clear hb0 hown0 hrow0 hlo
          go_wp2_with (at_builtin; refine wpList_append_lies _ rfl _ _ TRI rfl w1.heap.size TIs i0 nilS 1 24 underRI hi hz0 hz1 hz2 rfl (by decide) _ i _ rfl (HOWN.out.alloc _) ⟨wj.heap.size, 0, none⟩ 1 1 [.slice A' j c'] rfl rfl (news_one rfl) (one_slice _ _ _) (by omega) (by unfold maxLen; omega) (by omega) (by simp; omega) _ rfl ?_)
          intro g' cap' w2 hown2 hgr2 hg2 _
          have HS := Lib.hid (MApp.step (F := mulF p F G k) (Ls := fun _ => j) HBB.out HOWN.out HROW.out rfl HRY.out hown2 hgr2 hg2)
          clear hown2 hgr2 hg2
          go_wp2_with fail
          exact ⟨⟨i + 1, hlt, by go_num, HS.out⟩, by simp [intOf]; omega⟩
    · obtain rfl : i = n := by omega
      have HE := Lib.hid (show ∀ v, MApp b w1 (mulF p F G k) (fun _ => m) i v wi → RMMulAny p b i k La Lb F G w (.returned (.tuple #[v, .bool true])) wi from fun v h => ⟨true, v, rfl, by simp [H1.out, H2.out, H3.out], by rw [HM.out]; exact (h.told hbw1).from HB1.out⟩)
      go_wp2_with fail
      go_ret2
      exact HE.out _ HAPP.out

set_option maxRecDepth 100000 in
set_option maxHeartbeats 4000000 in
theorem rmmul21 (p b wd : Nat) (hg : Good p wd) (F G : Nat → Nat → Int) (La Lb : Nat → Nat) (A B : Option Addr) (n k ca cb : Nat) (w : World) (hbw : b < w.heap.size) (ha : Mx b w F La A n) (hb : Mx b w G Lb B k) :
    Calls Tryz.prog 106 #[.int .i64 wd, .int .u32 p, .slice A n ca, .slice B k cb] w (RMMulAny p b n k La Lb F G w) := by
  have hkd := hg.kind
  by_cases h1 : mayP (M.ord p) n La F
  · by_cases h2 : mayP (M.ord p) k Lb G
    · by_cases h3 : La 0 = k
      · exact rmul_go p b wd hg F G La Lb A B n k ca cb w hbw ha hb h1 h2 h3
      · have HA := Lib.hid ha
        have HB := Lib.hid hb
        have H1 := Lib.hid h1
        have H2 := Lib.hid h2
        have HE := Lib.hid (fun (w' : World) hw => RMMulAny.no (p := p) (b := b) (n := n) (k := k) (La := La) (Lb := Lb) (F := F) (G := G) (w := w) (w' := w') (fun h => h3 h.2.2) hw)
        have hne : (((La 0 : Nat) : Int) != ((k : Nat) : Int)) = true := by simp; omega
        have hn1 := h1.1.1
        obtain ⟨As, Ca, ra, _⟩ := ha
        obtain ⟨ad, rfl, hc1⟩ := ra.at_ (show 0 < n by omega)
        rw [show ad.add 0 = ad by simp [Addr.add], ] at hc1
        simp only [slis] at hc1
        have hadl := World.block_lt_of_cell? w _ hc1
        have HC1 := Lib.hid hc1
        clear h1 h2 h3 hb ra hc1
        go_enter Tryz.func106, Tryz.ntmps106
        go_wp2_with fail
        refine (rmay_yes b wd _ hkd F La (some ad) n ca _ HA.out H1.out).mono ?_
        rintro e w0 ⟨rfl, q0, rfl⟩
        have HB0 := Lib.hid (below_drewN' w q0)
        generalize w.drewN q0 = w0 at *
        go_wp2_with fail
        refine (rmay_yes b wd _ hkd G Lb B k cb _ (HB.out.below HB0.out) H2.out).mono ?_
        rintro e w1 ⟨rfl, q1, rfl⟩
        have HB1 := Lib.hid (below_tr HB0.out (below_drewN' w0 q1))
        generalize w0.drewN q1 = w1 at *
        have hc1 : w1.cell? ad = some (.slice (As 0) (La 0) (Ca 0)) := (HB1.out.cell hadl).trans HC1.out
        have hn0 : (0 : Int) < (n : Int) := by omega
        go_wp2_with fail
        go_ret2
        exact HE.out _ HB1.out
    · have HA := Lib.hid ha
      have HB := Lib.hid hb
      have H1 := Lib.hid h1
      have H2 := Lib.hid h2
      have HE := Lib.hid (fun (w' : World) hw => RMMulAny.no (p := p) (b := b) (n := n) (k := k) (La := La) (Lb := Lb) (F := F) (G := G) (w := w) (w' := w') (fun h => h2 h.2.1) hw)
      clear h1 h2 ha hb
      go_enter Tryz.func106, Tryz.ntmps106
      go_wp2_with fail
      refine (rmay_yes b wd _ hkd F La A n ca _ HA.out H1.out).mono ?_
      rintro e w0 ⟨rfl, q0, rfl⟩
      have HB0 := Lib.hid (below_drewN' w q0)
      generalize w.drewN q0 = w0 at *
      go_wp2_with fail
      refine (rmay_no b wd _ hkd G Lb B k cb _ (HB.out.below HB0.out) H2.out).mono ?_
      rintro e w1 ⟨rfl, q1, rfl⟩
      have HB1 := Lib.hid (below_tr HB0.out (below_drewN' w0 q1))
      generalize w0.drewN q1 = w1 at *
      go_wp2_with fail
      go_ret2
      exact HE.out _ HB1.out
  · have HA := Lib.hid ha
    have H1 := Lib.hid h1
    have HE := Lib.hid (fun (w' : World) hw => RMMulAny.no (p := p) (b := b) (n := n) (k := k) (La := La) (Lb := Lb) (F := F) (G := G) (w := w) (w' := w') (fun h => h1 h.1) hw)
    clear h1 ha hb
    go_enter Tryz.func106, Tryz.ntmps106
    go_wp2_with fail
    refine (rmay_no b wd _ hkd F La A n ca _ HA.out H1.out).mono ?_
    rintro e w0 ⟨rfl, q0, rfl⟩
    go_wp2_with fail
    go_ret2
    exact HE.out _ (below_drewN' w q0)
end Go.Proofs.YtgdgimknnjbieaaGreatDoor

namespace Go.Proofs.YtgdgimknnjbieaaGreatDoor
open Go.RowKit
end Go.Proofs.YtgdgimknnjbieaaGreatDoor

namespace Go.Proofs.YtgdgimknnjbieaaGreatDoor
open Go.RowKit
end Go.Proofs.YtgdgimknnjbieaaGreatDoor
