/- The columns of a matrix, told by a function that is ranged over: its contract. Contracts of package matrix: rows copied, picked and joined; the identity. Contracts of package matrix: the identity, and rows picked. Contracts of package matrix: rows joined, and a column multiplied. -/
import Derived.Test.YtgdgimknnjbieaaGreatDoorGxh
import Derived.Test.YtgdgimknnjbieaaGreatDoorRfl
import Derived.Shelf.Abstract
import Derived.Shelf.RegionOpen
import Derived.WalkKit
import Derived.OwnWalkIn
import Derived.TacticsInMore
import Derived.LoopNIn
import Derived.LoopIn
import Derived.Lib.SliceRun
import Derived.Lib.AppendZeros
import Derived.Deep.RegionHeld3

namespace Go.Proofs.YtgdgimknnjbieaaGreatDoor
open Go.RowKit Go.Shelf
attribute [local go_sem] Oper.semAt_some

abbrev TM : Nat := 57
theorem infoRow : (Tryz.prog.info? TIs).map (fun i => (i.zero, i.size, i.bytes)) = some (some nilS, 1, 24) := by kernel_rfl

set_option maxRecDepth 100000 in
theorem columns33 (B : Option Addr) (k cb : Nat) (w : World) :
    Calls Tryz.prog 159 #[.slice B k cb] w fun e w' => e = .returned (.func (.func 180) #[] #[.pointer (some ⟨w.heap.size, 0, none⟩)]) ∧ w.alloc (.cells #[.slice B k cb] TM) = w' := by
  have hmf : ∀ (fn : Fn) (first cap : Array Value) (w : World), (Instr.makeFunc fn first cap).run Tryz.prog w = .ok (.func fn first cap) w := fun _ _ _ _ => rfl
  go_enter Tryz.func159, Tryz.ntmps159
  go_wp2_with fail
  go_ret
  exact ⟨rfl, rfl⟩

/-- what the columns are told from -/
def ColT (b bx k m : Nat) (B : Option Addr) (cb : Nat) (G : Nat → Nat → Int) (W : World) : Prop := W.cell? ⟨bx, 0, none⟩ = some (.slice B k cb) ∧ Mx b W G (fun _ => m) B k
/-- the j-th column, told at block g -/
def ColX (k : Nat) (G : Nat → Nat → Int) (j g : Nat) (W₀ W : World) : Prop := W₀.heap.size ≤ g ∧ W.rowIs g TI k (i64s (fun r => G r j))
/-- in the loop that fills a column -/
def ColIn (k j : Nat) (G : Nat → Nat → Int) (w : World) (s19 : Value) (wr : World) : Prop :=
  ∃ i : Nat, i ≤ k ∧ s19 = .int .i64 i ∧ wr.rowIs w.heap.size TI k (fun r => .int .i64 (if r < i then G r j else 0)) ∧ Below w.heap.size w wr

theorem colIn_step {k j i : Nat} {G : Nat → Nat → Int} {w wr : World} (hi : i < k) (hrow : wr.rowIs w.heap.size TI k (fun r => .int .i64 (if r < i then G r j else 0))) (hb : Below w.heap.size w wr) :
    ColIn k j G w (.int .i64 (i + 1 : Nat)) (wr.setCell ⟨w.heap.size, i, none⟩ (.int .i64 (G i j))) := by
  refine ⟨i + 1, hi, rfl, (hrow.set i _).congr (fun r _ => ?_), hb.setCell (p := ⟨w.heap.size, i, none⟩) (Nat.le_refl _) _⟩
  rcases Nat.lt_trichotomy r i with h | h | h
  · rw [if_neg (by omega), if_pos h, if_pos (by omega)]
  · subst h; rw [if_pos rfl, if_pos (by omega)]
  · rw [if_neg (by omega), if_neg (by omega), if_neg (by omega)]

set_option maxRecDepth 100000 in
set_option maxHeartbeats 4000000 in
theorem columns_hand (n b bx k m : Nat) (B : Option Addr) (cb : Nat) (G : Nat → Nat → Int) (hk0 : 0 < k) (hk : k ≤ 20) (hm : m ≤ 20) (hn : 1 ≤ n) :
    Hands n Tryz.prog 180 #[.pointer (some ⟨bx, 0, none⟩)] (fun g : Nat => #[.slice (some ⟨g, 0, none⟩) k k]) m (ColT b bx k m B cb G) (ColX k G) := by
  intro l J W hJT hJa hY h0
  have HT := Lib.hid hJT
  have HJA := Lib.hid hJa
  have HY := Lib.hid hY
  have H0 := Lib.hid h0
  clear hJT hJa hY h0
  have hmk := run_make_row' (P := Tryz.prog) TIs TI (.int .i64 0) 8 Tryz.underlying53 infoI rfl .i64 .i64 k (by omega) (by omega)
  refine callsIn_of_wp Tryz.func180 rfl trivial ?_ rfl
  simp only [Tryz.ntmps180, List.size_toArray, List.length_cons, List.length_nil, Nat.reduceAdd, Nat.reduceSub, Array.replicate_succ, Array.replicate_zero, List.push_toArray, List.append_toArray, List.nil_append, List.cons_append]
  have ht := HT.out 0 W H0.out
  obtain ⟨hbx, As, Cs, hr1, _⟩ := ht
  obtain ⟨ad, rfl, hc0⟩ := hr1.at_ hk0
  rw [show ad.add 0 = ad by simp [Addr.add]] at hc0
  simp only [slis] at hc0
  clear hr1
  gi_wp2_with fail
  gi_loopw [11] (fun s11 wr => ∃ j : Nat, j ≤ m ∧ s11 = .int .i64 j ∧ J j wr) (fun s11 _ => m - (intOf s11).toNat)
  case atStart => exact ⟨0, Nat.zero_le _, rfl, H0.out⟩
  case round =>
    clear hbx hc0 H0
    obtain ⟨j, hj, rfl, hJ⟩ := hrel
    obtain ⟨w1, hw1⟩ : ∃ w1, w1 = wr := ⟨_, rfl⟩
    subst hw1
    have HJ := Lib.hid hJ
    clear hJ
    by_cases hlt : j < m
    · have ht := HT.out j w1 HJ.out
      have hbx := ht.1
      have HMX := Lib.hid ht.2
      clear ht
      have hbl := World.block_lt_of_cell? w1 _ hbx
      have hbx1 : (w1.alloc (.cells (madeCells #[.int .i64 0] k) TI)).cell? ⟨bx, 0, none⟩ = some (.slice (some ad) k cb) := (below_alloc w1 _).cell hbl |>.trans hbx
      have HST := Lib.hid (show ColIn k j G w1 (.int .i64 0) (w1.alloc (.cells (madeCells #[.int .i64 0] k) TI)) from ⟨0, Nat.zero_le _, rfl, (World.rowIs_made w1 (.int .i64 0) k TI).congr (fun r _ => by rw [if_neg (by omega)]), below_alloc _ _⟩)
      gi_wp2_with fail
      gi_loopw [19] (fun s19 wr' => ColIn k j G w1 s19 wr') (fun s19 _ => k - (intOf s19).toNat)
      case atStart => exact HST.out
      case round =>
        clear HST hbx1
        obtain ⟨i, hi, rfl, hrow, hb⟩ := hrel
        by_cases hlt' : i < k
        · obtain ⟨As', Cs', hr1, hr2⟩ := HMX.out.below hb
          obtain ⟨ad', e', hc1⟩ := hr1.at_ hlt'
          injection e' with e'
          subst e'
          simp only [slis] at hc1
          obtain ⟨ad2, hA2, hc2⟩ := (hr2 i hlt').at_ hlt
          simp only [i64s] at hc2
          rw [hA2] at hc1
          have f1 := hrow.frozen i
          have g1 := hrow.cell (i := i) hlt'
          have HS := Lib.hid (colIn_step hlt' hrow hb)
          clear hrow hb hr1 hr2 hA2
          gi_wp2_with fail
          exact ⟨HS.out, by simp [intOf]; omega⟩
        · obtain rfl : i = k := by omega
          have HX := Lib.hid (show ColX i G j w1.heap.size w1 wr from ⟨Nat.le_refl _, hrow.congr (fun r hr => by rw [if_pos hr])⟩)
          obtain ⟨fn, tmps, assign, body, hy, hR⟩ := HY.out j w1.heap.size w1 wr HJ.out hb hlt HX.out
          clear hrow hb
          gi_wp2_with fail
          refine hR.mono ?_
          rintro e W3 ⟨rfl, hJ3⟩
          have HJ3 := Lib.hid hJ3
          clear hJ3 hy hR HX
          gi_wp2_with fail
          exact ⟨⟨j + 1, hlt, by go_num, HJ3.out⟩, by simp [intOf]; omega⟩
    · obtain rfl : j = m := by omega
      gi_wp2_with fail
      go_end0
      exact ⟨⟨_, rfl⟩, HJ.out⟩
end Go.Proofs.YtgdgimknnjbieaaGreatDoor

namespace Go.Proofs.YtgdgimknnjbieaaGreatDoor
open Go.RowKit

theorem underI : Tryz.prog.underlying TIs = some (.slice TI) := Tryz.underlying53
theorem underM' : Tryz.prog.underlying TM = some (.slice TIs) := Tryz.underlying57

set_option maxRecDepth 100000 in
set_option maxHeartbeats 1000000 in
/-- Clone, of any numbers -/
theorem clone38 (b : Nat) (f : Nat → Int) (A : Option Addr) (n c : Nat) (hn : n ≤ 100000) (w : World) (hr : Rd b w (i64s f) A n) :
    Calls Tryz.prog 145 #[.slice A n c] w fun e w' => ∃ A' c', e = .returned (.slice A' n c') ∧ n ≤ c' ∧ (∀ b', b' < w.heap.size → Rd b' w' (i64s f) A' n) ∧ Below w.heap.size w w' := by
  obtain ⟨i0, hi, hz0, hz1, hz2⟩ := info_parts infoI
  rcases A with _ | ad
  · have h0 : n = 0 := by
      rcases Nat.eq_zero_or_pos n with h | h
      · exact h
      · obtain ⟨_, e, _⟩ := hr h
        cases e
    subst h0
    clear hr
    have hnl := Lib.run_eql_slice_nil (P := Tryz.prog) w TIs TI none 0 c 0 0 underI
    go_enter Tryz.func145, Tryz.ntmps145
    go_wp2_with fail
    go_ret
    exact ⟨none, 0, rfl, Nat.le_refl _, fun _ _ => Rd.zero, Below.refl _ _⟩
  · have HR := Lib.hid hr
    clear hr
    go_enter Tryz.func145, Tryz.ntmps145
    have hnl := Lib.run_eql_slice_nil (P := Tryz.prog) w TIs TI (some ad) n c 0 0 underI
    go_wp2_with (at_builtin; refine wpList_append_own _ rfl _ _ TIs rfl w.heap.size TI i0 (.int .i64 0) 1 8 underI hi hz0 hz1 hz2 rfl (by decide) _ 0 [] rfl (World.ownsRow_lit w #[] 0 (Nat.le_refl _) (Nat.zero_le _) rfl) ad n c ((List.range n).map (i64s f)) rfl (by simp) ?c1 ?c2 ?c3 ?c4 ?c5 ?_)
    case c1 => exact cells_rd (HR.out.below (below_alloc w _))
    case c2 =>
      intro u hu
      obtain ⟨j, _, rfl⟩ := List.mem_map.1 hu
      rfl
    case c3 => unfold maxLen; omega
    case c4 => omega
    case c5 => simp
    intro v' w1 hown hg _
    have hx : ∃ A' c', v' = .slice A' n c' ∧ n ≤ c' ∧ ∀ b', b' < w.heap.size → Rd b' w1 (i64s f) A' n := by
      rcases hown.2 with ⟨rfl, rfl⟩ | ⟨g, cap, cur, rfl, hgb, hh, hc, _, hs, ht⟩
      · exact ⟨none, 0, rfl, Nat.le_refl _, fun _ _ => Rd.zero⟩
      · refine ⟨_, cap, rfl, hc, fun b' hb' => ?_⟩
        obtain ⟨A2, c2, e2, _, h2⟩ := Rd.of_own (b := b') hown hb'
        injection e2 with e2
        subst e2
        exact h2
    obtain ⟨A', c', rfl, hcc, hrd⟩ := hx
    have HE := Lib.hid (And.intro hcc (And.intro hrd (((Below.refl _ w).alloc (Nat.le_refl _) _).grown hg (by simp) (fun q h => by simp [Value.ownBlock] at h; omega))))
    clear hown hg hrd hnl
    go_wp2_with fail
    go_ret
    exact ⟨A', c', rfl, HE.out⟩

/-- a matrix that is told -/
def MatTold (n : Nat) (F : Nat → Nat → Int) (Ls : Nat → Nat) (w : World) (v : Value) (w' : World) : Prop := ∃ A c, v = .slice A n c ∧ n ≤ c ∧ (∀ b, b < w.heap.size → Mx b w' F Ls A n) ∧ Below w.heap.size w w'
theorem MatTold.from {n : Nat} {F : Nat → Nat → Int} {Ls : Nat → Nat} {w w1 w' : World} {v : Value} (hb : Below w.heap.size w w1) (h : MatTold n F Ls w1 v w') : MatTold n F Ls w v w' := by
  obtain ⟨A, c, h1, h2, h3, h4⟩ := h
  exact ⟨A, c, h1, h2, fun b hb' => h3 b (Nat.lt_of_lt_of_le hb' hb.size), below_tr hb h4⟩
theorem MatTold.nil {F : Nat → Nat → Int} {Ls : Nat → Nat} {w w' : World} (h : Below w.heap.size w w') : MatTold 0 F Ls w nilS w' := ⟨none, 0, rfl, Nat.le_refl _, fun _ _ => Mx.zero, h⟩

/-- a matrix that is being built at block g: k of its n rows are laid -/
def Bld (g n : Nat) (F : Nat → Nat → Int) (Ls : Nat → Nat) (w : World) (k : Nat) (W : World) : Prop :=
  w.heap.size ≤ g ∧ Below w.heap.size w W ∧ ∃ (As : Nat → Option Addr) (Cs : Nat → Nat), W.rowIs g TIs n (fun r => if r < k then .slice (As r) (Ls r) (Cs r) else nilS) ∧ ∀ r, r < k → ∀ b, (b < w.heap.size ∨ b = g) → Rd b W (i64s (F r)) (As r) (Ls r)

theorem Rd.set_other {b g i : Nat} {w : World} {k : Nat → Value} {A : Option Addr} {n : Nat} (h : Rd b w k A n) (hg : Rd g w k A n) (v : Value) : Rd b (w.setCell ⟨g, i, none⟩ v) k A n := fun hn => by
  obtain ⟨ad, rfl, h1, h2, hc⟩ := h hn
  obtain ⟨ad', e, h3, _, _⟩ := hg hn
  injection e with e
  subst e
  refine ⟨ad, rfl, h1, by simpa [World.setCell] using h2, fun j hj => (World.cell?_of_block (Below.heap_setCell _ _ _ _ ?_)).trans (hc j hj)⟩
  rw [block_of_add]
  exact h3

theorem Bld.start (n : Nat) (F : Nat → Nat → Int) (Ls : Nat → Nat) (w : World) : Bld w.heap.size n F Ls w 0 (w.alloc (.cells (madeCells #[nilS] n) TIs)) :=
  ⟨Nat.le_refl _, below_alloc _ _, fun _ => none, fun _ => 0, (World.rowIs_made w nilS n TIs).congr (fun r _ => by rw [if_neg (by omega)]), fun r hr => absurd hr (by omega)⟩
theorem Bld.below {g n : Nat} {F : Nat → Nat → Int} {Ls : Nat → Nat} {w : World} {k : Nat} {W W' : World} (h : Bld g n F Ls w k W) (hb : Below W.heap.size W W') : Bld g n F Ls w k W' := by
  obtain ⟨h1, h2, As, Cs, h3, h4⟩ := h
  exact ⟨h1, below_tr h2 hb, As, Cs, h3.of_block (hb.block _ h3.lt), fun r hr b hb' => (h4 r hr b hb').below hb⟩
theorem Bld.step {g n : Nat} {F : Nat → Nat → Int} {Ls : Nat → Nat} {w : World} {k : Nat} {W : World} {A' : Option Addr} {c' : Nat} (h : Bld g n F Ls w k W) (hr : ∀ b, (b < w.heap.size ∨ b = g) → Rd b W (i64s (F k)) A' (Ls k)) :
    Bld g n F Ls w (k + 1) (W.setCell ⟨g, k, none⟩ (.slice A' (Ls k) c')) := by
  obtain ⟨h1, h2, As, Cs, h3, h4⟩ := h
  refine ⟨h1, h2.setCell (p := ⟨g, k, none⟩) h1 _, fun r => if r = k then A' else As r, fun r => if r = k then c' else Cs r, (h3.set k _).congr (fun r _ => ?_), fun r hr' b hb => ?_⟩
  · rcases Nat.lt_trichotomy r k with e | e | e
    · rw [if_neg (by omega), if_pos e, if_pos (by omega)]
      dsimp only
      rw [if_neg (by omega), if_neg (by omega)]
    · subst e
      rw [if_pos rfl, if_pos (by omega)]
      dsimp only
      rw [if_pos rfl, if_pos rfl]
    · rw [if_neg (by omega), if_neg (by omega), if_neg (by omega)]
  · by_cases e : r = k
    · subst e
      dsimp only
      rw [if_pos rfl]
      exact (hr b hb).set_other (hr g (Or.inr rfl)) _
    · dsimp only
      rw [if_neg e]
      exact (h4 r (by omega) b hb).set_other (h4 r (by omega) g (Or.inr rfl)) _
theorem Bld.cell {g n : Nat} {F : Nat → Nat → Int} {Ls : Nat → Nat} {w : World} {k : Nat} {W : World} (h : Bld g n F Ls w k W) {i : Nat} (hi : i < n) : ∃ v, W.cell? ⟨g, i, none⟩ = some v ∧ v.cells.size = 1 ∧ W.frozen? ⟨g, i, none⟩ = false := by
  obtain ⟨h1, h2, As, Cs, h3, h4⟩ := h
  refine ⟨_, h3.cell hi, ?_, h3.frozen i⟩
  split <;> rfl
theorem Bld.told {g n : Nat} {F : Nat → Nat → Int} {Ls : Nat → Nat} {w : World} {W : World} (h : Bld g n F Ls w n W) (c : Nat) (hc : n ≤ c) : MatTold n F Ls w (.slice (some ⟨g, 0, none⟩) n c) W := by
  obtain ⟨h1, h2, As, Cs, h3, h4⟩ := h
  exact ⟨_, c, rfl, hc, fun b hb => ⟨As, Cs, (Rd.of_row h3 (by omega) (Nat.le_refl _)).congr (fun r hr => by rw [if_pos hr]), fun r hr => h4 r hr b (Or.inl hb)⟩, h2⟩

set_option maxRecDepth 100000 in
set_option maxHeartbeats 1000000 in
theorem copied29 (b : Nat) (F : Nat → Nat → Int) (Ls : Nat → Nat) (A : Option Addr) (n c : Nat) (hn : n ≤ 1000) (hl : ∀ r, r < n → Ls r ≤ 100000) (w : World) (hr : Mx b w F Ls A n) :
    Calls Tryz.prog 99 #[.slice A n c] w fun e w' => ∃ v, e = .returned v ∧ MatTold n F Ls w v w' := by
  have hmk := run_make_row' (P := Tryz.prog) TM TIs nilS 24 underM' infoRow rfl .i64 .i64 n (by omega) (by omega)
  obtain ⟨As, Cs, hr1, hr2⟩ := hr
  have HR := Lib.hid hr1
  have HRS := Lib.hid hr2
  have HL := Lib.hid hl
  clear hr1 hr2 hl
  go_enter Tryz.func99, Tryz.ntmps99
  go_wp2_with fail
  go_loopw [11] (fun s11 wr => ∃ k : Nat, k ≤ n ∧ s11 = .int .i64 k ∧ Hid (Bld w.heap.size n F Ls w k wr)) (fun s11 _ => n - (intOf s11).toNat)
  case atStart => exact ⟨0, Nat.zero_le _, rfl, Lib.hid (Bld.start n F Ls w)⟩
  case round =>
    obtain ⟨k, hk, rfl, hb⟩ := hrel
    by_cases hlt : k < n
    · obtain ⟨ad, rfl, hcell⟩ := (HR.out.below hb.out.2.1).at_ hlt
      simp only [slis] at hcell
      have hsz := hb.out.2.2
      go_wp2_with fail
      refine (clone38 b (F k) (As k) (Ls k) (Cs k) (HL.out k hlt) _ ((HRS.out k hlt).below hb.out.2.1)).mono ?_
      rintro e w1 ⟨A', c', rfl, _, hrd, hb1⟩
      have hb2 := hb.out.below hb1
      have hgs : w.heap.size < wr.heap.size := by obtain ⟨_, _, h3, _⟩ := hsz; exact h3.lt
      have HS := Lib.hid (hb2.step (k := k) (A' := A') (c' := c') (fun b' hb' => hrd b' (by rcases hb' with h | h <;> omega)))
      obtain ⟨v0, g1, _, f1⟩ := hb2.cell hlt
      clear hb2 hrd hb1 hsz
      go_wp2_with fail
      exact ⟨⟨k + 1, hlt, by go_num, HS⟩, by simp [intOf]; omega⟩
    · obtain rfl : k = n := by omega
      go_wp2_with fail
      go_ret
      exact ⟨_, rfl, hb.out.told k (Nat.le_refl _)⟩
end Go.Proofs.YtgdgimknnjbieaaGreatDoor

namespace Go.Proofs.YtgdgimknnjbieaaGreatDoor
open Go.RowKit

theorem setCell_comm {w : World} {a c : Addr} (h : a.block ≠ c.block) (v u : Value) : (w.setCell a v).setCell c u = (w.setCell c u).setCell a v := by
  unfold World.setCell
  congr 1
  apply Array.ext_getElem?
  intro i
  simp only [Array.getElem?_modify]
  by_cases h1 : a.block = i <;> by_cases h2 : c.block = i <;> simp_all

/-- the identity's numbers -/
def idF (r c : Nat) : Int := if r = c then 1 else 0

/-- a row of the identity is laid -/
theorem Bld.unit {g n : Nat} {w : World} {k : Nat} {W : World} (h : Bld g n idF (fun _ => n) w k W) :
    Bld g n idF (fun _ => n) w (k + 1) (((W.alloc (.cells (madeCells #[.int .i64 0] n) TI)).setCell ⟨g, k, none⟩ (.slice (some ⟨W.heap.size, 0, none⟩) n n)).setCell ⟨W.heap.size, k, none⟩ (.int .i64 1)) := by
  have hg : g < W.heap.size := by obtain ⟨_, _, _, _, h3, _⟩ := h; exact h3.lt
  have hw : w.heap.size ≤ W.heap.size := h.2.1.size
  rw [setCell_comm (show (⟨g, k, none⟩ : Addr).block ≠ (⟨W.heap.size, k, none⟩ : Addr).block by simp; omega)]
  have hrow := (World.rowIs_made W (.int .i64 0) n TI).set k (.int .i64 1)
  refine (h.below ((below_alloc W (.cells (madeCells #[.int .i64 0] n) TI)).setCell (p := ⟨W.heap.size, k, none⟩) (Nat.le_refl _) (.int .i64 1))).step (fun b hb => ?_)
  refine (Rd.of_row hrow (by rcases hb with hb | hb <;> omega) (Nat.le_refl _)).congr (fun j _ => ?_)
  simp only [i64s, idF]
  by_cases e : j = k
  · subst e; simp
  · rw [if_neg e, if_neg (fun e' => e e'.symm)]

set_option maxRecDepth 100000 in
set_option maxHeartbeats 1000000 in
theorem identity_yes (n : Nat) (hs : side n) (w : World) :
    Calls Tryz.prog 58 #[.int .i64 n] w fun e w' => ∃ v, e = .returned v ∧ MatTold n idF (fun _ => n) w v w' := by
  have hn : n ≤ 20 := hs.2
  have hmk := run_make_row' (P := Tryz.prog) TM TIs nilS 24 underM' infoRow rfl .i64 .i64 n (by omega) (by omega)
  have hmk2 := run_make_row' (P := Tryz.prog) TIs TI (.int .i64 0) 8 underI infoI rfl .i64 .i64 n (by omega) (by omega)
  go_enter Tryz.func58, Tryz.ntmps58
  go_wp2_with fail
  refine (side28 n _).mono ?_
  rintro e w' ⟨t, rfl, ht, rfl⟩
  obtain rfl : t = true := ht.2 hs
  clear ht
  go_wp2_with fail
  go_loopw [12] (fun s12 wr => ∃ k : Nat, k ≤ n ∧ s12 = .int .i64 k ∧ Hid (Bld w.heap.size n idF (fun _ => n) w k wr)) (fun s12 _ => n - (intOf s12).toNat)
  case atStart => exact ⟨0, Nat.zero_le _, rfl, Lib.hid (Bld.start n _ _ w)⟩
  case round =>
    obtain ⟨k, hk, rfl, hb⟩ := hrel
    by_cases hlt : k < n
    · have HS := Lib.hid hb.out.unit
      have hb1 := hb.out.below (below_alloc wr (.cells (madeCells #[.int .i64 0] n) TI))
      obtain ⟨v0, g1, hv1, f1⟩ := hb1.cell hlt
      have hgl : w.heap.size < wr.heap.size := by obtain ⟨_, _, _, _, h3, _⟩ := hb.out; exact h3.lt
      have g2 : ((wr.alloc (.cells (madeCells #[.int .i64 0] n) TI)).setCell ⟨w.heap.size, k, none⟩ (.slice (some ⟨wr.heap.size, 0, none⟩) n n)).cell? ⟨w.heap.size, k, none⟩ = some (.slice (some ⟨wr.heap.size, 0, none⟩) n n) := World.cell?_setCell_same _ _ _ g1
      have hr0 := World.rowIs_made wr (.int .i64 0) n TI
      have hne : wr.heap.size ≠ (⟨w.heap.size, k, none⟩ : Addr).block := by simp; omega
      have hr1 : ((wr.alloc (.cells (madeCells #[.int .i64 0] n) TI)).setCell ⟨w.heap.size, k, none⟩ (.slice (some ⟨wr.heap.size, 0, none⟩) n n)).rowIs wr.heap.size TI n (fun _ => .int .i64 0) := hr0.setOther (a := ⟨w.heap.size, k, none⟩) hne _
      have g3 := hr1.cell hlt
      have f3 := hr1.frozen k
      have hEq := World.setCell_alloc_past (w := wr) (.cells (madeCells #[.int .i64 0] n) TI) w.heap.size k (.slice (some ⟨wr.heap.size, 0, none⟩) n n) hgl
      have hEq2 := World.setCell_alloc_at (w := wr.setCell ⟨w.heap.size, k, none⟩ (.slice (some ⟨wr.heap.size, 0, none⟩) n n)) (madeCells #[.int .i64 0] n) TI wr.heap.size k (.int .i64 1) (by simp [World.setCell])
      rw [hEq] at g2 g3 f3 HS
      rw [hEq2] at HS
      clear hb1 hr0 hr1 hb hEq hEq2
      go_wp2_with fail
      exact ⟨⟨k + 1, hlt, by go_num, HS⟩, by simp [intOf]; omega⟩
    · obtain rfl : k = n := by omega
      go_wp2_with fail
      go_ret
      exact ⟨_, rfl, hb.out.told k (Nat.le_refl _)⟩

/-- rows may be picked -/
def pickP (c n : Nat) (Ls : Nat → Nat) (F : Nat → Nat → Int) (m : Nat) (l : Nat → Int) : Prop := mayP c n Ls F ∧ side m ∧ ∀ r, r < m → 0 ≤ l r ∧ l r < n
/-- what Pick tells -/
def PickAny (c n : Nat) (Ls : Nat → Nat) (F : Nat → Nat → Int) (m : Nat) (l : Nat → Int) (w : World) (e : Ending) (w' : World) : Prop :=
  ∃ t v, e = .returned (.tuple #[v, .int .i64 (errOf t)]) ∧ (t = true ↔ pickP c n Ls F m l) ∧ MatTold (cond t m 0) (fun r => F (l r).toNat) (fun r => Ls (l r).toNat) w v w'
theorem PickAny.no {c n : Nat} {Ls : Nat → Nat} {F : Nat → Nat → Int} {m : Nat} {l : Nat → Int} {w w' : World} (h : ¬ pickP c n Ls F m l) (hb : Below w.heap.size w w') : PickAny c n Ls F m l w (.returned (.tuple #[nilS, .int .i64 1])) w' :=
  ⟨false, _, rfl, by simp [h], MatTold.nil hb⟩
/-- in Pick's loop: the rows themselves, not copied yet -/
def PickAt (As : Nat → Option Addr) (Ls Cs : Nat → Nat) (n m : Nat) (l : Nat → Int) (w : World) (s26 : Value) (wr : World) : Prop :=
  ∃ k : Nat, k ≤ m ∧ s26 = .int .i64 k ∧ (∀ r, r < k → 0 ≤ l r ∧ l r < n) ∧ wr.rowIs w.heap.size TIs m (fun r => if r < k then slis As Ls Cs (l r).toNat else nilS) ∧ Below w.heap.size w wr

theorem pickAt_step {As : Nat → Option Addr} {Ls Cs : Nat → Nat} {n m : Nat} {l : Nat → Int} {w wr : World} {k : Nat} (hk : k < m) (hall : ∀ r, r < k → 0 ≤ l r ∧ l r < n) (h0 : 0 ≤ l k) (h1 : l k < n)
    (hrow : wr.rowIs w.heap.size TIs m (fun r => if r < k then slis As Ls Cs (l r).toNat else nilS)) (hb : Below w.heap.size w wr) :
    PickAt As Ls Cs n m l w (.int .i64 (k + 1 : Nat)) (wr.setCell ⟨w.heap.size, k, none⟩ (slis As Ls Cs (l k).toNat)) := by
  refine ⟨k + 1, hk, rfl, fun r hr => (Nat.lt_succ_iff_lt_or_eq.1 hr).elim (fun h => hall r h) (fun h => by rw [h]; exact ⟨h0, h1⟩), (hrow.set k _).congr (fun r _ => ?_), hb.setCell (p := ⟨w.heap.size, k, none⟩) (Nat.le_refl _) _⟩
  rcases Nat.lt_trichotomy r k with h | h | h
  · rw [if_neg (by omega), if_pos h, if_pos (by omega)]
  · subst h; rw [if_pos rfl, if_pos (by omega)]
  · rw [if_neg (by omega), if_neg (by omega), if_neg (by omega)]

set_option maxRecDepth 100000 in
set_option maxHeartbeats 2000000 in
theorem pick12 (b wd c : Nat) (hk : Kind wd c) (F : Nat → Nat → Int) (Ls : Nat → Nat) (A B : Option Addr) (n m ca cb : Nat) (l : Nat → Int) (w : World) (hc : w.cell? ⟨b, 0, none⟩ = some (.int .i64 wd)) (hr : Mx b w F Ls A n) (hl : Rd b w (i64s l) B m) :
    Calls Tryz.prog 59 #[.pointer (some ⟨b, 0, none⟩), .slice A n ca, .slice B m cb] w (PickAny c n Ls F m l w) := by
  have hbw : b < w.heap.size := World.block_lt_of_cell? w _ hc
  have HM := Lib.hid hr
  obtain ⟨As, Cs, hr1, hr2⟩ := hr
  have HR := Lib.hid hr1
  have HRS := Lib.hid hr2
  have HL := Lib.hid hl
  clear hr1 hr2 hl
  by_cases hm : m ≤ 20
  · have hmk := run_make_row' (P := Tryz.prog) TM TIs nilS 24 underM' infoRow rfl .i64 .i64 m (by omega) (by omega)
    go_enter Tryz.func59, Tryz.ntmps59
    go_wp2_with fail
    refine (may16 b wd c hk F Ls A n ca _ hc HM.out).mono ?_
    rintro e w' ⟨t, rfl, ht, rfl⟩
    cases t
    · have HE := Lib.hid (PickAny.no (c := c) (n := n) (Ls := Ls) (F := F) (m := m) (l := l) (w := w) (w' := w) (fun h => by have := ht.2 h.1; cases this) (Below.refl _ _))
      clear ht
      go_wp2_with fail
      go_ret2
      exact HE.out
    have HMAY := Lib.hid (ht.1 rfl)
    clear ht
    go_wp2_with fail
    refine (side28 m _).mono ?_
    rintro e w' ⟨t, rfl, ht, rfl⟩
    cases t
    · have HE := Lib.hid (PickAny.no (c := c) (n := n) (Ls := Ls) (F := F) (m := m) (l := l) (w := w) (w' := w) (fun h => by have := ht.2 h.2.1; cases this) (Below.refl _ _))
      clear ht
      go_wp2_with fail
      go_ret2
      exact HE.out
    have HSIDE := Lib.hid (ht.1 rfl)
    clear ht
    have hn20 : n ≤ 20 := HMAY.out.1.2
    go_wp2_with fail
    go_loopw [26] (fun s26 wr => PickAt As Ls Cs n m l w s26 wr) (fun s26 _ => m - (intOf s26).toNat)
    case atStart => exact ⟨0, Nat.zero_le _, rfl, fun r hr => absurd hr (by omega), (World.rowIs_made w nilS m TIs).congr (fun r _ => by rw [if_neg (by omega)]), below_alloc _ _⟩
    case round =>
      obtain ⟨k, hk', rfl, hall, hrow, hb⟩ := hrel
      by_cases hlt : k < m
      · obtain ⟨ad, rfl, hcell⟩ := (HL.out.below hb).at_ hlt
        simp only [i64s] at hcell
        obtain ⟨x, hx⟩ : ∃ x, l k = x := ⟨_, rfl⟩
        have HX := Lib.hid hx
        by_cases hin : 0 ≤ x ∧ x < n
        · have h0 := hin.1
          have h1 := hin.2
          have hd0 : decide (x < 0) = false := by simp; omega
          have hd1 : decide ((n : Int) ≤ x) = false := by simp; omega
          have HS := Lib.hid (pickAt_step hlt hall (by rw [hx]; exact h0) (by rw [hx]; exact h1) hrow hb)
          rw [hx] at hcell HS
          obtain ⟨y, rfl⟩ : ∃ y : Nat, x = (y : Int) := ⟨x.toNat, by omega⟩
          obtain ⟨ad2, rfl, hc2⟩ := (HR.out.below hb).at_ (show y < n by omega)
          simp only [slis] at hc2
          have f1 := hrow.frozen k
          have g1 := hrow.cell hlt
          rw [if_neg (by omega)] at g1
          simp only [slis, Int.toNat_natCast] at HS
          have hyn : y < n := by omega
          clear hrow hb hall hin hx
          go_wp2_with fail
          exact ⟨HS.out, by simp [intOf]; omega⟩
        · have HE := Lib.hid (PickAny.no (c := c) (n := n) (Ls := Ls) (F := F) (m := m) (l := l) (w := w) (w' := wr) (fun h => hin (by have := h.2.2 k hlt; rwa [hx] at this)) hb)
          rw [hx] at hcell
          clear hrow hb hall hx
          by_cases h0 : 0 ≤ x
          · have hd0 : decide (x < 0) = false := by simp; omega
            have hd1 : decide ((n : Int) ≤ x) = true := by simp; omega
            clear hin
            go_wp2_with fail
            go_ret2
            exact HE.out
          · have hd0 : decide (x < 0) = true := by simp; omega
            clear hin
            go_wp2_with fail
            go_ret2
            exact HE.out
      · obtain rfl : k = m := by omega
        have HMX : Hid (Mx b wr (fun r => F (l r).toNat) (fun r => Ls (l r).toNat) (some ⟨w.heap.size, 0, none⟩) k) := Lib.hid ⟨fun r => As (l r).toNat, fun r => Cs (l r).toNat,
          (Rd.of_row hrow (by omega) (Nat.le_refl _)).congr (fun r hr => by rw [if_pos hr]), fun r hr => (HRS.out (l r).toNat (by have := hall r hr; omega)).below hb⟩
        have HB := Lib.hid hb
        have HALL := Lib.hid hall
        clear hrow hb hall
        go_wp2_with fail
        refine (copied29 b _ _ _ k k (by omega) (fun r hr => ?_) _ HMX.out).mono ?_
        · have h1 := HALL.out r hr
          have h2 := HMAY.out
          have h3 := (h2.2.2 (l r).toNat (by omega)).1
          have h4 := h2.2.1.2
          omega
        rintro e w2 ⟨v, rfl, hv⟩
        have HE := Lib.hid (show PickAny c n Ls F k l w (.returned (.tuple #[v, .int .i64 0])) w2 from ⟨true, v, rfl, by simp [pickP, HMAY.out, HSIDE.out]; exact HALL.out, hv.from HB.out⟩)
        clear hv
        go_wp2_with fail
        go_ret2
        exact HE.out
  · go_enter Tryz.func59, Tryz.ntmps59
    have HE := Lib.hid (PickAny.no (c := c) (n := n) (Ls := Ls) (F := F) (m := m) (l := l) (w := w) (w' := w) (fun h => hm h.2.1.2) (Below.refl _ _))
    go_wp2_with fail
    refine (may16 b wd c hk F Ls A n ca _ hc HM.out).mono ?_
    rintro e w' ⟨t, rfl, ht, rfl⟩
    cases t
    · clear ht
      go_wp2_with fail
      go_ret2
      exact HE.out
    clear ht
    go_wp2_with fail
    refine (side28 m _).mono ?_
    rintro e w' ⟨t, rfl, ht, rfl⟩
    obtain rfl : t = false := by
      cases t
      · rfl
      · exact absurd (ht.1 rfl).2 hm
    clear ht
    go_wp2_with fail
    go_ret2
    exact HE.out
end Go.Proofs.YtgdgimknnjbieaaGreatDoor

namespace Go.Proofs.YtgdgimknnjbieaaGreatDoor
open Go.RowKit

set_option maxRecDepth 100000 in
set_option maxHeartbeats 1000000 in
/-- Grow, of nothing -/
theorem grow39 (N : Nat) (h0 : 0 < N) (hN : N ≤ 1000) (w : World) :
    Calls Tryz.prog 146 #[nilS, .int .i64 N] w fun e w' => ∃ v, e = .returned v ∧ w'.ownsRow w.heap.size TIs 1 v 0 [] ∧ Below w.heap.size w w' := by
  obtain ⟨i0, hi, hz0, hz1, hz2⟩ := info_parts infoRow
  have hrun := Lib.run_append_nil_zeros (P := Tryz.prog) w TM TI TM TIs i0 nilS .i64 .i64 underM' Tryz.underlying3 hi hz0 N h0 (by omega) (by omega) (by rw [hz2]; omega)
  have hge := grownCap_ge w N 0 TIs
  have hle := grownCap_le_maxLen w N 0 TIs (by unfold maxLen; omega)
  obtain ⟨c, hc⟩ : ∃ c, grownCap w N 0 TIs = c := ⟨_, rfl⟩
  obtain ⟨cur, hcur⟩ : ∃ cur, Builtin.zeroCells nilS.cells N ++ Builtin.zeroCells nilS.cells (grownCap w N 0 TIs - N) = cur := ⟨_, rfl⟩
  have hsz : cur.size = c := by
    rw [← hcur, ← hc, Array.size_append, size_zeroCells, size_zeroCells]
    simp [Value.cells]
    omega
  rw [hcur, hc] at hrun
  rw [hc] at hge hle
  have HE : Hid ((w.drew.alloc (.cells cur TIs)).ownsRow w.heap.size TIs 1 (.slice (some ⟨w.heap.size, 0, none⟩) 0 c) 0 [] ∧ Below w.heap.size w (w.drew.alloc (.cells cur TIs))) :=
    Lib.hid ⟨⟨rfl, Or.inr ⟨w.heap.size, c, cur, rfl, Nat.le_refl _, World.alloc_heap_new w.drew _, Nat.zero_le _, hle, by rw [hsz, Nat.mul_one], rfl⟩⟩, (Below.refl _ w).drew.alloc (Nat.le_refl _) _⟩
  clear hcur hc
  have HRUN := Lib.hid hrun
  clear hrun
  go_enter Tryz.func146, Tryz.ntmps146
  go_wp2_with (at_builtin; refine Lib.wpList_append_run _ rfl _ _ _ _ rfl _ _ rfl rfl _ _ HRUN.out ?_)
  go_ret
  exact ⟨_, rfl, HE.out⟩

/-- two rows of values, one behind the other -/
def joinV (n : Nat) (K L : Nat → Value) (r : Nat) : Value := if r < n then K r else L (r - n)
theorem joinV_all (n m : Nat) (K L : Nat → Value) : (List.range (n + m)).map (joinV n K L) = (List.range n).map K ++ (List.range m).map L := by
  rw [List.range_add, List.map_append, List.map_map]
  congr 1
  · exact List.map_congr_left (fun r hr => by simp only [joinV]; rw [if_pos (List.mem_range.1 hr)])
  · exact List.map_congr_left (fun r _ => by simp only [joinV, Function.comp]; rw [if_neg (by omega), Nat.add_sub_cancel_left])
theorem one_slis (As : Nat → Option Addr) (Ls Cs : Nat → Nat) (j : Nat) : (slis As Ls Cs j).oneCell' = true := rfl

/-- in Concat's second loop -/
def CatAt (n k : Nat) (K L : Nat → Value) (w0 : World) (s6 s27 : Value) (wr : World) : Prop :=
  Below w0.heap.size w0 wr ∧ ((s27 = .int .i64 0 ∧ wr.ownsRow w0.heap.size TIs 1 s6 0 []) ∨ (s27 = .int .i64 1 ∧ wr.ownsRow w0.heap.size TIs 1 s6 n ((List.range n).map K)) ∨ (s27 = .int .i64 2 ∧ wr.ownsRow w0.heap.size TIs 1 s6 (n + k) ((List.range n).map K ++ (List.range k).map L)))

set_option maxRecDepth 100000 in
set_option maxHeartbeats 2000000 in
theorem concat30 (b : Nat) (As Bs : Nat → Option Addr) (La Ca Lb Cb : Nat → Nat) (ad ad' : Addr) (n k ca cb g : Nat) (hn : n ≤ 100) (hk : k ≤ 100) (hnk : 0 < n + k) (w : World) (hb : b < w.heap.size) (h1 : Rd b w (slis As La Ca) (some ad) n) (h2 : Rd b w (slis Bs Lb Cb) (some ad') k)
    (c0 : w.cell? ⟨g, 0, none⟩ = some (.slice (some ad) n ca)) (c1 : w.cell? ⟨g, 1, none⟩ = some (.slice (some ad') k cb)) :
    Calls Tryz.prog 100 #[.slice (some ⟨g, 0, none⟩) 2 2] w fun e w' => ∃ A c, e = .returned (.slice A (n + k) c) ∧ Rd b w' (joinV n (slis As La Ca) (slis Bs Lb Cb)) A (n + k) ∧ Below w.heap.size w w' := by
  obtain ⟨i0, hi, hz0, hz1, hz2⟩ := info_parts infoRow
  have H1 := Lib.hid h1
  have H2 := Lib.hid h2
  have hgl := World.block_lt_of_cell? w _ c0
  clear h1 h2
  go_enter Tryz.func100, Tryz.ntmps100
  go_wp2_with fail
  go_loop [3, 11] (fun s3 s11 => (s11 = .int .i64 0 ∧ s3 = .int .i64 0) ∨ (s11 = .int .i64 1 ∧ s3 = .int .i64 n) ∨ (s11 = .int .i64 2 ∧ s3 = .int .i64 (n + k : Nat))) (fun _ s11 => 2 - (intOf s11).toNat)
  case atStart => exact Or.inl ⟨rfl, rfl⟩
  case round =>
    rcases hrel with ⟨rfl, rfl⟩ | ⟨rfl, rfl⟩ | ⟨rfl, rfl⟩
    · have hd : decide ((n : Int) < 0) = false := by simp
      go_wp2_with fail
      exact ⟨Or.inr (Or.inl ⟨by go_num, by go_num⟩), by simp [intOf]⟩
    · have hd : decide ((n : Int) + (k : Int) < 0) = false := by simp; omega
      go_wp2_with fail
      exact ⟨Or.inr (Or.inr ⟨by go_num, by go_num⟩), by simp [intOf]⟩
    · go_wp2_with fail
      refine (grow39 (n + k) hnk (by omega) _).mono ?_
      rintro e w1 ⟨v, rfl, hown, hb1⟩
      have HST := Lib.hid (show CatAt n k (slis As La Ca) (slis Bs Lb Cb) w v (.int .i64 0) w1 from ⟨hb1, Or.inl ⟨rfl, hown⟩⟩)
      clear hown hb1
      go_wp2_with fail
      go_loopw [6, 27] (fun s6 s27 wr => CatAt n k (slis As La Ca) (slis Bs Lb Cb) w s6 s27 wr) (fun _ s27 _ => 2 - (intOf s27).toNat)
      case atStart => exact HST.out
      case round =>
        clear HST
        obtain ⟨hbel, hrel⟩ := hrel
        have HBEL := Lib.hid hbel
        have d0 : wr.cell? ⟨g, 0, none⟩ = some (.slice (some ad) n ca) := (hbel.cell hgl).trans c0
        have d1 : wr.cell? ⟨g, 1, none⟩ = some (.slice (some ad') k cb) := (hbel.cell hgl).trans c1
        have hsz := hbel.size
        clear hbel
        rcases hrel with ⟨rfl, hown⟩ | ⟨rfl, hown⟩ | ⟨rfl, hown⟩
        · have HO := Lib.hid hown
          clear hown
          go_wp2_with (at_builtin; refine append_rd _ rfl _ _ TM rfl w.heap.size TIs i0 nilS 24 underM' hi hz0 hz1 hz2 rfl _ _ _ rfl HO.out b _ _ _ _ rfl (fun h => by cases h) (H1.out.below HBEL.out) (one_slis _ _ _) (by unfold maxLen; omega) (by omega) hsz ?_)
          intro v' w2 hown2 hgr
          have HS := Lib.hid (show CatAt n k (slis As La Ca) (slis Bs Lb Cb) w v' (.int .i64 1) w2 from ⟨HBEL.out.grown hgr hsz (fun q hq => (HO.out.lt q hq).1), Or.inr (Or.inl ⟨rfl, hown2⟩)⟩)
          clear hown2 hgr
          go_wp2_with fail
          exact ⟨HS.out, by simp [intOf]⟩
        · have HO := Lib.hid hown
          clear hown
          go_wp2_with (at_builtin; refine append_rd _ rfl _ _ TM rfl w.heap.size TIs i0 nilS 24 underM' hi hz0 hz1 hz2 rfl _ _ _ rfl HO.out b _ _ _ _ rfl (fun h => by cases h) (H2.out.below HBEL.out) (one_slis _ _ _) (by unfold maxLen; omega) (by omega) hsz ?_)
          intro v' w2 hown2 hgr
          have HS := Lib.hid (show CatAt n k (slis As La Ca) (slis Bs Lb Cb) w v' (.int .i64 2) w2 from ⟨HBEL.out.grown hgr hsz (fun q hq => (HO.out.lt q hq).1), Or.inr (Or.inr ⟨rfl, hown2⟩)⟩)
          clear hown2 hgr
          go_wp2_with fail
          exact ⟨HS.out, by simp [intOf]⟩
        · rw [← joinV_all] at hown
          obtain ⟨A', c', rfl, _, hrd⟩ := Rd.of_own hown hb
          have HRD := Lib.hid hrd
          clear hown hrd
          go_wp2_with fail
          go_ret
          exact ⟨A', c', rfl, HRD.out, HBEL.out⟩

theorem may_yes {g : Nat} (b wd c : Nat) (hk : Kind wd c) (F : Nat → Nat → Int) (Ls : Nat → Nat) (A : Option Addr) (n cap : Nat) (w : World) (hc : w.cell? ⟨b, 0, none⟩ = some (.int .i64 wd)) (hr : Mx g w F Ls A n) (h : mayP c n Ls F) :
    Calls Tryz.prog 97 #[.pointer (some ⟨b, 0, none⟩), .slice A n cap] w fun e w' => e = .returned (.bool true) ∧ w = w' :=
  (may16 b wd c hk F Ls A n cap w hc hr).mono fun e w' ⟨t, he, ht, hw⟩ => ⟨by rw [he, ht.2 h], hw⟩
theorem may_no {g : Nat} (b wd c : Nat) (hk : Kind wd c) (F : Nat → Nat → Int) (Ls : Nat → Nat) (A : Option Addr) (n cap : Nat) (w : World) (hc : w.cell? ⟨b, 0, none⟩ = some (.int .i64 wd)) (hr : Mx g w F Ls A n) (h : ¬ mayP c n Ls F) :
    Calls Tryz.prog 97 #[.pointer (some ⟨b, 0, none⟩), .slice A n cap] w fun e w' => e = .returned (.bool false) ∧ w = w' :=
  (may16 b wd c hk F Ls A n cap w hc hr).mono fun e w' ⟨t, he, ht, hw⟩ => ⟨by
    cases t
    · exact he
    · exact absurd (ht.1 rfl) h, hw⟩

/-- rows may be joined -/
def joinP (c n : Nat) (La : Nat → Nat) (F : Nat → Nat → Int) (k : Nat) (Lb : Nat → Nat) (G : Nat → Nat → Int) : Prop := mayP c n La F ∧ mayP c k Lb G ∧ La 0 = Lb 0 ∧ n + k ≤ 20
/-- two matrices' rows, one behind the other -/
def joinF (n : Nat) (F G : Nat → Nat → Int) (r : Nat) : Nat → Int := if r < n then F r else G (r - n)
def joinL (n : Nat) (La Lb : Nat → Nat) (r : Nat) : Nat := if r < n then La r else Lb (r - n)
/-- what Join tells -/
def JoinAny (c n : Nat) (La : Nat → Nat) (F : Nat → Nat → Int) (k : Nat) (Lb : Nat → Nat) (G : Nat → Nat → Int) (w : World) (e : Ending) (w' : World) : Prop :=
  ∃ t v, e = .returned (.tuple #[v, .int .i64 (errOf t)]) ∧ (t = true ↔ joinP c n La F k Lb G) ∧ MatTold (cond t (n + k) 0) (joinF n F G) (joinL n La Lb) w v w'
theorem JoinAny.no {c n : Nat} {La : Nat → Nat} {F : Nat → Nat → Int} {k : Nat} {Lb : Nat → Nat} {G : Nat → Nat → Int} {w w' : World} (h : ¬ joinP c n La F k Lb G) (hb : Below w.heap.size w w') : JoinAny c n La F k Lb G w (.returned (.tuple #[nilS, .int .i64 1])) w' :=
  ⟨false, _, rfl, by simp [h], MatTold.nil hb⟩

theorem side_yes (n : Nat) (h : side n) (w : World) : Calls Tryz.prog 98 #[.int .i64 n] w fun e w' => e = .returned (.bool true) ∧ w = w' :=
  (side28 n w).mono fun e w' ⟨t, he, ht, hw⟩ => ⟨by rw [he, ht.2 h], hw⟩
theorem side_no (n : Nat) (h : ¬ side n) (w : World) : Calls Tryz.prog 98 #[.int .i64 n] w fun e w' => e = .returned (.bool false) ∧ w = w' :=
  (side28 n w).mono fun e w' ⟨t, he, ht, hw⟩ => ⟨by
    cases t
    · exact he
    · exact absurd (ht.1 rfl) h, hw⟩

set_option maxRecDepth 100000 in
set_option maxHeartbeats 4000000 in
theorem join_apart (b g wd c : Nat) (hk : Kind wd c) (F G : Nat → Nat → Int) (La Lb : Nat → Nat) (A B : Option Addr) (n k ca cb : Nat) (w : World) (hc : w.cell? ⟨b, 0, none⟩ = some (.int .i64 wd)) (hbw : g < w.heap.size) (ha : Mx g w F La A n) (hb : Mx g w G Lb B k) :
    Calls Tryz.prog 57 #[.pointer (some ⟨b, 0, none⟩), .slice A n ca, .slice B k cb] w (JoinAny c n La F k Lb G w) := by
  have HA := Lib.hid ha
  have HB := Lib.hid hb
  by_cases h1 : mayP c n La F
  · by_cases h2 : mayP c k Lb G
    · have hn1 := h1.1.1
      have hn2 := h1.1.2
      have hk1 := h2.1.1
      have hk2 := h2.1.2
      have H1 := Lib.hid h1
      have H2 := Lib.hid h2
      obtain ⟨As, Ca, ra, ra2⟩ := ha
      obtain ⟨Bs, Cb, rb, rb2⟩ := hb
      obtain ⟨ad, rfl, hc1⟩ := ra.at_ (show 0 < n by omega)
      obtain ⟨ad', rfl, hc2⟩ := rb.at_ (show 0 < k by omega)
      rw [show ad.add 0 = ad by simp [Addr.add]] at hc1
      rw [show ad'.add 0 = ad' by simp [Addr.add]] at hc2
      simp only [slis] at hc1 hc2
      have RA := Lib.hid ra
      have RA2 := Lib.hid ra2
      have RB := Lib.hid rb
      have RB2 := Lib.hid rb2
      have hn0 : (0 : Int) < (n : Int) := by omega
      have hk0 : (0 : Int) < (k : Int) := by omega
      clear ra ra2 rb rb2
      by_cases h3 : La 0 = Lb 0
      · have hne : (((La 0 : Nat) : Int) != ((Lb 0 : Nat) : Int)) = false := by simp [h3]
        have H3 := Lib.hid h3
        by_cases h4 : n + k ≤ 20
        · have H4 := Lib.hid (show side (n + k) from ⟨by omega, h4⟩)
          clear h1 h2 h3
          go_enter Tryz.func57, Tryz.ntmps57
          go_wp2_with fail
          go_quiet (first
            | (go_at_call_of 97 (Value.slice (some ad) n ca); exact quiet_same (may_yes b wd c hk F La (some ad) n ca _ hc (HA.out.below (below_drewN' _ _)) H1.out))
            | (go_at_call_of 97 (Value.slice (some ad') k cb); exact quiet_same (may_yes b wd c hk G Lb (some ad') k cb _ hc (HB.out.below (below_drewN' _ _)) H2.out))
            | (go_at_call 98; exact quiet_same (side_yes (n + k) H4.out _)))
          have HBQ := Lib.hid (below_drewN' w nq)
          generalize w.drewN nq = w1 at *
          clear HA HB
          have hrow := World.rowIs_alloc w1 #[.slice (some ad) n ca, .slice (some ad') k cb] TM (fun j => if j = 0 then .slice (some ad) n ca else .slice (some ad') k cb) (fun i hi => by
            simp at hi
            match i, hi with
            | 0, _ => rfl
            | 1, _ => rfl)
          have e0 : (w1.alloc (.cells #[.slice (some ad) n ca, .slice (some ad') k cb] TM)).cell? ⟨w1.heap.size, 0, none⟩ = some (.slice (some ad) n ca) := hrow.cell (i := 0) (by simp)
          have e1 : (w1.alloc (.cells #[.slice (some ad) n ca, .slice (some ad') k cb] TM)).cell? ⟨w1.heap.size, 1, none⟩ = some (.slice (some ad') k cb) := hrow.cell (i := 1) (by simp)
          have HB2 := Lib.hid (below_tr HBQ.out (below_alloc w1 (.cells #[.slice (some ad) n ca, .slice (some ad') k cb] TM)))
          clear hrow
          go_wp2_with fail
          refine (concat30 g As Bs La Ca Lb Cb ad ad' n k ca cb w1.heap.size (by omega) (by omega) (by omega) _ (Nat.lt_of_lt_of_le hbw HB2.out.size) (RA.out.below HB2.out) (RB.out.below HB2.out) e0 e1).mono ?_
          rintro e w2 ⟨A', c', rfl, hrd, hb2⟩
          have hB3 := below_tr HB2.out hb2
          have HB3 := Lib.hid hB3
          have HMX : Hid (Mx g w2 (joinF n F G) (joinL n La Lb) A' (n + k)) := Lib.hid ⟨fun r => if r < n then As r else Bs (r - n), fun r => if r < n then Ca r else Cb (r - n), hrd.congr (fun r _ => by
              simp only [joinV, slis, joinL]
              split <;> rfl), fun r hr => by
              simp only [joinF, joinL]
              by_cases hrn : r < n
              · rw [if_pos hrn, if_pos hrn, if_pos hrn]; exact (RA2.out r hrn).below hB3
              · rw [if_neg hrn, if_neg hrn, if_neg hrn]; exact (RB2.out (r - n) (by omega)).below hB3⟩
          clear hrd hb2 hB3 e0 e1
          go_wp2_with fail
          refine (copied29 g _ _ A' (n + k) c' (by omega) (fun r hr => ?_) _ HMX.out).mono ?_
          · have g1 := H1.out
            have g2 := H2.out
            simp only [joinL]
            split
            · rename_i hrn
              have := (g1.2.2 r hrn).1
              have := g1.2.1.2
              omega
            · have := (g2.2.2 (r - n) (by omega)).1
              have := g2.2.1.2
              omega
          rintro e w3 ⟨v, rfl, hv⟩
          have HE := Lib.hid (show JoinAny c n La F k Lb G w (.returned (.tuple #[v, .int .i64 0])) w3 from ⟨true, v, rfl, by simp [joinP, H1.out, H2.out, H3.out, h4], hv.from HB3.out⟩)
          clear hv
          go_wp2_with fail
          go_ret2
          exact HE.out
        · have HE := Lib.hid (fun q => JoinAny.no (c := c) (n := n) (La := La) (F := F) (k := k) (Lb := Lb) (G := G) (w := w) (w' := w.drewN q) (fun h => h4 h.2.2.2) (below_drewN' _ _))
          have H4 := Lib.hid (show ¬ side (n + k) from fun h => h4 h.2)
          clear h1 h2 h3
          go_enter Tryz.func57, Tryz.ntmps57
          go_wp2_with fail
          go_quiet (first
            | (go_at_call_of 97 (Value.slice (some ad) n ca); exact quiet_same (may_yes b wd c hk F La (some ad) n ca _ hc (HA.out.below (below_drewN' _ _)) H1.out))
            | (go_at_call_of 97 (Value.slice (some ad') k cb); exact quiet_same (may_yes b wd c hk G Lb (some ad') k cb _ hc (HB.out.below (below_drewN' _ _)) H2.out))
            | (go_at_call 98; exact quiet_same (side_no (n + k) H4.out _)))
          go_wp2_with fail
          go_ret2
          exact HE.out _
      · have HE := Lib.hid (fun q => JoinAny.no (c := c) (n := n) (La := La) (F := F) (k := k) (Lb := Lb) (G := G) (w := w) (w' := w.drewN q) (fun h => h3 h.2.2.1) (below_drewN' _ _))
        have hne : (((La 0 : Nat) : Int) != ((Lb 0 : Nat) : Int)) = true := by simp; omega
        clear h1 h2 h3
        go_enter Tryz.func57, Tryz.ntmps57
        go_wp2_with fail
        go_quiet (first
          | (go_at_call_of 97 (Value.slice (some ad) n ca); exact quiet_same (may_yes b wd c hk F La (some ad) n ca _ hc (HA.out.below (below_drewN' _ _)) H1.out))
          | (go_at_call_of 97 (Value.slice (some ad') k cb); exact quiet_same (may_yes b wd c hk G Lb (some ad') k cb _ hc (HB.out.below (below_drewN' _ _)) H2.out)))
        go_wp2_with fail
        go_ret2
        exact HE.out _
    · have HE := Lib.hid (fun q => JoinAny.no (c := c) (n := n) (La := La) (F := F) (k := k) (Lb := Lb) (G := G) (w := w) (w' := w.drewN q) (fun h => h2 h.2.1) (below_drewN' _ _))
      have H1 := Lib.hid h1
      have H2 := Lib.hid h2
      clear ha hb h1 h2
      go_enter Tryz.func57, Tryz.ntmps57
      go_wp2_with fail
      go_quiet (first
        | (go_at_call_of 97 (Value.slice A n ca); exact quiet_same (may_yes b wd c hk F La A n ca _ hc (HA.out.below (below_drewN' _ _)) H1.out))
        | (go_at_call_of 97 (Value.slice B k cb); exact quiet_same (may_no b wd c hk G Lb B k cb _ hc (HB.out.below (below_drewN' _ _)) H2.out)))
      go_wp2_with fail
      go_ret2
      exact HE.out _
  · have HE := Lib.hid (fun q => JoinAny.no (c := c) (n := n) (La := La) (F := F) (k := k) (Lb := Lb) (G := G) (w := w) (w' := w.drewN q) (fun h => h1 h.1) (below_drewN' _ _))
    have H1 := Lib.hid h1
    clear ha hb h1
    go_enter Tryz.func57, Tryz.ntmps57
    go_wp2_with fail
    go_quiet ((go_at_call 97; exact quiet_same (may_no b wd c hk F La A n ca _ hc (HA.out.below (below_drewN' _ _)) H1.out)))
    go_wp2_with fail
    go_ret2
    exact HE.out _

/-- what Apply tells -/
def AppAny (p b wd n : Nat) (La : Nat → Nat) (F : Nat → Nat → Int) (m : Nat) (l : Nat → Int) (w : World) (e : Ending) (w' : World) : Prop :=
  ∃ t A c, e = .returned (.tuple #[.slice A (cond t n 0) c, .int .i64 (errOf t)]) ∧ (t = true ↔ mayP (M.ord p) n La F ∧ La 0 = m ∧ allIn (M.ord p) l m) ∧ Rd b w' (i64s (fun r => (dotN p (F r) l m : Nat))) A (cond t n 0) ∧ Fld p b wd w' ∧ Turned b w w'
theorem AppAny.no {p b wd n : Nat} {La : Nat → Nat} {F : Nat → Nat → Int} {m : Nat} {l : Nat → Int} {w : World} (hf : Fld p b wd w) (h : ¬ (mayP (M.ord p) n La F ∧ La 0 = m ∧ allIn (M.ord p) l m)) : AppAny p b wd n La F m l w (.returned (.tuple #[nilS, .int .i64 1])) w :=
  ⟨false, none, 0, rfl, by simp [h], Rd.zero, hf, Turned.refl _ _⟩

theorem rowIs_kind {w : World} {g t t' n n' : Nat} {k k' : Nat → Value} (h : w.rowIs g t n k) (h' : w.rowIs g t' n' k') : t = t' := by
  obtain ⟨c, h1, _⟩ := h
  obtain ⟨c', h2, _⟩ := h'
  rw [h1] at h2
  injection h2 with h2
  injection h2
/-- a store into a row of another kind leaves the field -/
theorem Fld.setRow {p b wd g m i : Nat} {w : World} {k : Nat → Value} {t : Nat} (h : Fld p b wd w) (hr : w.rowIs g t m k) (h1 : t ≠ TF) (h2 : t ≠ T16) (v : Value) : Fld p b wd (w.setCell ⟨g, i, none⟩ v) := by
  refine ⟨h.1, ?_⟩
  rcases h.2 with h | ⟨x, y, g1, g2, r1, r2, r3⟩
  · refine Or.inl (World.rowIs.setOther h (a := ⟨g, i, none⟩) ?_ v)
    rintro rfl
    exact h1 (rowIs_kind hr h)
  · refine Or.inr ⟨x, y, g1, g2, r1.setOther (a := ⟨g, i, none⟩) ?_ v, r2.setOther (a := ⟨g, i, none⟩) ?_ v, r3.setOther (a := ⟨g, i, none⟩) ?_ v⟩
    · rintro rfl
      exact h1 (rowIs_kind hr r1)
    · rintro rfl
      exact h2 (rowIs_kind hr r2)
    · rintro rfl
      exact h2 (rowIs_kind hr r3)
theorem Turned.set_new {b g i : Nat} {w w' : World} (h : Turned b w w') (hg : w.heap.size ≤ g) (v : Value) : Turned b w (w'.setCell ⟨g, i, none⟩ v) :=
  ⟨h.os, h.tape, h.output, by simpa [World.setCell] using h.size, fun k hk hb => (Below.heap_setCell _ _ _ _ (by simp; omega)).trans (h.block k hk hb)⟩
end Go.Proofs.YtgdgimknnjbieaaGreatDoor
