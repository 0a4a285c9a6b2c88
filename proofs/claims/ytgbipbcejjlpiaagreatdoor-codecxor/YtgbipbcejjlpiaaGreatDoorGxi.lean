/- The columns of a matrix, told by a function that is ranged over: its contract. Contracts of package matrix: rows copied, picked and joined; the identity. Contracts of package matrix: the identity, and rows picked. Contracts of package matrix: rows joined, and a column multiplied. -/
import Derived.Test.YtgbipbcejjlpiaaGreatDoorGxh
import Derived.Test.YtgbipbcejjlpiaaGreatDoorRfl
import Derived.Shelf.Abstract
import Derived.Shelf.RegionOpen
import Derived.WalkKit
import Derived.OwnWalkIn
import Derived.TacticsInMore
import Derived.LoopNIn
import Derived.LoopIn
import Derived.Lib.SliceRun
import Derived.Lib.AppendZeros
import Derived.Deep.RegionHeld3

namespace Go.Proofs.YtgbipbcejjlpiaaGreatDoor
open Go.RowKit Go.Shelf
attribute [local go_sem] Oper.semAt_some

abbrev TM : Nat := 76
theorem infoRow : (Tryz.prog.info? TIs).map (fun i => (i.zero, i.size, i.bytes)) = some (some nilS, 1, 24) := by kernel_rfl

set_option maxRecDepth 100000 in
theorem columns33 (B : Option Addr) (k cb : Nat) (w : World) :
    Calls Tryz.prog 127 #[.slice B k cb] w fun e w' => e = .returned (.func (.func 155) #[] #[.pointer (some ⟨w.heap.size, 0, none⟩)]) ∧ w.alloc (.cells #[.slice B k cb] TM) = w' := by
  have hmf : ∀ (fn : Fn) (first cap : Array Value) (w : World), (Instr.makeFunc fn first cap).run Tryz.prog w = .ok (.func fn first cap) w := fun _ _ _ _ => rfl
  go_enter Tryz.func127, Tryz.ntmps127
  go_wp2_with fail
  go_ret
  exact ⟨rfl, rfl⟩

/-- what the columns are told from -/
def ColT (b bx k m : Nat) (B : Option Addr) (cb : Nat) (G : Nat → Nat → Int) (W : World) : Prop := W.cell? ⟨bx, 0, none⟩ = some (.slice B k cb) ∧ Mx b W G (fun _ => m) B k
/-- the j-th column, told at block g -/
def ColX (k : Nat) (G : Nat → Nat → Int) (j g : Nat) (W₀ W : World) : Prop := W₀.heap.size ≤ g ∧ W.rowIs g TI k (i64s (fun r => G r j))
/-- in the loop that fills a column -/
def ColIn (k j : Nat) (G : Nat → Nat → Int) (w : World) (s19 : Value) (wr : World) : Prop :=
  ∃ i : Nat, i ≤ k ∧ s19 = .int .i64 i ∧ wr.rowIs w.heap.size TI k (fun r => .int .i64 (if r < i then G r j else 0)) ∧ Below w.heap.size w wr

theorem colIn_step {k j i : Nat} {G : Nat → Nat → Int} {w wr : World} (hi : i < k) (hrow : wr.rowIs w.heap.size TI k (fun r => .int .i64 (if r < i then G r j else 0))) (hb : Below w.heap.size w wr) :
    ColIn k j G w (.int .i64 (i + 1 : Nat)) (wr.setCell ⟨w.heap.size, i, none⟩ (.int .i64 (G i j))) := by
  refine ⟨i + 1, hi, rfl, (hrow.set i _).congr (fun r _ => ?_), hb.setCell (p := ⟨w.heap.size, i, none⟩) (Nat.le_refl _) _⟩
  rcases Nat.lt_trichotomy r i with h | h | h
  · rw [if_neg (by omega), if_pos h, if_pos (by omega)]
  · subst h; rw [if_pos rfl, if_pos (by omega)]
  · rw [if_neg (by omega), if_neg (by omega), if_neg (by omega)]

set_option maxRecDepth 100000 in
set_option maxHeartbeats 4000000 in
theorem columns_hand (n b bx k m : Nat) (B : Option Addr) (cb : Nat) (G : Nat → Nat → Int) (hk0 : 0 < k) (hk : k ≤ 20) (hm : m ≤ 20) (hn : 1 ≤ n) :
    Hands n Tryz.prog 155 #[.pointer (some ⟨bx, 0, none⟩)] (fun g : Nat => #[.slice (some ⟨g, 0, none⟩) k k]) m (ColT b bx k m B cb G) (ColX k G) := by
  intro l J W hJT hJa hY h0
  have HT := Lib.hid hJT
  have HJA := Lib.hid hJa
  have HY := Lib.hid hY
  have H0 := Lib.hid h0
  clear hJT hJa hY h0
  have hmk := run_make_row' (P := Tryz.prog) TIs TI (.int .i64 0) 8 Tryz.underlying51 infoI rfl .i64 .i64 k (by omega) (by omega)
  refine callsIn_of_wp Tryz.func155 rfl trivial ?_ rfl
  simp only [Tryz.ntmps155, List.size_toArray, List.length_cons, List.length_nil, Nat.reduceAdd, Nat.reduceSub, Array.replicate_succ, Array.replicate_zero, List.push_toArray, List.append_toArray, List.nil_append, List.cons_append]
  have ht := HT.out 0 W H0.out
  obtain ⟨hbx, As, Cs, hr1, _⟩ := ht
  obtain ⟨ad, rfl, hc0⟩ := hr1.at_ hk0
  rw [show ad.add 0 = ad by simp [Addr.add]] at hc0
  simp only [slis] at hc0
  clear hr1
  gi_wp2_with fail
  gi_loopw [11] (fun s11 wr => ∃ j : Nat, j ≤ m ∧ s11 = .int .i64 j ∧ J j wr) (fun s11 _ => m - (intOf s11).toNat)
  case atStart => exact ⟨0, Nat.zero_le _, rfl, H0.out⟩
  case round =>
    clear hbx hc0 H0
    obtain ⟨j, hj, rfl, hJ⟩ := hrel
    obtain ⟨w1, hw1⟩ : ∃ w1, w1 = wr := ⟨_, rfl⟩
    subst hw1
    have HJ := Lib.hid hJ
    clear hJ
    by_cases hlt : j < m
    · have ht := HT.out j w1 HJ.out
      have hbx := ht.1
      have HMX := Lib.hid ht.2
      clear ht
      have hbl := World.block_lt_of_cell? w1 _ hbx
      have hbx1 : (w1.alloc (.cells (madeCells #[.int .i64 0] k) TI)).cell? ⟨bx, 0, none⟩ = some (.slice (some ad) k cb) := (below_alloc w1 _).cell hbl |>.trans hbx
      have HST := Lib.hid (show ColIn k j G w1 (.int .i64 0) (w1.alloc (.cells (madeCells #[.int .i64 0] k) TI)) from ⟨0, Nat.zero_le _, rfl, (World.rowIs_made w1 (.int .i64 0) k TI).congr (fun r _ => by rw [if_neg (by omega)]), below_alloc _ _⟩)
      gi_wp2_with fail
      gi_loopw [19] (fun s19 wr' => ColIn k j G w1 s19 wr') (fun s19 _ => k - (intOf s19).toNat)
      case atStart => exact HST.out
      case round =>
        clear HST hbx1
        obtain ⟨i, hi, rfl, hrow, hb⟩ := hrel
        by_cases hlt' : i < k
        · obtain ⟨As', Cs', hr1, hr2⟩ := HMX.out.below hb
          obtain ⟨ad', e', hc1⟩ := hr1.at_ hlt'
          injection e' with e'
          subst e'
          simp only [slis] at hc1
          obtain ⟨ad2, hA2, hc2⟩ := (hr2 i hlt').at_ hlt
          simp only [i64s] at hc2
          rw [hA2] at hc1
          have f1 := hrow.frozen i
          have g1 := hrow.cell (i := i) hlt'
          have HS := Lib.hid (colIn_step hlt' hrow hb)
          clear hrow hb hr1 hr2 hA2
          gi_wp2_with fail
          exact ⟨HS.out, by simp [intOf]; omega⟩
        · obtain rfl : i = k := by omega
          have HX := Lib.hid (show ColX i G j w1.heap.size w1 wr from ⟨Nat.le_refl _, hrow.congr (fun r hr => by rw [if_pos hr])⟩)
          obtain ⟨fn, tmps, assign, body, hy, hR⟩ := HY.out j w1.heap.size w1 wr HJ.out hb hlt HX.out
          clear hrow hb
          gi_wp2_with fail
          refine hR.mono ?_
          rintro e W3 ⟨rfl, hJ3⟩
          have HJ3 := Lib.hid hJ3
          clear hJ3 hy hR HX
          gi_wp2_with fail
          exact ⟨⟨j + 1, hlt, by go_num, HJ3.out⟩, by simp [intOf]; omega⟩
    · obtain rfl : j = m := by omega
      gi_wp2_with fail
      go_end0
      exact ⟨⟨_, rfl⟩, HJ.out⟩
end Go.Proofs.YtgbipbcejjlpiaaGreatDoor

namespace Go.Proofs.YtgbipbcejjlpiaaGreatDoor
open Go.RowKit

theorem underI : Tryz.prog.underlying TIs = some (.slice TI) := Tryz.underlying51
theorem underM' : Tryz.prog.underlying TM = some (.slice TIs) := Tryz.underlying76

/-- a matrix that is told -/
def MatTold (n : Nat) (F : Nat → Nat → Int) (Ls : Nat → Nat) (w : World) (v : Value) (w' : World) : Prop := ∃ A c, v = .slice A n c ∧ n ≤ c ∧ (∀ b, b < w.heap.size → Mx b w' F Ls A n) ∧ Below w.heap.size w w'
theorem MatTold.from {n : Nat} {F : Nat → Nat → Int} {Ls : Nat → Nat} {w w1 w' : World} {v : Value} (hb : Below w.heap.size w w1) (h : MatTold n F Ls w1 v w') : MatTold n F Ls w v w' := by
  obtain ⟨A, c, h1, h2, h3, h4⟩ := h
  exact ⟨A, c, h1, h2, fun b hb' => h3 b (Nat.lt_of_lt_of_le hb' hb.size), below_tr hb h4⟩
theorem MatTold.nil {F : Nat → Nat → Int} {Ls : Nat → Nat} {w w' : World} (h : Below w.heap.size w w') : MatTold 0 F Ls w nilS w' := ⟨none, 0, rfl, Nat.le_refl _, fun _ _ => Mx.zero, h⟩

/-- a matrix that is being built at block g: k of its n rows are laid -/
def Bld (g n : Nat) (F : Nat → Nat → Int) (Ls : Nat → Nat) (w : World) (k : Nat) (W : World) : Prop :=
  w.heap.size ≤ g ∧ Below w.heap.size w W ∧ ∃ (As : Nat → Option Addr) (Cs : Nat → Nat), W.rowIs g TIs n (fun r => if r < k then .slice (As r) (Ls r) (Cs r) else nilS) ∧ ∀ r, r < k → ∀ b, (b < w.heap.size ∨ b = g) → Rd b W (i64s (F r)) (As r) (Ls r)

theorem Rd.set_other {b g i : Nat} {w : World} {k : Nat → Value} {A : Option Addr} {n : Nat} (h : Rd b w k A n) (hg : Rd g w k A n) (v : Value) : Rd b (w.setCell ⟨g, i, none⟩ v) k A n := fun hn => by
  obtain ⟨ad, rfl, h1, h2, hc⟩ := h hn
  obtain ⟨ad', e, h3, _, _⟩ := hg hn
  injection e with e
  subst e
  refine ⟨ad, rfl, h1, by simpa [World.setCell] using h2, fun j hj => (World.cell?_of_block (Below.heap_setCell _ _ _ _ ?_)).trans (hc j hj)⟩
  rw [block_of_add]
  exact h3

theorem Bld.start (n : Nat) (F : Nat → Nat → Int) (Ls : Nat → Nat) (w : World) : Bld w.heap.size n F Ls w 0 (w.alloc (.cells (madeCells #[nilS] n) TIs)) :=
  ⟨Nat.le_refl _, below_alloc _ _, fun _ => none, fun _ => 0, (World.rowIs_made w nilS n TIs).congr (fun r _ => by rw [if_neg (by omega)]), fun r hr => absurd hr (by omega)⟩
theorem Bld.below {g n : Nat} {F : Nat → Nat → Int} {Ls : Nat → Nat} {w : World} {k : Nat} {W W' : World} (h : Bld g n F Ls w k W) (hb : Below W.heap.size W W') : Bld g n F Ls w k W' := by
  obtain ⟨h1, h2, As, Cs, h3, h4⟩ := h
  exact ⟨h1, below_tr h2 hb, As, Cs, h3.of_block (hb.block _ h3.lt), fun r hr b hb' => (h4 r hr b hb').below hb⟩
theorem Bld.step {g n : Nat} {F : Nat → Nat → Int} {Ls : Nat → Nat} {w : World} {k : Nat} {W : World} {A' : Option Addr} {c' : Nat} (h : Bld g n F Ls w k W) (hr : ∀ b, (b < w.heap.size ∨ b = g) → Rd b W (i64s (F k)) A' (Ls k)) :
    Bld g n F Ls w (k + 1) (W.setCell ⟨g, k, none⟩ (.slice A' (Ls k) c')) := by
  obtain ⟨h1, h2, As, Cs, h3, h4⟩ := h
  refine ⟨h1, h2.setCell (p := ⟨g, k, none⟩) h1 _, fun r => if r = k then A' else As r, fun r => if r = k then c' else Cs r, (h3.set k _).congr (fun r _ => ?_), fun r hr' b hb => ?_⟩
  · rcases Nat.lt_trichotomy r k with e | e | e
    · rw [if_neg (by omega), if_pos e, if_pos (by omega)]
      dsimp only
      rw [if_neg (by omega), if_neg (by omega)]
    · subst e
      rw [if_pos rfl, if_pos (by omega)]
      dsimp only
      rw [if_pos rfl, if_pos rfl]
    · rw [if_neg (by omega), if_neg (by omega), if_neg (by omega)]
  · by_cases e : r = k
    · subst e
      dsimp only
      rw [if_pos rfl]
      exact (hr b hb).set_other (hr g (Or.inr rfl)) _
    · dsimp only
      rw [if_neg e]
      exact (h4 r (by omega) b hb).set_other (h4 r (by omega) g (Or.inr rfl)) _
theorem Bld.cell {g n : Nat} {F : Nat → Nat → Int} {Ls : Nat → Nat} {w : World} {k : Nat} {W : World} (h : Bld g n F Ls w k W) {i : Nat} (hi : i < n) : ∃ v, W.cell? ⟨g, i, none⟩ = some v ∧ v.cells.size = 1 ∧ W.frozen? ⟨g, i, none⟩ = false := by
  obtain ⟨h1, h2, As, Cs, h3, h4⟩ := h
  refine ⟨_, h3.cell hi, ?_, h3.frozen i⟩
  split <;> rfl
theorem Bld.told {g n : Nat} {F : Nat → Nat → Int} {Ls : Nat → Nat} {w : World} {W : World} (h : Bld g n F Ls w n W) (c : Nat) (hc : n ≤ c) : MatTold n F Ls w (.slice (some ⟨g, 0, none⟩) n c) W := by
  obtain ⟨h1, h2, As, Cs, h3, h4⟩ := h
  exact ⟨_, c, rfl, hc, fun b hb => ⟨As, Cs, (Rd.of_row h3 (by omega) (Nat.le_refl _)).congr (fun r hr => by rw [if_pos hr]), fun r hr => h4 r hr b (Or.inl hb)⟩, h2⟩
end Go.Proofs.YtgbipbcejjlpiaaGreatDoor

namespace Go.Proofs.YtgbipbcejjlpiaaGreatDoor
open Go.RowKit

theorem setCell_comm {w : World} {a c : Addr} (h : a.block ≠ c.block) (v u : Value) : (w.setCell a v).setCell c u = (w.setCell c u).setCell a v := by
  unfold World.setCell
  congr 1
  apply Array.ext_getElem?
  intro i
  simp only [Array.getElem?_modify]
  by_cases h1 : a.block = i <;> by_cases h2 : c.block = i <;> simp_all

/-- the identity's numbers -/
def idF (r c : Nat) : Int := if r = c then 1 else 0

/-- a row of the identity is laid -/
theorem Bld.unit {g n : Nat} {w : World} {k : Nat} {W : World} (h : Bld g n idF (fun _ => n) w k W) :
    Bld g n idF (fun _ => n) w (k + 1) (((W.alloc (.cells (madeCells #[.int .i64 0] n) TI)).setCell ⟨g, k, none⟩ (.slice (some ⟨W.heap.size, 0, none⟩) n n)).setCell ⟨W.heap.size, k, none⟩ (.int .i64 1)) := by
  have hg : g < W.heap.size := by obtain ⟨_, _, _, _, h3, _⟩ := h; exact h3.lt
  have hw : w.heap.size ≤ W.heap.size := h.2.1.size
  rw [setCell_comm (show (⟨g, k, none⟩ : Addr).block ≠ (⟨W.heap.size, k, none⟩ : Addr).block by simp; omega)]
  have hrow := (World.rowIs_made W (.int .i64 0) n TI).set k (.int .i64 1)
  refine (h.below ((below_alloc W (.cells (madeCells #[.int .i64 0] n) TI)).setCell (p := ⟨W.heap.size, k, none⟩) (Nat.le_refl _) (.int .i64 1))).step (fun b hb => ?_)
  refine (Rd.of_row hrow (by rcases hb with hb | hb <;> omega) (Nat.le_refl _)).congr (fun j _ => ?_)
  simp only [i64s, idF]
  by_cases e : j = k
  · subst e; simp
  · rw [if_neg e, if_neg (fun e' => e e'.symm)]

set_option maxRecDepth 100000 in
set_option maxHeartbeats 1000000 in
theorem identity_yes (n : Nat) (hs : side n) (w : World) :
    Calls Tryz.prog 125 #[.int .i64 n] w fun e w' => ∃ v, e = .returned v ∧ MatTold n idF (fun _ => n) w v w' := by
  have hn : n ≤ 20 := hs.2
  have hmk := run_make_row' (P := Tryz.prog) TM TIs nilS 24 underM' infoRow rfl .i64 .i64 n (by omega) (by omega)
  have hmk2 := run_make_row' (P := Tryz.prog) TIs TI (.int .i64 0) 8 underI infoI rfl .i64 .i64 n (by omega) (by omega)
  go_enter Tryz.func125, Tryz.ntmps125
  go_wp2_with fail
  refine (side28 n _).mono ?_
  rintro e w' ⟨t, rfl, ht, rfl⟩
  obtain rfl : t = true := ht.2 hs
  clear ht
  go_wp2_with fail
  go_loopw [12] (fun s12 wr => ∃ k : Nat, k ≤ n ∧ s12 = .int .i64 k ∧ Hid (Bld w.heap.size n idF (fun _ => n) w k wr)) (fun s12 _ => n - (intOf s12).toNat)
  case atStart => exact ⟨0, Nat.zero_le _, rfl, Lib.hid (Bld.start n _ _ w)⟩
  case round =>
    obtain ⟨k, hk, rfl, hb⟩ := hrel
    by_cases hlt : k < n
    · have HS := Lib.hid hb.out.unit
      have hb1 := hb.out.below (below_alloc wr (.cells (madeCells #[.int .i64 0] n) TI))
      obtain ⟨v0, g1, hv1, f1⟩ := hb1.cell hlt
      have hgl : w.heap.size < wr.heap.size := by obtain ⟨_, _, _, _, h3, _⟩ := hb.out; exact h3.lt
      have g2 : ((wr.alloc (.cells (madeCells #[.int .i64 0] n) TI)).setCell ⟨w.heap.size, k, none⟩ (.slice (some ⟨wr.heap.size, 0, none⟩) n n)).cell? ⟨w.heap.size, k, none⟩ = some (.slice (some ⟨wr.heap.size, 0, none⟩) n n) := World.cell?_setCell_same _ _ _ g1
      have hr0 := World.rowIs_made wr (.int .i64 0) n TI
      have hne : wr.heap.size ≠ (⟨w.heap.size, k, none⟩ : Addr).block := by simp; omega
      have hr1 : ((wr.alloc (.cells (madeCells #[.int .i64 0] n) TI)).setCell ⟨w.heap.size, k, none⟩ (.slice (some ⟨wr.heap.size, 0, none⟩) n n)).rowIs wr.heap.size TI n (fun _ => .int .i64 0) := hr0.setOther (a := ⟨w.heap.size, k, none⟩) hne _
      have g3 := hr1.cell hlt
      have f3 := hr1.frozen k
      have hEq := World.setCell_alloc_past (w := wr) (.cells (madeCells #[.int .i64 0] n) TI) w.heap.size k (.slice (some ⟨wr.heap.size, 0, none⟩) n n) hgl
      have hEq2 := World.setCell_alloc_at (w := wr.setCell ⟨w.heap.size, k, none⟩ (.slice (some ⟨wr.heap.size, 0, none⟩) n n)) (madeCells #[.int .i64 0] n) TI wr.heap.size k (.int .i64 1) (by simp [World.setCell])
      rw [hEq] at g2 g3 f3 HS
      rw [hEq2] at HS
      clear hb1 hr0 hr1 hb hEq hEq2
      go_wp2_with fail
      exact ⟨⟨k + 1, hlt, by go_num, HS⟩, by simp [intOf]; omega⟩
    · obtain rfl : k = n := by omega
      go_wp2_with fail
      go_ret
      exact ⟨_, rfl, hb.out.told k (Nat.le_refl _)⟩

/-- rows may be picked -/
def pickP (c n : Nat) (Ls : Nat → Nat) (F : Nat → Nat → Int) (m : Nat) (l : Nat → Int) : Prop := mayP c n Ls F ∧ side m ∧ ∀ r, r < m → 0 ≤ l r ∧ l r < n
/-- what Pick tells -/
def PickAny (c n : Nat) (Ls : Nat → Nat) (F : Nat → Nat → Int) (m : Nat) (l : Nat → Int) (w : World) (e : Ending) (w' : World) : Prop :=
  ∃ t v, e = .returned (.tuple #[v, .int .i64 (errOf t)]) ∧ (t = true ↔ pickP c n Ls F m l) ∧ MatTold (cond t m 0) (fun r => F (l r).toNat) (fun r => Ls (l r).toNat) w v w'
theorem PickAny.no {c n : Nat} {Ls : Nat → Nat} {F : Nat → Nat → Int} {m : Nat} {l : Nat → Int} {w w' : World} (h : ¬ pickP c n Ls F m l) (hb : Below w.heap.size w w') : PickAny c n Ls F m l w (.returned (.tuple #[nilS, .int .i64 1])) w' :=
  ⟨false, _, rfl, by simp [h], MatTold.nil hb⟩
end Go.Proofs.YtgbipbcejjlpiaaGreatDoor

namespace Go.Proofs.YtgbipbcejjlpiaaGreatDoor
open Go.RowKit

/-- two rows of values, one behind the other -/
def joinV (n : Nat) (K L : Nat → Value) (r : Nat) : Value := if r < n then K r else L (r - n)
theorem joinV_all (n m : Nat) (K L : Nat → Value) : (List.range (n + m)).map (joinV n K L) = (List.range n).map K ++ (List.range m).map L := by
  rw [List.range_add, List.map_append, List.map_map]
  congr 1
  · exact List.map_congr_left (fun r hr => by simp only [joinV]; rw [if_pos (List.mem_range.1 hr)])
  · exact List.map_congr_left (fun r _ => by simp only [joinV, Function.comp]; rw [if_neg (by omega), Nat.add_sub_cancel_left])
theorem one_slis (As : Nat → Option Addr) (Ls Cs : Nat → Nat) (j : Nat) : (slis As Ls Cs j).oneCell' = true := rfl

/-- rows may be joined -/
def joinP (c n : Nat) (La : Nat → Nat) (F : Nat → Nat → Int) (k : Nat) (Lb : Nat → Nat) (G : Nat → Nat → Int) : Prop := mayP c n La F ∧ mayP c k Lb G ∧ La 0 = Lb 0 ∧ n + k ≤ 20
/-- two matrices' rows, one behind the other -/
def joinF (n : Nat) (F G : Nat → Nat → Int) (r : Nat) : Nat → Int := if r < n then F r else G (r - n)
def joinL (n : Nat) (La Lb : Nat → Nat) (r : Nat) : Nat := if r < n then La r else Lb (r - n)
/-- what Join tells -/
def JoinAny (c n : Nat) (La : Nat → Nat) (F : Nat → Nat → Int) (k : Nat) (Lb : Nat → Nat) (G : Nat → Nat → Int) (w : World) (e : Ending) (w' : World) : Prop :=
  ∃ t v, e = .returned (.tuple #[v, .int .i64 (errOf t)]) ∧ (t = true ↔ joinP c n La F k Lb G) ∧ MatTold (cond t (n + k) 0) (joinF n F G) (joinL n La Lb) w v w'
theorem JoinAny.no {c n : Nat} {La : Nat → Nat} {F : Nat → Nat → Int} {k : Nat} {Lb : Nat → Nat} {G : Nat → Nat → Int} {w w' : World} (h : ¬ joinP c n La F k Lb G) (hb : Below w.heap.size w w') : JoinAny c n La F k Lb G w (.returned (.tuple #[nilS, .int .i64 1])) w' :=
  ⟨false, _, rfl, by simp [h], MatTold.nil hb⟩

/-- what Apply tells -/
def AppAny (p b wd n : Nat) (La : Nat → Nat) (F : Nat → Nat → Int) (m : Nat) (l : Nat → Int) (w : World) (e : Ending) (w' : World) : Prop :=
  ∃ t A c, e = .returned (.tuple #[.slice A (cond t n 0) c, .int .i64 (errOf t)]) ∧ (t = true ↔ mayP (M.ord p) n La F ∧ La 0 = m ∧ allIn (M.ord p) l m) ∧ Rd b w' (i64s (fun r => (dotN p (F r) l m : Nat))) A (cond t n 0) ∧ Fld p b wd w' ∧ Turned b w w'
theorem AppAny.no {p b wd n : Nat} {La : Nat → Nat} {F : Nat → Nat → Int} {m : Nat} {l : Nat → Int} {w : World} (hf : Fld p b wd w) (h : ¬ (mayP (M.ord p) n La F ∧ La 0 = m ∧ allIn (M.ord p) l m)) : AppAny p b wd n La F m l w (.returned (.tuple #[nilS, .int .i64 1])) w :=
  ⟨false, none, 0, rfl, by simp [h], Rd.zero, hf, Turned.refl _ _⟩

theorem rowIs_kind {w : World} {g t t' n n' : Nat} {k k' : Nat → Value} (h : w.rowIs g t n k) (h' : w.rowIs g t' n' k') : t = t' := by
  obtain ⟨c, h1, _⟩ := h
  obtain ⟨c', h2, _⟩ := h'
  rw [h1] at h2
  injection h2 with h2
  injection h2
/-- a store into a row of another kind leaves the field -/
theorem Fld.setRow {p b wd g m i : Nat} {w : World} {k : Nat → Value} {t : Nat} (h : Fld p b wd w) (hr : w.rowIs g t m k) (h1 : t ≠ TF) (h2 : t ≠ T16) (v : Value) : Fld p b wd (w.setCell ⟨g, i, none⟩ v) := by
  refine ⟨h.1, ?_⟩
  rcases h.2 with h | ⟨x, y, g1, g2, r1, r2, r3⟩
  · refine Or.inl (World.rowIs.setOther h (a := ⟨g, i, none⟩) ?_ v)
    rintro rfl
    exact h1 (rowIs_kind hr h)
  · refine Or.inr ⟨x, y, g1, g2, r1.setOther (a := ⟨g, i, none⟩) ?_ v, r2.setOther (a := ⟨g, i, none⟩) ?_ v, r3.setOther (a := ⟨g, i, none⟩) ?_ v⟩
    · rintro rfl
      exact h1 (rowIs_kind hr r1)
    · rintro rfl
      exact h2 (rowIs_kind hr r2)
    · rintro rfl
      exact h2 (rowIs_kind hr r3)
theorem Turned.set_new {b g i : Nat} {w w' : World} (h : Turned b w w') (hg : w.heap.size ≤ g) (v : Value) : Turned b w (w'.setCell ⟨g, i, none⟩ v) :=
  ⟨h.os, h.tape, h.output, by simpa [World.setCell] using h.size, fun k hk hb => (Below.heap_setCell _ _ _ _ (by simp; omega)).trans (h.block k hk hb)⟩
end Go.Proofs.YtgbipbcejjlpiaaGreatDoor
