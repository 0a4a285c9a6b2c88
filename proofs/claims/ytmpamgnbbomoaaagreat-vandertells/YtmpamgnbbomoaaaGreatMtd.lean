/- The columns of a matrix, told by a function that is ranged over: its contract. -/
import Derived.Test.YtmpamgnbbomoaaaGreatMtc
import Derived.Test.YtmpamgnbbomoaaaGreatRfl
import Derived.Shelf.Abstract
import Derived.Shelf.RegionOpen
import Derived.WalkKit
import Derived.OwnWalkIn
import Derived.TacticsInMore
import Derived.LoopNIn
import Derived.LoopIn
namespace Go.Proofs.YtmpamgnbbomoaaaGreat
open Go.RowKit Go.Shelf
attribute [local go_sem] Oper.semAt_some

abbrev TM : Nat := 28
theorem infoRow : (Tryz.prog.info? TIs).map (fun i => (i.zero, i.size, i.bytes)) = some (some nilS, 1, 24) := by kernel_rfl

set_option maxRecDepth 100000 in
theorem columns33 (B : Option Addr) (k cb : Nat) (w : World) :
    Calls Tryz.prog 42 #[.slice B k cb] w fun e w' => e = .returned (.func (.func 62) #[] #[.pointer (some ⟨w.heap.size, 0, none⟩)]) ∧ w.alloc (.cells #[.slice B k cb] TM) = w' := by
  have hmf : ∀ (fn : Fn) (first cap : Array Value) (w : World), (Instr.makeFunc fn first cap).run Tryz.prog w = .ok (.func fn first cap) w := fun _ _ _ _ => rfl
  go_enter Tryz.func42, Tryz.ntmps42
  go_wp2_with fail
  go_ret
  exact ⟨rfl, rfl⟩

/-- what the columns are told from -/
def ColT (b bx k m : Nat) (B : Option Addr) (cb : Nat) (G : Nat → Nat → Int) (W : World) : Prop := W.cell? ⟨bx, 0, none⟩ = some (.slice B k cb) ∧ Mx b W G (fun _ => m) B k
/-- the j-th column, told at block g -/
def ColX (k : Nat) (G : Nat → Nat → Int) (j g : Nat) (W₀ W : World) : Prop := W₀.heap.size ≤ g ∧ W.rowIs g TI k (i64s (fun r => G r j))
/-- in the loop that fills a column -/
def ColIn (k j : Nat) (G : Nat → Nat → Int) (w : World) (s19 : Value) (wr : World) : Prop :=
  ∃ i : Nat, i ≤ k ∧ s19 = .int .i64 i ∧ wr.rowIs w.heap.size TI k (fun r => .int .i64 (if r < i then G r j else 0)) ∧ Below w.heap.size w wr

theorem colIn_step {k j i : Nat} {G : Nat → Nat → Int} {w wr : World} (hi : i < k) (hrow : wr.rowIs w.heap.size TI k (fun r => .int .i64 (if r < i then G r j else 0))) (hb : Below w.heap.size w wr) :
    ColIn k j G w (.int .i64 (i + 1 : Nat)) (wr.setCell ⟨w.heap.size, i, none⟩ (.int .i64 (G i j))) := by
  refine ⟨i + 1, hi, rfl, (hrow.set i _).congr (fun r _ => ?_), hb.setCell (p := ⟨w.heap.size, i, none⟩) (Nat.le_refl _) _⟩
  rcases Nat.lt_trichotomy r i with h | h | h
  · rw [if_neg (by omega), if_pos h, if_pos (by omega)]
  · subst h; rw [if_pos rfl, if_pos (by omega)]
  · rw [if_neg (by omega), if_neg (by omega), if_neg (by omega)]

set_option maxRecDepth 100000 in
set_option maxHeartbeats 4000000 in
theorem columns_hand (n b bx k m : Nat) (B : Option Addr) (cb : Nat) (G : Nat → Nat → Int) (hk0 : 0 < k) (hk : k ≤ 20) (hm : m ≤ 20) (hn : 1 ≤ n) :
    Hands n Tryz.prog 62 #[.pointer (some ⟨bx, 0, none⟩)] (fun g : Nat => #[.slice (some ⟨g, 0, none⟩) k k]) m (ColT b bx k m B cb G) (ColX k G) := by
  intro l J W hJT hJa hY h0
  have HT := Lib.hid hJT
  have HJA := Lib.hid hJa
  have HY := Lib.hid hY
  have H0 := Lib.hid h0
  clear hJT hJa hY h0
  have hmk := run_make_row' (P := Tryz.prog) TIs TI (.int .i64 0) 8 Tryz.underlying37 infoI rfl .i64 .i64 k (by omega) (by omega)
  refine callsIn_of_wp Tryz.func62 rfl trivial ?_ rfl
  simp only [Tryz.ntmps62, List.size_toArray, List.length_cons, List.length_nil, Nat.reduceAdd, Nat.reduceSub, Array.replicate_succ, Array.replicate_zero, List.push_toArray, List.append_toArray, List.nil_append, List.cons_append]
  have ht := HT.out 0 W H0.out
  obtain ⟨hbx, As, Cs, hr1, _⟩ := ht
  obtain ⟨ad, rfl, hc0⟩ := hr1.at_ hk0
  rw [show ad.add 0 = ad by simp [Addr.add]] at hc0
  simp only [slis] at hc0
  clear hr1
  gi_wp2_with fail
  gi_loopw [11] (fun s11 wr => ∃ j : Nat, j ≤ m ∧ s11 = .int .i64 j ∧ J j wr) (fun s11 _ => m - (intOf s11).toNat)
  case atStart => exact ⟨0, Nat.zero_le _, rfl, H0.out⟩
  case round =>
    clear hbx hc0 H0
    obtain ⟨j, hj, rfl, hJ⟩ := hrel
    obtain ⟨w1, hw1⟩ : ∃ w1, w1 = wr := ⟨_, rfl⟩
    subst hw1
    have HJ := Lib.hid hJ
    clear hJ
    by_cases hlt : j < m
    · have ht := HT.out j w1 HJ.out
      have hbx := ht.1
      have HMX := Lib.hid ht.2
      clear ht
      have hbl := World.block_lt_of_cell? w1 _ hbx
      have hbx1 : (w1.alloc (.cells (madeCells #[.int .i64 0] k) TI)).cell? ⟨bx, 0, none⟩ = some (.slice (some ad) k cb) := (below_alloc w1 _).cell hbl |>.trans hbx
      have HST := Lib.hid (show ColIn k j G w1 (.int .i64 0) (w1.alloc (.cells (madeCells #[.int .i64 0] k) TI)) from ⟨0, Nat.zero_le _, rfl, (World.rowIs_made w1 (.int .i64 0) k TI).congr (fun r _ => by rw [if_neg (by omega)]), below_alloc _ _⟩)
      gi_wp2_with fail
      gi_loopw [19] (fun s19 wr' => ColIn k j G w1 s19 wr') (fun s19 _ => k - (intOf s19).toNat)
      case atStart => exact HST.out
      case round =>
        clear HST hbx1
        obtain ⟨i, hi, rfl, hrow, hb⟩ := hrel
        by_cases hlt' : i < k
        · obtain ⟨As', Cs', hr1, hr2⟩ := HMX.out.below hb
          obtain ⟨ad', e', hc1⟩ := hr1.at_ hlt'
          injection e' with e'
          subst e'
          simp only [slis] at hc1
          obtain ⟨ad2, hA2, hc2⟩ := (hr2 i hlt').at_ hlt
          simp only [i64s] at hc2
          rw [hA2] at hc1
          have f1 := hrow.frozen i
          have g1 := hrow.cell (i := i) hlt'
          have HS := Lib.hid (colIn_step hlt' hrow hb)
          clear hrow hb hr1 hr2 hA2
          gi_wp2_with fail
          exact ⟨HS.out, by simp [intOf]; omega⟩
        · obtain rfl : i = k := by omega
          have HX := Lib.hid (show ColX i G j w1.heap.size w1 wr from ⟨Nat.le_refl _, hrow.congr (fun r hr => by rw [if_pos hr])⟩)
          obtain ⟨fn, tmps, assign, body, hy, hR⟩ := HY.out j w1.heap.size w1 wr HJ.out hb hlt HX.out
          clear hrow hb
          gi_wp2_with fail
          refine hR.mono ?_
          rintro e W3 ⟨rfl, hJ3⟩
          have HJ3 := Lib.hid hJ3
          clear hJ3 hy hR HX
          gi_wp2_with fail
          exact ⟨⟨j + 1, hlt, by go_num, HJ3.out⟩, by simp [intOf]; omega⟩
    · obtain rfl : j = m := by omega
      gi_wp2_with fail
      go_end0
      exact ⟨⟨_, rfl⟩, HJ.out⟩
end Go.Proofs.YtmpamgnbbomoaaaGreat
