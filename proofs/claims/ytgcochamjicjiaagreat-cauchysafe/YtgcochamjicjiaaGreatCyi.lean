/- Contracts of gambrelref08: from, Of, Orig, Isal. -/
import Derived.Test.YtgcochamjicjiaaGreatCyd
import Derived.Test.YtgcochamjicjiaaGreatGxq
namespace Go.Proofs.YtgcochamjicjiaaGreat
open Go.RowKit

set_option maxRecDepth 100000 in
set_option maxHeartbeats 1000000 in
theorem rfrom31 (a n : Nat) (ha : a ≤ 1000) (hn : n ≤ 100) (w : World) :
    Calls Tryz.prog 25 #[.int .i64 a, .int .i64 n] w fun e w' => ∃ v, e = .returned v ∧ App w TI (i64s (frm a)) n v w' := by
  obtain ⟨j0, hj, hy0, hy1, hy2⟩ := info_parts infoI
  go_enter Tryz.func25, Tryz.ntmps25
  go_wp2_with fail
  go_loopw [5, 6] (fun s5 s6 wr => RowIn n (frm a) w s5 s6 wr) (fun _ s6 _ => n - (intOf s6).toNat)
  case atStart => exact ⟨0, Nat.zero_le _, rfl, App.start _ _ _⟩
  case round =>
    obtain ⟨j, hjn, rfl, ha⟩ := hrel
    have HA := Lib.hid ha
    have hsz := ha.2.size
    clear ha
    by_cases hlt : j < n
    · have HV := Lib.hid (show i64s (frm a) j = .int .i64 ((a : Int) + (j : Int)) from by simp only [i64s, frm]; congr 1)
      go_wp2_with (at_builtin; refine wpList_append_own _ rfl _ _ TIs rfl w.heap.size TI j0 (.int .i64 0) 1 8 underI hj hy0 hy1 hy2 rfl (by decide) _ _ _ rfl (HA.out.1.alloc _) ⟨wr.heap.size, 0, none⟩ 1 1 [i64s (frm a) j] rfl rfl (news_one HV.out.symm) (one_i64 _) (by unfold maxLen; omega) (by omega) (by simp; omega) ?_)
      intro v' w1 hown' hgrow _
      have HS := Lib.hid (HA.out.step hown' hgrow)
      clear hown' hgrow
      go_wp2_with fail
      exact ⟨⟨j + 1, hlt, by go_num, HS.out⟩, by simp [intOf]; omega⟩
    · obtain rfl : j = n := by omega
      go_wp2_with fail
      go_ret
      exact ⟨_, rfl, HA.out⟩

/-- what Of of the document tells -/
def ROfAny (q : FP) (b n m : Nat) (lx ly : Nat → Int) (w : World) (e : Ending) (w' : World) : Prop :=
  ∃ t A c, e = .returned (.tuple #[.slice A (cond t n 0) c, .bool t]) ∧ (t = true ↔ ofP (M.ord q.p) n m lx ly) ∧ Mx b w' (ivs (ofE q lx ly)) (fun _ => m) A (cond t n 0) ∧ Below w.heap.size w w'
theorem ROfAny.no {q : FP} {b n m : Nat} {lx ly : Nat → Int} {w w' : World} (h : ¬ ofP (M.ord q.p) n m lx ly) (hb : Below w.heap.size w w') : ROfAny q b n m lx ly w (.returned (.tuple #[nilS, .bool false])) w' :=
  ⟨false, none, 0, rfl, by simp [h], Mx.zero, hb⟩
theorem cat_list {n m : Nat} (lx ly : Nat → Int) : (List.range n).map (i64s lx) ++ (List.range m).map (i64s ly) = (List.range (n + m)).map (i64s (catL n lx ly)) := by
  rw [← joinV_all n m]
  refine range_congr (fun j _ => ?_)
  unfold joinV
  simp only [i64s, catL]
  split <;> rfl
/-- in the loops that compare -/
def RuAt (c : Nat) (l : Nat → Int) (n : Nat) (w2 : World) (s11 : Value) (wr : World) : Prop := ∃ i : Nat, i ≤ n ∧ s11 = .int .i64 i ∧ apartP c l i ∧ ∃ m, wr = w2.drewN m
def RuIn (l : Nat → Int) (i : Nat) (w2 : World) (s12 : Value) (wr : World) : Prop := ∃ k : Nat, k ≤ i ∧ s12 = .int .i64 k ∧ (∀ j, j < k → l i ≠ l j) ∧ ∃ m, wr = w2.drewN m
end Go.Proofs.YtgcochamjicjiaaGreat
