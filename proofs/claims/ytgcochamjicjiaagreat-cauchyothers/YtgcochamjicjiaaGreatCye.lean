/- The contracts of package cauchy: moveOn, haveInverse. -/
import Derived.Test.YtgcochamjicjiaaGreatCyd
import Derived.Laws.CopyRow
import Derived.Deep.RegionLaw
namespace Go.Proofs.YtgcochamjicjiaaGreat
open Go.RowKit

/-- a row is written over from place off on -/
def over (off : Nat) (f h : Nat → Value) (j : Nat) : Value := if j < off then f j else h (j - off)
/-- copy, into a row that is known whole, as one step of a region that draws -/
theorem step_copy_over {ops : Array Oper} {o : Oper} {a : Act} {w : World} {K : Act → World → Prop} {Q : Exit → Act → World → Prop} {E : Prop} (hgd : o.guard = none) (d s : Operand)
    (ho : o.op = .call { callee := .builtin .copy, args := #[d, s], argTypes := #[TIs, TIs] }) (g off n dCap g2 sCap k : Nat) (hd : a.eval d = .slice (some ⟨g, off, none⟩) n dCap) (hs : a.eval s = .slice (some ⟨g2, 0, none⟩) n sCap)
    (f h : Nat → Value) (hrow : w.rowIs g TI k f) (hsrc : w.rowIs g2 TI n h) (hone : ∀ j, (h j).oneCell' = true) (hoff : off + n = k)
    (hK : ∀ w', w'.rowIs g TI k (over off f h) → Turned g w w' → K (a.put o.dst (goInt n)) w') :
    if Region.wanted o (yielded ops a.tmps) = true then Oper.wp Tryz.prog o a w K Q else E := by
  have hw : Region.wanted o (yielded ops a.tmps) = true := by simp [Region.wanted, hgd]
  rw [if_pos hw]
  obtain ⟨c, hc1, hc2, hc3⟩ := hrow
  have hsz : (Tryz.prog.info? TI).map (·.size) = some 1 := by kernel_rfl
  have hlen : ((List.range n).map h).length = n := by simp
  have hrun := run_copy_row (P := Tryz.prog) w TIs TIs o.type TI g off n dCap ⟨g2, 0, none⟩ n sCap c TI ((List.range n).map h) underI hsz hc1 (by simp) (fun j v hj => by
    have hjn : j < n := by
      rcases Nat.lt_or_ge j n with e | e
      · exact e
      · rw [List.getElem?_eq_none (by simp; omega)] at hj
        cases hj
    rw [List.getElem?_map, List.getElem?_range hjn] at hj
    simp at hj
    subst hj
    have := hsrc.cell hjn
    rw [show (⟨g2, 0, none⟩ : Addr).add j = ⟨g2, j, none⟩ by unfold Addr.add; split <;> simp_all]
    exact this) (by rw [hlen]; omega) (fun v hv => by
    obtain ⟨j, _, rfl⟩ := List.mem_map.1 hv
    exact hone j)
  rw [hlen] at hrun
  unfold Oper.wp
  simp [execOp, ho, resolve, invoke, builtin, hd, hs, hrun, Result.andThen]
  have hdrop : List.drop (off + n) c.toList = [] := List.drop_eq_nil_of_le (by simp; omega)
  refine hK (w.setRow g (c.toList.take off ++ ((List.range n).map h ++ c.toList.drop (off + n))).toArray) ?_ ?_
  · refine ⟨_, setRow_heap w g _ _ TI _ hc1, ?_, fun i hi => ?_⟩
    · simp
      omega
    · rw [List.getElem?_toArray, hdrop, List.append_nil, List.getElem?_append]
      have htl : (c.toList.take off).length = off := by simp; omega
      unfold over
      by_cases e : i < off
      · rw [if_pos (by omega), if_pos e, List.getElem?_take, if_pos e, Array.getElem?_toList]
        exact hc3 i hi
      · rw [if_neg (by omega), if_neg e, htl, List.getElem?_map, List.getElem?_range (by omega)]
        rfl
  · exact ⟨rfl, rfl, rfl, by simp [World.setRow], fun q _ hq => setRow_other w g q _ (by omega)⟩

/-- a choice of rows, as it lies there -/
def chs (l : Nat → Nat) (j : Nat) : Value := .int .i64 ((l j : Nat) : Int)
/-- what moveOn tells -/
def MoveSaid (k n g : Nat) (l : Nat → Nat) (w : World) (e : Ending) (w' : World) : Prop :=
  (∃ i, MovesAt k n l i ∧ e = .returned (.bool true) ∧ w'.rowIs g TI k (chs (nxt l i)) ∧ Turned g w w') ∨ ((∀ r, r < k → n + r ≤ l r + k) ∧ e = .returned (.bool false) ∧ w = w')
theorem over_nxt {l : Nat → Nat} {i : Nat} (j : Nat) : over i (chs l) (i64s (frm (l i + 1))) j = chs (nxt l i) j := by
  unfold over chs i64s frm nxt
  split <;> rfl
/-- in moveOn's loop: none behind place i can move -/
def MvAt (k n : Nat) (l : Nat → Nat) (s5 : Value) : Prop := ∃ i : Nat, i ≤ k ∧ s5 = .int .i64 ((i : Int) - 1) ∧ ∀ r, i ≤ r → r < k → n + r ≤ l r + k

set_option maxRecDepth 100000 in
set_option maxHeartbeats 2000000 in
theorem moveOn53 (k n g : Nat) (l : Nat → Nat) (hk : 1 ≤ k) (hkn : k ≤ n) (hn : n ≤ 40) (hR : Rise k n l) (w : World) (hr : w.rowIs g TI k (chs l)) :
    Calls Tryz.prog 50 #[.slice (some ⟨g, 0, none⟩) k k, .int .i64 n] w (MoveSaid k n g l w) := by
  have HR := Lib.hid hr
  have HRI := Lib.hid hR
  clear hr hR
  go_enter Tryz.func50, Tryz.ntmps50
  go_wp2_with fail
  go_loop [5] (fun s5 => MvAt k n l s5) (fun s5 => (intOf s5 + 1).toNat)
  case atStart => exact ⟨k, Nat.le_refl _, rfl, fun r h1 h2 => absurd h1 (by omega)⟩
  case round =>
    obtain ⟨i, hi, rfl, hlast⟩ := hrel
    have HL := Lib.hid hlast
    clear hlast
    by_cases hz : i = 0
    · subst hz
      have HE := Lib.hid (show MoveSaid k n g l w (.returned (.bool false)) w from Or.inr ⟨fun r hr => HL.out r (Nat.zero_le _) hr, rfl, rfl⟩)
      go_wp2_with fail
      go_ret
      exact HE.out
    · obtain ⟨i, rfl⟩ : ∃ i', i = i' + 1 := ⟨i - 1, by omega⟩
      have hlt : i < k := by omega
      have e1 : (((i + 1 : Nat) : Int) - 1) = (i : Int) := by omega
      rw [e1]
      have hc := HR.out.cell hlt
      simp only [chs] at hc
      have hln := HRI.out.1 i hlt
      obtain ⟨x, hx⟩ : ∃ x, l i = x := ⟨_, rfl⟩
      have HX := Lib.hid hx
      rw [hx] at hc hln
      by_cases hmv : x + k < n + i
      · have hM : MovesAt k n l i := ⟨hlt, by rw [hx]; exact hmv, fun r h1 h2 => HL.out r (by omega) h2⟩
        have HM := Lib.hid hM
        have hcut := run_fromI g k k i (by omega) hlt
        have hcutA := run_atI g k k i (by omega) hlt
        have hgl := HR.out.lt
        have HT := Lib.hid (show Turned g w w.drew from (Turned.refl g w).drew)
        have d1 : decide ((x : Int) < (n : Int) - 1 - ((k : Int) - 1 - (i : Int))) = true := by simp; omega
        obtain ⟨D, hD⟩ : ∃ D : Nat, k - i = D := ⟨_, rfl⟩
        have HFR := Lib.hid (show ∀ w, Calls Tryz.prog 30 #[.int .i64 (IntKind.i64.wrap ((x : Int) + 1)), .int .i64 (IntKind.i64.wrap ((k : Int) - 1 - (i : Int) + 1))] w (RowMade D (frm (x + 1)) w) from fun w => by
          rw [show IntKind.i64.wrap ((x : Int) + 1) = ((x + 1 : Nat) : Int) by rw [IntKind.wrap_i64]; omega, show IntKind.i64.wrap ((k : Int) - 1 - (i : Int) + 1) = ((D : Nat) : Int) by rw [IntKind.wrap_i64]; omega]
          exact from29 (x + 1) D (by omega) (by omega) w)
        rw [hD] at hcut hcutA
        have HDk := Lib.hid (show i + D = k by omega)
        clear hM hx hD e1
        go_wp2_with fail
        go_region_law (first
            | (refine step_copy_over rfl (.tmp 30) (.tmp 38) rfl g i D D w.heap.size D k (by first | rfl | simp [Act.eval]) (by first | rfl | simp [Act.eval]) (chs l) (i64s (frm (x + 1))) (HR.out.of_block (hb1.block _ hgl)) hr1 (fun _ => rfl) HDk.out ?_; intro w2 hr2 ht2; have HT2 := Lib.hid (show Turned g w w2 from HT1.out.trans ht2))
            | (go_simp; go_at_call 30; refine (HFR.out _).mono ?_; rintro e w1 ⟨rfl, hr1, hb1⟩; have HT1 := Lib.hid (show Turned g w w1 from HT.out.trans (Turned.of_below hb1))))
        have HE := Lib.hid (show MoveSaid k n g l w (.returned (.bool true)) w2 from Or.inl ⟨i, HM.out, rfl, hr2.congr (fun j _ => by rw [← HX.out]; exact over_nxt j), HT2.out⟩)
        clear hr1 hb1 hr2 ht2 HT1 HT2
        go_wp2_with fail
        go_ret
        exact HE.out
      · have d1 : decide ((x : Int) < (n : Int) - 1 - ((k : Int) - 1 - (i : Int))) = false := by simp; omega
        have HS := Lib.hid (show MvAt k n l (.int .i64 ((i : Int) - 1)) from ⟨i, by omega, rfl, fun r h1 h2 => by
          by_cases e : r = i
          · subst e; rw [HX.out]; omega
          · exact HL.out r (by omega) h2⟩)
        clear hx
        go_wp2_with fail
        exact ⟨HS.out, by simp [intOf] <;> omega⟩
end Go.Proofs.YtgcochamjicjiaaGreat
