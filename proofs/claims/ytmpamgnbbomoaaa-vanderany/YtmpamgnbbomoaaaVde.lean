/- The contract of gambrelref06's Chosen. -/
import Derived.Test.YtmpamgnbbomoaaaVdd
namespace Go.Proofs.Ytmpamgnbbomoaaa
open Go.RowKit

abbrev TBo : Nat := 4
abbrev TBos : Nat := 46
theorem infoBo : (Try.prog.info? TBo).map (fun i => (i.zero, i.size, i.bytes)) = some (some (.bool false), 1, 1) := by kernel_rfl
theorem underBo : Try.prog.underlying TBos = some (.slice TBo) := Try.underlying46

/-- the list of those that are chosen, and what was seen -/
structure Cho (l : Nat → Int) (mask k : Nat) (v : Value) (w wr : World) : Prop where
  own : wr.ownsRow (w.heap.size + 1) TI 1 v k ((List.range k).map (i64s l))
  seen : wr.rowIs w.heap.size TBo 20 (fun x => .bool (mask.testBit x))
  bel : Below w.heap.size w wr
  size : w.heap.size + 1 ≤ wr.heap.size
section
variable {l : Nat → Int} {mask k : Nat} {v : Value} {w wr w1 : World}
theorem Cho.start (l : Nat → Int) (w : World) : Cho l 0 0 nilS w (w.alloc (.cells (madeCells #[.bool false] 20) TBo)) :=
  ⟨World.ownsRow_nil _ _ _ _, (World.rowIs_made w (.bool false) 20 TBo).congr (fun x _ => by rw [Nat.zero_testBit]), below_alloc _ _, by simp⟩
theorem Cho.app {v' : Value} {o : Obj} (h : Cho l mask k v w wr) (ho : w1.ownsRow (w.heap.size + 1) TI 1 v' (k + 1) ((List.range k).map (i64s l) ++ [i64s l k])) (hg : (wr.alloc o).grownBy w1 v.ownBlock) : Cho l mask (k + 1) v' w w1 := by
  have hs := h.size
  refine ⟨by rw [range_snoc]; exact ho, (h.seen.alloc o).of_block (hg.block _ ?_ ?_), (h.bel.alloc h.bel.size o).grown hg (by simp; have := h.bel.size; omega) (fun q hq => ?_), ?_⟩
  · simp; omega
  · intro e
    have := (h.own.lt _ e.symm).1
    omega
  · have := (h.own.lt q hq).1
    omega
  · have := hg.size
    simp at this
    omega
theorem Cho.set (h : Cho l mask k v w wr) (a : Nat) : Cho l (mask ||| 1 <<< a) k v w (wr.setCell ⟨w.heap.size, a, none⟩ (.bool true)) := by
  refine ⟨own_turned h.own (Nat.lt_succ_self _) ((Turned.refl w.heap.size wr).setCell a _), (h.seen.set a _).congr (fun x _ => ?_), h.bel.setCell (p := ⟨w.heap.size, a, none⟩) (Nat.le_refl _) _, ?_⟩
  · rw [Nat.testBit_or, Nat.one_shiftLeft, Nat.testBit_two_pow]
    by_cases e : x = a
    · rw [if_pos e, e]; simp
    · rw [if_neg e]
      have : decide (a = x) = false := by simp; omega
      rw [this, Bool.or_false]
  · have := h.size
    simp [World.setCell]
    omega
theorem Cho.drew (h : Cho l mask k v w wr) : Cho l mask k v w wr.drew := ⟨h.own, h.seen, h.bel.drew, h.size⟩
end

def ChoAt (n s f many : Nat) (w : World) (s10 s12 s13 : Value) (wr : World) : Prop :=
  ∃ k : Nat, k ≤ many ∧ s13 = .int .i64 k ∧ s12 = .int .i64 (chAt n s f k) ∧ Cho (fun j => (chAt n s f j : Int)) (chM n s f k) k s10 w wr

set_option maxRecDepth 100000 in
set_option maxHeartbeats 2000000 in
theorem chosen11 (n many f s : Nat) (hn : 1 ≤ n) (hn2 : n ≤ 20) (hm : many ≤ n) (hf : f ≤ 100000) (hs : s ≤ 100000) (w : World) :
    Calls Try.prog 11 #[.int .i64 n, .int .i64 many, .int .i64 f, .int .i64 s] w fun e w' => ∃ A c, e = .returned (.tuple #[.slice A many c, .bool true]) ∧ (∀ b, b < w.heap.size → Rd b w' (i64s (fun j => (chAt n s f j : Int))) A many) ∧ Below w.heap.size w w' := by
  obtain ⟨j0, hj, hy0, hy1, hy2⟩ := info_parts infoI
  have hmk : ∀ w : World, (Instr.makeSlice TBos (.int .i64 20) (.int .i64 20)).run Try.prog w = .ok (.slice (some ⟨w.heap.size, 0, none⟩) 20 20) (w.alloc (.cells (madeCells #[.bool false] 20) TBo)) := run_make_row' (P := Try.prog) TBos TBo (.bool false) 1 underBo infoBo rfl .i64 .i64 20 (by omega) (by omega)
  have hz : ¬ (n : Int) = 0 := by omega
  have HA0 := Lib.hid (show ((f : Int) % (n : Int)) = ((chAt n s f 0 : Nat) : Int) from by show _ = ((f % n : Nat) : Int); omega)
  go_enter Try.func11, Try.ntmps11
  go_wp2_with fail
  go_loopw [10, 12, 13] (fun s10 s12 s13 wr => ChoAt n s f many w s10 s12 s13 wr) (fun _ _ s13 _ => many - (intOf s13).toNat)
  case atStart => exact ⟨0, Nat.zero_le _, rfl, by rw [HA0.out], Cho.start _ w⟩
  case round =>
    clear HA0
    obtain ⟨k, hk, rfl, rfl, hC⟩ := hrel
    obtain ⟨A, c, rfl, hkc, _⟩ := Rd.of_own (b := 0) hC.own (by omega)
    have HC := Lib.hid hC
    have hsz := hC.size
    by_cases hlt : k < many
    · have hd1 : decide ((k : Int) < 2 * (n : Int)) = true := by simp; omega
      have hd2 : decide ((k : Int) < (many : Int)) = true := by simp; omega
      have ha := chAt_lt hn s f k
      have HN := Lib.hid (ch_new hn hn2 s f (show k < n by omega))
      have c1 := hC.seen.cell (i := chAt n s f k) (by omega)
      rw [HN.out] at c1
      have HV := Lib.hid (show i64s (fun j => (chAt n s f j : Int)) k = .int .i64 (chAt n s f k) from rfl)
      obtain ⟨a, hae⟩ : ∃ a, chAt n s f k = a := ⟨_, rfl⟩
      rw [hae] at ha c1 HV ⊢
      clear hC
      go_wp2_with (at_builtin; refine wpList_append_own _ rfl _ _ TIs rfl (w.heap.size + 1) TI j0 (.int .i64 0) 1 8 underI hj hy0 hy1 hy2 rfl (by decide) _ _ _ rfl (HC.out.own.alloc _) ⟨wr.heap.size, 0, none⟩ 1 1 [i64s (fun j => (chAt n s f j : Int)) k] rfl rfl (news_one HV.out.symm) (one_i64 _) (by unfold maxLen; omega) (by omega) (by simp; omega) ?_)
      intro v' w1 hown' hgrow _
      have hC1 := HC.out.app hown' hgrow
      have c2 := hC1.seen.cell (i := a) (by omega)
      have f2 := hC1.seen.frozen a
      have hC2 := hC1.set a
      rw [← hae, ← chM_succ, hae] at hC2
      have HS := Lib.hid (chAt_succ n s f k)
      rw [hae] at HS
      obtain ⟨d, hd⟩ : ∃ d, (a + s) % n = d := ⟨_, rfl⟩
      have hdn : d < n := by rw [← hd]; exact Nat.mod_lt _ (by omega)
      have hmod : ((a : Int) + (s : Int)) % (n : Int) = (d : Int) := by rw [← hd, Int.natCast_emod, Int.natCast_add]
      rw [hd] at HS
      have c3 := hC2.seen.cell (i := d) (by omega)
      have HC2 := Lib.hid hC2
      clear hC1 hC2 hown' hgrow HC HV c1 HN hd hae
      cases hbit : (chM n s f (k + 1)).testBit d
      · rw [hbit] at c3
        rw [hbit, if_neg (by simp)] at HS
        clear hbit
        go_wp2_with fail
        exact ⟨⟨k + 1, hlt, by go_num, by rw [HS.out, hmod], HC2.out⟩, by simp [intOf]; omega⟩
      · rw [hbit] at c3
        rw [hbit, if_pos rfl] at HS
        obtain ⟨d2, hd2⟩ : ∃ d2, (d + 1) % n = d2 := ⟨_, rfl⟩
        have hmod2 : ((d : Int) + 1) % (n : Int) = (d2 : Int) := by rw [← hd2, Int.natCast_emod, Int.natCast_add]; rfl
        rw [hd2] at HS
        clear hbit hd2
        go_wp2_with fail
        exact ⟨⟨k + 1, hlt, by go_num, by rw [HS.out, hmod2], HC2.out⟩, by simp [intOf]; omega⟩
    · obtain rfl : k = many := by omega
      have hd1 : decide ((k : Int) < 2 * (n : Int)) = true := by simp; omega
      have hd2 : decide ((k : Int) < (k : Int)) = false := by simp
      have HE := Lib.hid (show (∀ b, b < w.heap.size → Rd b wr (i64s (fun j => (chAt n s f j : Int))) A k) ∧ Below w.heap.size w wr from ⟨fun b hb => by
        obtain ⟨A', c', e', _, h⟩ := Rd.of_own (b := b) hC.own (by omega)
        injection e' with e'
        subst e'
        exact h, hC.bel⟩)
      clear hC
      go_wp2_with fail
      go_ret2
      exact ⟨A, c, rfl, HE.out⟩
end Go.Proofs.Ytmpamgnbbomoaaa
