/- Contracts of package matrix: rows copied, picked and joined; the identity. -/
import Derived.Test.YtmpamgnbbomoaaaMtd
import Derived.Lib.SliceRun
namespace Go.Proofs.Ytmpamgnbbomoaaa
open Go.RowKit

theorem underI : Try.prog.underlying TIs = some (.slice TI) := Try.underlying33
theorem underM' : Try.prog.underlying TM = some (.slice TIs) := Try.underlying29

set_option maxRecDepth 100000 in
set_option maxHeartbeats 1000000 in
/-- Clone, of any numbers -/
theorem clone38 (b : Nat) (f : Nat → Int) (A : Option Addr) (n c : Nat) (hn : n ≤ 100000) (w : World) (hr : Rd b w (i64s f) A n) :
    Calls Try.prog 40 #[.slice A n c] w fun e w' => ∃ A' c', e = .returned (.slice A' n c') ∧ n ≤ c' ∧ (∀ b', b' < w.heap.size → Rd b' w' (i64s f) A' n) ∧ Below w.heap.size w w' := by
  obtain ⟨i0, hi, hz0, hz1, hz2⟩ := info_parts infoI
  rcases A with _ | ad
  · have h0 : n = 0 := by
      rcases Nat.eq_zero_or_pos n with h | h
      · exact h
      · obtain ⟨_, e, _⟩ := hr h
        cases e
    subst h0
    clear hr
    have hnl := Lib.run_eql_slice_nil (P := Try.prog) w TIs TI none 0 c 0 0 underI
    go_enter Try.func40, Try.ntmps40
    go_wp2_with fail
    go_ret
    exact ⟨none, 0, rfl, Nat.le_refl _, fun _ _ => Rd.zero, Below.refl _ _⟩
  · have HR := Lib.hid hr
    clear hr
    go_enter Try.func40, Try.ntmps40
    have hnl := Lib.run_eql_slice_nil (P := Try.prog) w TIs TI (some ad) n c 0 0 underI
    go_wp2_with (at_builtin; refine wpList_append_own _ rfl _ _ TIs rfl w.heap.size TI i0 (.int .i64 0) 1 8 underI hi hz0 hz1 hz2 rfl (by decide) _ 0 [] rfl (World.ownsRow_lit w #[] 0 (Nat.le_refl _) (Nat.zero_le _) rfl) ad n c ((List.range n).map (i64s f)) rfl (by simp) ?c1 ?c2 ?c3 ?c4 ?c5 ?_)
    case c1 => exact cells_rd (HR.out.below (below_alloc w _))
    case c2 =>
      intro u hu
      obtain ⟨j, _, rfl⟩ := List.mem_map.1 hu
      rfl
    case c3 => unfold maxLen; omega
    case c4 => omega
    case c5 => simp
    intro v' w1 hown hg _
    have hx : ∃ A' c', v' = .slice A' n c' ∧ n ≤ c' ∧ ∀ b', b' < w.heap.size → Rd b' w1 (i64s f) A' n := by
      rcases hown.2 with ⟨rfl, rfl⟩ | ⟨g, cap, cur, rfl, hgb, hh, hc, _, hs, ht⟩
      · exact ⟨none, 0, rfl, Nat.le_refl _, fun _ _ => Rd.zero⟩
      · refine ⟨_, cap, rfl, hc, fun b' hb' => ?_⟩
        obtain ⟨A2, c2, e2, _, h2⟩ := Rd.of_own (b := b') hown hb'
        injection e2 with e2
        subst e2
        exact h2
    obtain ⟨A', c', rfl, hcc, hrd⟩ := hx
    have HE := Lib.hid (And.intro hcc (And.intro hrd (((Below.refl _ w).alloc (Nat.le_refl _) _).grown hg (by simp) (fun q h => by simp [Value.ownBlock] at h; omega))))
    clear hown hg hrd hnl
    go_wp2_with fail
    go_ret
    exact ⟨A', c', rfl, HE.out⟩

/-- a matrix that is told -/
def MatTold (n : Nat) (F : Nat → Nat → Int) (Ls : Nat → Nat) (w : World) (v : Value) (w' : World) : Prop := ∃ A c, v = .slice A n c ∧ n ≤ c ∧ (∀ b, b < w.heap.size → Mx b w' F Ls A n) ∧ Below w.heap.size w w'
theorem MatTold.from {n : Nat} {F : Nat → Nat → Int} {Ls : Nat → Nat} {w w1 w' : World} {v : Value} (hb : Below w.heap.size w w1) (h : MatTold n F Ls w1 v w') : MatTold n F Ls w v w' := by
  obtain ⟨A, c, h1, h2, h3, h4⟩ := h
  exact ⟨A, c, h1, h2, fun b hb' => h3 b (Nat.lt_of_lt_of_le hb' hb.size), below_tr hb h4⟩
theorem MatTold.nil {F : Nat → Nat → Int} {Ls : Nat → Nat} {w w' : World} (h : Below w.heap.size w w') : MatTold 0 F Ls w nilS w' := ⟨none, 0, rfl, Nat.le_refl _, fun _ _ => Mx.zero, h⟩

/-- a matrix that is being built at block g: k of its n rows are laid -/
def Bld (g n : Nat) (F : Nat → Nat → Int) (Ls : Nat → Nat) (w : World) (k : Nat) (W : World) : Prop :=
  w.heap.size ≤ g ∧ Below w.heap.size w W ∧ ∃ (As : Nat → Option Addr) (Cs : Nat → Nat), W.rowIs g TIs n (fun r => if r < k then .slice (As r) (Ls r) (Cs r) else nilS) ∧ ∀ r, r < k → ∀ b, (b < w.heap.size ∨ b = g) → Rd b W (i64s (F r)) (As r) (Ls r)

theorem Rd.set_other {b g i : Nat} {w : World} {k : Nat → Value} {A : Option Addr} {n : Nat} (h : Rd b w k A n) (hg : Rd g w k A n) (v : Value) : Rd b (w.setCell ⟨g, i, none⟩ v) k A n := fun hn => by
  obtain ⟨ad, rfl, h1, h2, hc⟩ := h hn
  obtain ⟨ad', e, h3, _, _⟩ := hg hn
  injection e with e
  subst e
  refine ⟨ad, rfl, h1, by simpa [World.setCell] using h2, fun j hj => (World.cell?_of_block (Below.heap_setCell _ _ _ _ ?_)).trans (hc j hj)⟩
  rw [block_of_add]
  exact h3

theorem Bld.start (n : Nat) (F : Nat → Nat → Int) (Ls : Nat → Nat) (w : World) : Bld w.heap.size n F Ls w 0 (w.alloc (.cells (madeCells #[nilS] n) TIs)) :=
  ⟨Nat.le_refl _, below_alloc _ _, fun _ => none, fun _ => 0, (World.rowIs_made w nilS n TIs).congr (fun r _ => by rw [if_neg (by omega)]), fun r hr => absurd hr (by omega)⟩
theorem Bld.below {g n : Nat} {F : Nat → Nat → Int} {Ls : Nat → Nat} {w : World} {k : Nat} {W W' : World} (h : Bld g n F Ls w k W) (hb : Below W.heap.size W W') : Bld g n F Ls w k W' := by
  obtain ⟨h1, h2, As, Cs, h3, h4⟩ := h
  exact ⟨h1, below_tr h2 hb, As, Cs, h3.of_block (hb.block _ h3.lt), fun r hr b hb' => (h4 r hr b hb').below hb⟩
theorem Bld.step {g n : Nat} {F : Nat → Nat → Int} {Ls : Nat → Nat} {w : World} {k : Nat} {W : World} {A' : Option Addr} {c' : Nat} (h : Bld g n F Ls w k W) (hr : ∀ b, (b < w.heap.size ∨ b = g) → Rd b W (i64s (F k)) A' (Ls k)) :
    Bld g n F Ls w (k + 1) (W.setCell ⟨g, k, none⟩ (.slice A' (Ls k) c')) := by
  obtain ⟨h1, h2, As, Cs, h3, h4⟩ := h
  refine ⟨h1, h2.setCell (p := ⟨g, k, none⟩) h1 _, fun r => if r = k then A' else As r, fun r => if r = k then c' else Cs r, (h3.set k _).congr (fun r _ => ?_), fun r hr' b hb => ?_⟩
  · rcases Nat.lt_trichotomy r k with e | e | e
    · rw [if_neg (by omega), if_pos e, if_pos (by omega)]
      dsimp only
      rw [if_neg (by omega), if_neg (by omega)]
    · subst e
      rw [if_pos rfl, if_pos (by omega)]
      dsimp only
      rw [if_pos rfl, if_pos rfl]
    · rw [if_neg (by omega), if_neg (by omega), if_neg (by omega)]
  · by_cases e : r = k
    · subst e
      dsimp only
      rw [if_pos rfl]
      exact (hr b hb).set_other (hr g (Or.inr rfl)) _
    · dsimp only
      rw [if_neg e]
      exact (h4 r (by omega) b hb).set_other (h4 r (by omega) g (Or.inr rfl)) _
theorem Bld.cell {g n : Nat} {F : Nat → Nat → Int} {Ls : Nat → Nat} {w : World} {k : Nat} {W : World} (h : Bld g n F Ls w k W) {i : Nat} (hi : i < n) : ∃ v, W.cell? ⟨g, i, none⟩ = some v ∧ v.cells.size = 1 ∧ W.frozen? ⟨g, i, none⟩ = false := by
  obtain ⟨h1, h2, As, Cs, h3, h4⟩ := h
  refine ⟨_, h3.cell hi, ?_, h3.frozen i⟩
  split <;> rfl
theorem Bld.told {g n : Nat} {F : Nat → Nat → Int} {Ls : Nat → Nat} {w : World} {W : World} (h : Bld g n F Ls w n W) (c : Nat) (hc : n ≤ c) : MatTold n F Ls w (.slice (some ⟨g, 0, none⟩) n c) W := by
  obtain ⟨h1, h2, As, Cs, h3, h4⟩ := h
  exact ⟨_, c, rfl, hc, fun b hb => ⟨As, Cs, (Rd.of_row h3 (by omega) (Nat.le_refl _)).congr (fun r hr => by rw [if_pos hr]), fun r hr => h4 r hr b (Or.inl hb)⟩, h2⟩

set_option maxRecDepth 100000 in
set_option maxHeartbeats 1000000 in
theorem copied29 (b : Nat) (F : Nat → Nat → Int) (Ls : Nat → Nat) (A : Option Addr) (n c : Nat) (hn : n ≤ 1000) (hl : ∀ r, r < n → Ls r ≤ 100000) (w : World) (hr : Mx b w F Ls A n) :
    Calls Try.prog 24 #[.slice A n c] w fun e w' => ∃ v, e = .returned v ∧ MatTold n F Ls w v w' := by
  have hmk := run_make_row' (P := Try.prog) TM TIs nilS 24 underM' infoRow rfl .i64 .i64 n (by omega) (by omega)
  obtain ⟨As, Cs, hr1, hr2⟩ := hr
  have HR := Lib.hid hr1
  have HRS := Lib.hid hr2
  have HL := Lib.hid hl
  clear hr1 hr2 hl
  go_enter Try.func24, Try.ntmps24
  go_wp2_with fail
  go_loopw [11] (fun s11 wr => ∃ k : Nat, k ≤ n ∧ s11 = .int .i64 k ∧ Hid (Bld w.heap.size n F Ls w k wr)) (fun s11 _ => n - (intOf s11).toNat)
  case atStart => exact ⟨0, Nat.zero_le _, rfl, Lib.hid (Bld.start n F Ls w)⟩
  case round =>
    obtain ⟨k, hk, rfl, hb⟩ := hrel
    by_cases hlt : k < n
    · obtain ⟨ad, rfl, hcell⟩ := (HR.out.below hb.out.2.1).at_ hlt
      simp only [slis] at hcell
      have hsz := hb.out.2.2
      go_wp2_with fail
      refine (clone38 b (F k) (As k) (Ls k) (Cs k) (HL.out k hlt) _ ((HRS.out k hlt).below hb.out.2.1)).mono ?_
      rintro e w1 ⟨A', c', rfl, _, hrd, hb1⟩
      have hb2 := hb.out.below hb1
      have hgs : w.heap.size < wr.heap.size := by obtain ⟨_, _, h3, _⟩ := hsz; exact h3.lt
      have HS := Lib.hid (hb2.step (k := k) (A' := A') (c' := c') (fun b' hb' => hrd b' (by rcases hb' with h | h <;> omega)))
      obtain ⟨v0, g1, _, f1⟩ := hb2.cell hlt
      clear hb2 hrd hb1 hsz
      go_wp2_with fail
      exact ⟨⟨k + 1, hlt, by go_num, HS⟩, by simp [intOf]; omega⟩
    · obtain rfl : k = n := by omega
      go_wp2_with fail
      go_ret
      exact ⟨_, rfl, hb.out.told k (Nat.le_refl _)⟩
end Go.Proofs.Ytmpamgnbbomoaaa
