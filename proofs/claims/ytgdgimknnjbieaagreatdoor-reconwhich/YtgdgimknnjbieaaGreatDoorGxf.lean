/- The contracts of slices.Grow and slices.Concat of numbers, and of package invert's beside. The contract of package invert's beside: rows that are joined, each in a block of its own. The contract of package invert's quotient. -/
import Derived.Test.YtgdgimknnjbieaaGreatDoorGxe

namespace Go.Proofs.YtgdgimknnjbieaaGreatDoor
open Go.RowKit

set_option maxRecDepth 100000 in
set_option maxHeartbeats 1000000 in
/-- Grow, of nothing -/
theorem grow57 (N : Nat) (h0 : 0 < N) (hN : N ≤ 10000) (w : World) :
    Calls Tryz.prog 178 #[nilS, .int .i64 N] w fun e w' => ∃ v, e = .returned v ∧ w'.ownsRow w.heap.size TI 1 v 0 [] ∧ Below w.heap.size w w' := by
  obtain ⟨i0, hi, hz0, hz1, hz2⟩ := info_parts infoI
  have hrun := Lib.run_append_nil_zeros (P := Tryz.prog) w TIs TI TIs TI i0 (.int .i64 0) .i64 .i64 underI Tryz.underlying3 hi hz0 N h0 (by omega) (by omega) (by rw [hz2]; omega)
  have hge := grownCap_ge w N 0 TI
  have hle := grownCap_le_maxLen w N 0 TI (by unfold maxLen; omega)
  obtain ⟨c, hc⟩ : ∃ c, grownCap w N 0 TI = c := ⟨_, rfl⟩
  obtain ⟨cur, hcur⟩ : ∃ cur, Builtin.zeroCells (Value.int .i64 0).cells N ++ Builtin.zeroCells (Value.int .i64 0).cells (grownCap w N 0 TI - N) = cur := ⟨_, rfl⟩
  have hsz : cur.size = c := by
    rw [← hcur, ← hc, Array.size_append, size_zeroCells, size_zeroCells]
    simp [Value.cells]
    omega
  rw [hcur, hc] at hrun
  rw [hc] at hge hle
  have HE : Hid ((w.drew.alloc (.cells cur TI)).ownsRow w.heap.size TI 1 (.slice (some ⟨w.heap.size, 0, none⟩) 0 c) 0 [] ∧ Below w.heap.size w (w.drew.alloc (.cells cur TI))) :=
    Lib.hid ⟨⟨rfl, Or.inr ⟨w.heap.size, c, cur, rfl, Nat.le_refl _, World.alloc_heap_new w.drew _, Nat.zero_le _, hle, by rw [hsz, Nat.mul_one], rfl⟩⟩, (Below.refl _ w).drew.alloc (Nat.le_refl _) _⟩
  clear hcur hc
  have HRUN := Lib.hid hrun
  clear hrun
  go_enter Tryz.func178, Tryz.ntmps178
  go_wp2_with (at_builtin; refine Lib.wpList_append_run _ rfl _ _ _ _ rfl _ _ rfl rfl _ _ HRUN.out ?_)
  go_ret
  exact ⟨_, rfl, HE.out⟩

/-- how many numbers the first k rows have, and which -/
def catN (Ls : Nat → Nat) : Nat → Nat
  | 0 => 0
  | k + 1 => catN Ls k + Ls k
def catV (F : Nat → Nat → Int) (Ls : Nat → Nat) : Nat → List Value
  | 0 => []
  | k + 1 => catV F Ls k ++ (List.range (Ls k)).map (i64s (F k))
theorem catN_le {Ls : Nat → Nat} {N : Nat} (hL : ∀ r, r < N → Ls r ≤ 100) : ∀ k, k ≤ N → catN Ls k ≤ 100 * k
  | 0, _ => Nat.le_refl _
  | k + 1, hk => by
    have := catN_le hL k (by omega)
    have := hL k (by omega)
    rw [catN]
    omega
theorem one_i64s (f : Nat → Int) (j : Nat) : (i64s f j).oneCell' = true := rfl

/-- in Concat's second loop -/
def ConAt (F : Nat → Nat → Int) (Ls : Nat → Nat) (N : Nat) (w0 : World) (s6 s27 : Value) (wr : World) : Prop :=
  ∃ k : Nat, k ≤ N ∧ s27 = .int .i64 k ∧ wr.ownsRow w0.heap.size TI 1 s6 (catN Ls k) (catV F Ls k) ∧ Below w0.heap.size w0 wr

set_option maxRecDepth 100000 in
set_option maxHeartbeats 2000000 in
theorem concat35 (b : Nat) (F : Nat → Nat → Int) (As : Nat → Option Addr) (Ls Cs : Nat → Nat) (A : Option Addr) (N c : Nat) (hN : N ≤ 100) (hL : ∀ r, r < N → Ls r ≤ 100) (hpos : 0 < catN Ls N) (w : World)
    (hr : Rd b w (slis As Ls Cs) A N) (hrr : ∀ r, r < N → Rd b w (i64s (F r)) (As r) (Ls r)) (hnil : ∀ r, r < N → As r = none → Cs r = 0) :
    Calls Tryz.prog 151 #[.slice A N c] w fun e w' => ∃ v, e = .returned v ∧ w'.ownsRow w.heap.size TI 1 v (catN Ls N) (catV F Ls N) ∧ Below w.heap.size w w' := by
  obtain ⟨i0, hi, hz0, hz1, hz2⟩ := info_parts infoI
  have HR := Lib.hid hr
  have HRR := Lib.hid hrr
  have HNIL := Lib.hid hnil
  have HCN := Lib.hid (catN_le hL)
  clear hr hrr hnil hL
  go_enter Tryz.func151, Tryz.ntmps151
  go_wp2_with fail
  go_loop [3, 11] (fun s3 s11 => ∃ k : Nat, k ≤ N ∧ s11 = .int .i64 k ∧ s3 = .int .i64 (catN Ls k)) (fun _ s11 => N - (intOf s11).toNat)
  case atStart => exact ⟨0, Nat.zero_le _, rfl, rfl⟩
  case round =>
    obtain ⟨k, hk, rfl, rfl⟩ := hrel
    by_cases hlt : k < N
    · obtain ⟨ad, rfl, hcell⟩ := HR.out.at_ hlt
      simp only [slis] at hcell
      have hb1 := HCN.out k (by omega)
      have hb2 := HCN.out (k + 1) (by omega)
      rw [catN] at hb2
      have hd : decide (((catN Ls k : Nat) : Int) + ((Ls k : Nat) : Int) < 0) = false := by simp; omega
      have HC := Lib.hid (show catN Ls (k + 1) = catN Ls k + Ls k from rfl)
      go_wp2_with fail
      exact ⟨⟨k + 1, hlt, by go_num, by rw [HC.out]; go_num⟩, by simp [intOf]; omega⟩
    · obtain rfl : k = N := by omega
      have hb1 := HCN.out k (Nat.le_refl _)
      go_wp2_with fail
      refine (grow57 (catN Ls k) hpos (by omega) _).mono ?_
      rintro e w1 ⟨v, rfl, hown, hb⟩
      have HST := Lib.hid (show ConAt F Ls k w v (.int .i64 (0 : Nat)) w1 from ⟨0, Nat.zero_le _, rfl, hown, hb⟩)
      clear hown hb
      go_wp2_with fail
      go_loopw [6, 27] (fun s6 s27 wr => ConAt F Ls k w s6 s27 wr) (fun _ s27 _ => k - (intOf s27).toNat)
      case atStart => exact HST.out
      case round =>
        clear HST
        obtain ⟨i, hi', rfl, hown, hbel⟩ := hrel
        have HOWN := Lib.hid hown
        have HBEL := Lib.hid hbel
        have hsz := hbel.size
        clear hown
        by_cases hlt2 : i < k
        · obtain ⟨ad, rfl, hcell⟩ := (HR.out.below hbel).at_ hlt2
          simp only [slis] at hcell
          have hc1 := HCN.out (i + 1) (by omega)
          rw [catN] at hc1
          clear hbel
          go_wp2_with (at_builtin; refine append_rd _ rfl _ _ TIs rfl w.heap.size TI i0 (.int .i64 0) 8 underI hi hz0 hz1 hz2 rfl _ _ _ rfl HOWN.out b _ _ _ _ rfl (HNIL.out i hlt2) ((HRR.out i hlt2).below HBEL.out) (one_i64s _) (by unfold maxLen; omega) (by omega) hsz ?_)
          intro v' w2 hown2 hgr
          have HS := Lib.hid (show ConAt F Ls k w v' (.int .i64 ((i + 1 : Nat) : Int)) w2 from ⟨i + 1, by omega, rfl, hown2, HBEL.out.grown hgr hsz (fun q hq => (HOWN.out.lt q hq).1)⟩)
          clear hown2 hgr
          go_wp2_with fail
          exact ⟨by rw [show ((i : Nat) : Int) + 1 = ((i + 1 : Nat) : Int) by omega]; exact HS.out, by simp [intOf]; omega⟩
        · obtain rfl : i = k := by omega
          clear hbel
          go_wp2_with fail
          go_ret
          exact ⟨_, rfl, HOWN.out, HBEL.out⟩
end Go.Proofs.YtgdgimknnjbieaaGreatDoor

namespace Go.Proofs.YtgdgimknnjbieaaGreatDoor
open Go.RowKit

/-- a row that the call owns is a block -/
theorem own_row {w : World} {base n : Nat} {v : Value} {xs : List Value} (h : w.ownsRow base TI 1 v n xs) (hn : 0 < n) : ∃ g cap T, v = .slice (some ⟨g, 0, none⟩) n cap ∧ base ≤ g ∧ n ≤ cap ∧ w.rowIs g TI cap T ∧ ∀ j u, xs[j]? = some u → T j = u := by
  rcases h.2 with ⟨_, h0⟩ | ⟨g, cap, cur, e, hg, hh, hc, _, hs, ht⟩
  · omega
  · refine ⟨g, cap, fun j => cur.getD j undef, e, hg, hc, ⟨cur, hh, by omega, fun i hi => ?_⟩, fun j u hj => ?_⟩
    · have hlt : i < cur.size := by omega
      simp [Array.getD, hlt]
    · rw [← ht, List.getElem?_take] at hj
      split at hj
      · have e1 : cur[j]? = some u := by rw [← Array.getElem?_toList]; exact hj
        simp [Array.getD_eq_getD_getElem?, e1]
      · cases hj

section
variable {q : FP}
/-- i of n rows are laid -/
structure GridTo (i n m g : Nat) (gs Cs : Nat → Nat) (X : Nat → Nat → El q) (w W : World) : Prop where
  out : W.rowIs g TIs n (fun r => if r < i then .slice (some ⟨gs r, 0, none⟩) m (Cs r) else nilS)
  row : ∀ r, r < i → ∃ T, W.rowIs (gs r) TI (Cs r) T ∧ ∀ j, j < m → T j = .int .i64 ((X r j).val : Nat)
  inj : ∀ r s, r < i → s < i → gs r = gs s → r = s
  cap : ∀ r, r < i → m ≤ Cs r
  glow : w.heap.size ≤ g
  low : ∀ r, r < i → w.heap.size ≤ gs r
  bel : Below w.heap.size w W
variable {i n m g : Nat} {gs Cs : Nat → Nat} {X : Nat → Nat → El q} {w W W' : World}
theorem GridTo.below (h : GridTo i n m g gs Cs X w W) (hb : Below W.heap.size W W') : GridTo i n m g gs Cs X w W' :=
  ⟨h.out.of_block (hb.block _ h.out.lt), fun r hr => by
    obtain ⟨T, t1, t2⟩ := h.row r hr
    exact ⟨T, t1.of_block (hb.block _ t1.lt), t2⟩, h.inj, h.cap, h.glow, h.low, below_tr h.bel hb⟩
theorem GridTo.start (n m : Nat) (X : Nat → Nat → El q) (w : World) : GridTo 0 n m w.heap.size (fun _ => 0) (fun _ => 0) X w (w.alloc (.cells (madeCells #[nilS] n) TIs)) :=
  ⟨(World.rowIs_made w nilS n TIs).congr (fun r _ => by rw [if_neg (by omega)]), fun r hr => absurd hr (by omega), fun r _ hr => absurd hr (by omega), fun r hr => absurd hr (by omega), Nat.le_refl _, fun r hr => absurd hr (by omega), below_alloc _ _⟩
/-- a row is laid: it lies in a block that was not there in W0 -/
theorem GridTo.step {W0 : World} {g' cap : Nat} {T : Nat → Value} (h : GridTo i n m g gs Cs X w W0) (hb : Below W0.heap.size W0 W) (hg : W0.heap.size ≤ g') (hT : W.rowIs g' TI cap T) (hc : m ≤ cap) (hv : ∀ j, j < m → T j = .int .i64 ((X i j).val : Nat)) :
    GridTo (i + 1) n m g (fun r => if r = i then g' else gs r) (fun r => if r = i then cap else Cs r) X w (W.setCell ⟨g, i, none⟩ (.slice (some ⟨g', 0, none⟩) m cap)) := by
  have h' := h.below hb
  have hgl := h.out.lt
  have hne : g' ≠ g := by omega
  refine ⟨(h'.out.set i _).congr (fun r _ => ?_), fun r hr => ?_, fun r s hr hs e => ?_, fun r hr => ?_, h.glow, fun r hr => ?_, h'.bel.setCell (p := ⟨g, i, none⟩) h.glow _⟩
  · rcases Nat.lt_trichotomy r i with e | e | e
    · rw [if_neg (by omega), if_pos e, if_pos (by omega), if_neg (by omega), if_neg (by omega)]
    · rw [if_pos e, if_pos (by omega), if_pos e, if_pos e]
    · rw [if_neg (by omega), if_neg (by omega), if_neg (by omega)]
  · by_cases e : r = i
    · simp only [if_pos e]
      exact ⟨T, hT.setOther (a := ⟨g, i, none⟩) hne _, fun j hj => by rw [e]; exact hv j hj⟩
    · simp only [if_neg e]
      obtain ⟨T', t1, t2⟩ := h'.row r (by omega)
      refine ⟨T', t1.setOther (a := ⟨g, i, none⟩) (fun e' => ?_) _, t2⟩
      have k1 := h'.out
      rw [show gs r = g from e'] at t1
      exact absurd (rowIs_kind t1 k1) (by decide)
  · have hlo : ∀ r, r < i → gs r ≠ g' := fun r hr e' => by
      obtain ⟨T', t1, _⟩ := h.row r hr
      have := t1.lt
      omega
    by_cases e1 : r = i
    · by_cases e2 : s = i
      · omega
      · simp only [if_pos e1, if_neg e2] at e
        exact absurd e.symm (hlo s (by omega))
    · by_cases e2 : s = i
      · simp only [if_neg e1, if_pos e2] at e
        exact absurd e (hlo r (by omega))
      · simp only [if_neg e1, if_neg e2] at e
        exact h.inj r s (by omega) (by omega) e
  · by_cases e : r = i
    · simp only [if_pos e]; exact hc
    · simp only [if_neg e]; exact h.cap r (by omega)
  · by_cases e : r = i
    · simp only [if_pos e]
      have := h.bel.size
      omega
    · simp only [if_neg e]; exact h.low r (by omega)
theorem GridTo.grid (h : GridTo n n m g gs Cs X w W) : Grid n m g gs Cs X W := ⟨h.out.congr (fun r hr => by rw [if_pos hr]), h.row, h.inj, h.cap⟩
theorem GridTo.cell (h : GridTo i n m g gs Cs X w W) {r : Nat} (hr : r < n) : ∃ v, W.cell? ⟨g, r, none⟩ = some v ∧ W.frozen? ⟨g, r, none⟩ = false := ⟨_, h.out.cell hr, h.out.frozen r⟩
end

/-- in beside's loop -/
def BesAt (q : FP) (n m : Nat) (X : Nat → Nat → El q) (w : World) (s13 : Value) (wr : World) : Prop := ∃ i : Nat, i ≤ n ∧ s13 = .int .i64 i ∧ ∃ gs Cs, GridTo i n m w.heap.size gs Cs X w wr
/-- what beside tells -/
def BesSaid (q : FP) (n m : Nat) (X : Nat → Nat → El q) (w : World) (e : Ending) (w' : World) : Prop :=
  ∃ g gs Cs, e = .returned (.slice (some ⟨g, 0, none⟩) n n) ∧ Grid n m g gs Cs X w' ∧ w.heap.size ≤ g ∧ (∀ r, r < n → w.heap.size ≤ gs r) ∧ Below w.heap.size w w'

/-- the two rows, one behind the other -/
theorem cat_two {q : FP} {k m : Nat} {XA XB : Nat → Nat → El q} {i : Nat} (j : Nat) (hj : j < k + m) :
    (catV (fun s x => if s = 0 then ((XA i x).val : Int) else ((XB i x).val : Int)) (fun s => if s = 0 then k else m) 2)[j]? = some (.int .i64 ((aug k XA XB i j).val : Nat)) := by
  simp only [catV, List.nil_append]
  simp only [if_pos, if_neg (show ¬ (1 = 0) by omega)]
  rw [List.getElem?_append]
  unfold aug
  by_cases e : j < k
  · rw [if_pos (by simpa using e), if_pos e, List.getElem?_map, List.getElem?_range e]
    rfl
  · rw [if_neg (by simpa using e), if_neg e, List.getElem?_map, List.length_map, List.length_range, List.getElem?_range (by omega)]
    rfl

set_option maxRecDepth 100000 in
set_option maxHeartbeats 2000000 in
theorem beside34 (q : FP) (b k m n : Nat) (XA XB : Nat → Nat → El q) (As Bs : Nat → Option Addr) (Ca Cb : Nat → Nat) (A B : Option Addr) (ca cb : Nat) (hk0 : 0 < k) (hk : k ≤ 20) (hm : m ≤ 20) (hn : n ≤ 20) (w : World) (hbw : b < w.heap.size)
    (ha : Rd b w (slis As (fun _ => k) Ca) A n) (har : ∀ r, r < n → Rd b w (i64s (fun j => ((XA r j).val : Int))) (As r) k)
    (hb : Rd b w (slis Bs (fun _ => m) Cb) B n) (hbr : ∀ r, r < n → Rd b w (i64s (fun j => ((XB r j).val : Int))) (Bs r) m) (hnil : ∀ r, r < n → Bs r = none → Cb r = 0) :
    Calls Tryz.prog 103 #[.slice A n ca, .slice B n cb] w (BesSaid q n (k + m) (aug k XA XB) w) := by
  have hmk := run_make_row' (P := Tryz.prog) TM TIs nilS 24 underM' infoRow rfl .i64 .i64 n (by omega) (by omega)
  have HA := Lib.hid ha
  have HAR := Lib.hid har
  have HB := Lib.hid hb
  have HBR := Lib.hid hbr
  have HNIL := Lib.hid hnil
  clear ha har hb hbr hnil
  go_enter Tryz.func103, Tryz.ntmps103
  go_wp2_with fail
  clear hmk
  go_loopw [13] (fun s13 wr => BesAt q n (k + m) (aug k XA XB) w s13 wr) (fun s13 _ => n - (intOf s13).toNat)
  case atStart => exact ⟨0, Nat.zero_le _, rfl, _, _, GridTo.start _ _ _ _⟩
  case round =>
    obtain ⟨i, hin, rfl, gs, Cs, hG⟩ := hrel
    have HG := Lib.hid hG
    by_cases hlt : i < n
    · obtain ⟨ad, rfl, c1⟩ := (HA.out.below hG.bel).at_ hlt
      obtain ⟨ad', rfl, c2⟩ := (HB.out.below hG.bel).at_ hlt
      simp only [slis] at c1 c2
      clear hG
      have hbr0 := HG.out.bel
      have hrow := World.rowIs_alloc wr #[.slice (As i) k (Ca i), .slice (Bs i) m (Cb i)] TIs (slis (fun s => if s = 0 then As i else Bs i) (fun s => if s = 0 then k else m) (fun s => if s = 0 then Ca i else Cb i)) (fun s hs => by
        simp at hs
        match s, hs with
        | 0, _ => rfl
        | 1, _ => rfl)
      have hba := below_alloc wr (.cells #[.slice (As i) k (Ca i), .slice (Bs i) m (Cb i)] TIs)
      have HBA := Lib.hid hba
      have HRD := Lib.hid (Rd.of_row (b := b) (n := 2) hrow (by have := hbr0.size; omega) (by simp))
      have HRR := Lib.hid (show ∀ s, s < 2 → Rd b (wr.alloc (.cells #[.slice (As i) k (Ca i), .slice (Bs i) m (Cb i)] TIs)) (i64s (fun x => if s = 0 then ((XA i x).val : Int) else ((XB i x).val : Int))) (if s = 0 then As i else Bs i) (if s = 0 then k else m) from fun s hs => by
        match s, hs with
        | 0, _ => exact ((HAR.out i hlt).below hbr0).below hba
        | 1, _ => exact ((HBR.out i hlt).below hbr0).below hba)
      have HNN := Lib.hid (show ∀ s, s < 2 → (if s = 0 then As i else Bs i) = none → (if s = 0 then Ca i else Cb i) = 0 from fun s hs h => by
        match s, hs with
        | 0, _ =>
          obtain ⟨_, e, _⟩ := HAR.out i hlt hk0
          rw [if_pos rfl, e] at h
          cases h
        | 1, _ => exact HNIL.out i hlt h)
      clear hrow hba hbr0
      obtain ⟨w1, hw1⟩ : ∃ w1, wr.alloc (.cells #[.slice (As i) k (Ca i), .slice (Bs i) m (Cb i)] TIs) = w1 := ⟨_, rfl⟩
      go_wp2_with fail
      rw [hw1] at HBA HRD HRR
      clear hw1
      refine (concat35 b (fun s x => if s = 0 then ((XA i x).val : Int) else ((XB i x).val : Int)) (fun s => if s = 0 then As i else Bs i) (fun s => if s = 0 then k else m) (fun s => if s = 0 then Ca i else Cb i) _ 2 2 (by omega) (fun s _ => by split <;> omega) (by simp [catN]; omega) w1 HRD.out HRR.out HNN.out).mono ?_
      rintro e w2 ⟨v, rfl, hown, hb2⟩
      rw [show catN (fun s => if s = 0 then k else m) 2 = k + m by simp [catN]] at hown
      obtain ⟨g', cap, T, rfl, hg', hcap, hT, hTv⟩ := own_row hown (by omega)
      have hB2 := below_tr HBA.out hb2
      have HS := Lib.hid (HG.out.step hB2 (Nat.le_trans HBA.out.size hg') hT hcap (fun j hj => hTv j _ (cat_two j hj)))
      obtain ⟨v0, d1, f1⟩ := (HG.out.below hB2).cell hlt
      clear hown hb2 hB2 hT hTv HRD HRR HNN HBA c1 c2
      go_wp2_with fail
      exact ⟨⟨i + 1, hlt, by go_num, _, _, HS.out⟩, by simp [intOf]; omega⟩
    · obtain rfl : i = n := by omega
      have HE := Lib.hid (show BesSaid q i (k + m) (aug k XA XB) w (.returned (.slice (some ⟨w.heap.size, 0, none⟩) i i)) wr from ⟨_, gs, Cs, rfl, hG.grid, hG.glow, hG.low, hG.bel⟩)
      clear hG
      go_wp2_with fail
      go_ret
      exact HE.out
end Go.Proofs.YtgdgimknnjbieaaGreatDoor

namespace Go.Proofs.YtgdgimknnjbieaaGreatDoor
open Go.RowKit

theorem sizeI (w : World) : (sizeOf TI).run Tryz.prog w = .ok 1 w := by
  obtain ⟨i0, hi, _, hz1, _⟩ := info_parts infoI
  simp [sizeOf, typeInfo, hi, hz1]
theorem elemI : Tryz.prog.elem TIs = TI := by kernel_rfl
theorem run_fromI (g len cap k : Nat) (hk : k ≤ len) (hc : k < cap) (w : World) : (Instr.slice TIs (.slice (some ⟨g, 0, none⟩) len cap) (some (.int .i64 k)) none none).run Tryz.prog w = .ok (.slice (some ⟨g, k, none⟩) (len - k) (cap - k)) w := by
  have hu : Tryz.prog.underlying TIs = some (.slice (Tryz.prog.elem TIs)) := by rw [elemI]; exact Tryz.underlying53
  rw [run_slice_l w TIs _ len cap hu .i64 k (by omega) (by omega), elemI, sizeI]
  have hne : ¬ cap = k := by omega
  simp [Result.andThen, sliced, hne, Addr.add]
  intro h
  omega
theorem run_atI (g len cap k : Nat) (hk : k ≤ len) (hc : k < cap) (w : World) : (Instr.sliceAt TIs (.slice (some ⟨g, 0, none⟩) len cap) (some (.int .i64 k)) none none).run Tryz.prog w = .ok (.slice (some ⟨g, k, none⟩) (len - k) (cap - k)) w := by
  have hu : Tryz.prog.underlying TIs = some (.slice (Tryz.prog.elem TIs)) := by rw [elemI]; exact Tryz.underlying53
  rw [run_sliceAt_slice w TIs _ _ _ _ hu, run_fromI g len cap k hk hc]

/-- the numbers as the program has them -/
abbrev ivs {q : FP} (X : Nat → Nat → El q) (r j : Nat) : Int := ((X r j).val : Int)

/-- in quotient's loop: i rows are cut -/
def QuoAt (q : FP) (b wd k m g : Nat) (gs Cs : Nat → Nat) (X : Nat → Nat → El q) (w : World) (s25 : Value) (W : World) : Prop :=
  ∃ i : Nat, i ≤ k ∧ s25 = .int .i64 i ∧ W.rowIs g TIs k (fun r => if r < i then .slice (some ⟨gs r, k, none⟩) m (Cs r - k) else .slice (some ⟨gs r, 0, none⟩) (k + m) (Cs r)) ∧
    (∀ r, r < k → ∃ T, W.rowIs (gs r) TI (Cs r) T ∧ ∀ j, j < k + m → T j = .int .i64 ((X r j).val : Nat)) ∧ Fld q.p b wd W ∧ Turned b w W
/-- what quotient tells -/
def QuoSaid (q : FP) (b wd k m : Nat) (XA XB : Nat → Nat → El q) (w : World) (e : Ending) (w' : World) : Prop :=
  ∃ t A c, e = .returned (.tuple #[.slice A (cond t k 0) c, .bool t]) ∧ (t = true ↔ rk k XA k = k) ∧ cond t k 0 ≤ c ∧ Mx b w' (ivs (fun r j => (red k (aug k XA XB) k).1 r (k + j))) (fun _ => m) A (cond t k 0) ∧ Fld q.p b wd w' ∧ Turned b w w'

theorem quoAt_step {q : FP} {b wd k m g : Nat} {gs Cs : Nat → Nat} {X : Nat → Nat → El q} {w W : World} {i : Nat} (hi : i < k) (h1 : W.rowIs g TIs k (fun r => if r < i then .slice (some ⟨gs r, k, none⟩) m (Cs r - k) else .slice (some ⟨gs r, 0, none⟩) (k + m) (Cs r)))
    (h2 : ∀ r, r < k → ∃ T, W.rowIs (gs r) TI (Cs r) T ∧ ∀ j, j < k + m → T j = .int .i64 ((X r j).val : Nat)) (hf : Fld q.p b wd W) (ht : Turned b w W) (hg : w.heap.size ≤ g) :
    QuoAt q b wd k m g gs Cs X w (.int .i64 ((i + 1 : Nat) : Int)) (W.setCell ⟨g, i, none⟩ (.slice (some ⟨gs i, k, none⟩) m (Cs i - k))) := by
  refine ⟨i + 1, hi, rfl, (h1.set i _).congr (fun r _ => ?_), fun r hr => ?_, hf.setRow h1 (by decide) (by decide) _, ht.set_new hg _⟩
  · rcases Nat.lt_trichotomy r i with e | e | e
    · rw [if_neg (by omega), if_pos e, if_pos (by omega)]
    · rw [if_pos e, if_pos (by omega), e]
    · rw [if_neg (by omega), if_neg (by omega), if_neg (by omega)]
  · obtain ⟨T, t1, t2⟩ := h2 r hr
    refine ⟨T, t1.setOther (a := ⟨g, i, none⟩) (fun e => ?_) _, t2⟩
    rw [show gs r = g from e] at t1
    exact absurd (rowIs_kind t1 h1) (by decide)

set_option maxRecDepth 100000 in
set_option maxHeartbeats 2000000 in
theorem quot29 (q : FP) (b wd k m : Nat) (XA XB : Nat → Nat → El q) (As Bs : Nat → Option Addr) (Ca Cb : Nat → Nat) (A B : Option Addr) (ca cb : Nat) (hk0 : 0 < k) (hk : k ≤ 20) (hm0 : 0 < m) (hm : m ≤ 20) (w : World) (hfl : Fld q.p b wd w)
    (ha : Rd b w (slis As (fun _ => k) Ca) A k) (har : ∀ r, r < k → Rd b w (i64s (ivs XA r)) (As r) k)
    (hb : Rd b w (slis Bs (fun _ => m) Cb) B k) (hbr : ∀ r, r < k → Rd b w (i64s (ivs XB r)) (Bs r) m) :
    Calls Tryz.prog 63 #[.pointer (some ⟨b, 0, none⟩), .slice A k ca, .slice B k cb] w (QuoSaid q b wd k m XA XB w) := by
  have HB := Lib.hid (beside34 q b k m k XA XB As Bs Ca Cb A B ca cb hk0 hk hm hk w hfl.lt ha har hb hbr (fun r hr h => by
    obtain ⟨_, e, _⟩ := hbr r hr hm0
    rw [e] at h
    cases h))
  have HF := Lib.hid hfl
  have hbl := hfl.lt
  clear ha har hb hbr hfl
  go_enter Tryz.func63, Tryz.ntmps63
  go_wp2_with fail
  refine HB.out.mono ?_
  rintro e w1 ⟨g, gs, Cs, rfl, hG, hgl, hlow, hb1⟩
  have HR := Lib.hid (reduce33 q b wd k (k + m) g k k gs Cs (aug k XA XB) w w1 (by omega) (by omega) (by omega) (HF.out.of_below hb1) (Turned.of_below hb1) hbl hG hgl hlow)
  clear hG hlow hb1 HB
  go_wp2_with fail
  refine HR.out.mono ?_
  rintro e w2 ⟨rfl, hf2, ht2, gs2, Cs2, hG2, hl2⟩
  clear HR
  have hrk : rk k (aug k XA XB) k = rk k XA k := rk_aug k XA XB
  have hle := (rk_le k XA k).1
  rw [hrk]
  clear hrk
  by_cases hfull : rk k XA k < k
  · have HE := Lib.hid (show QuoSaid q b wd k m XA XB w (.returned (.tuple #[nilS, .bool false])) w2 from ⟨false, none, 0, rfl, by simp; omega, Nat.le_refl _, Mx.zero, hf2, ht2⟩)
    clear hf2 ht2 hG2 hl2
    go_wp2_with fail
    go_ret2
    exact HE.out
  · have hfl : rk k XA k = k := by omega
    have HFU := Lib.hid hfl
    rw [hfl]
    have HST := Lib.hid (show QuoAt q b wd k m g gs2 Cs2 (red k (aug k XA XB) k).1 w (.int .i64 ((0 : Nat) : Int)) w2 from ⟨0, Nat.zero_le _, rfl, hG2.out.congr (fun r _ => by rw [if_neg (by omega)]), hG2.row, hf2, ht2⟩)
    have HC := Lib.hid hG2.cap
    have HL := Lib.hid hl2
    clear hfull hfl hle hG2 hl2 hf2 ht2
    go_wp2_with fail
    go_loopw [25] (fun s25 wr => QuoAt q b wd k m g gs2 Cs2 (red k (aug k XA XB) k).1 w s25 wr) (fun s25 _ => k - (intOf s25).toNat)
    case atStart => exact HST.out
    case round =>
      clear HST
      obtain ⟨i, hi, rfl, h1, h2, h3, h4⟩ := hrel
      by_cases hlt : i < k
      · have hcap := HC.out i hlt
        have hsl := run_fromI (gs2 i) (k + m) (Cs2 i) k (by omega) (by omega)
        have hsl2 := run_atI (gs2 i) (k + m) (Cs2 i) k (by omega) (by omega)
        rw [show k + m - k = m by omega] at hsl hsl2
        have c1 := h1.cell (i := i) hlt
        rw [if_neg (by omega)] at c1
        have f1 := h1.frozen i
        have HS := Lib.hid (quoAt_step hlt h1 h2 h3 h4 hgl)
        clear h1 h2 h3 h4
        go_wp2_with fail
        exact ⟨by rw [show ((i : Nat) : Int) + 1 = ((i + 1 : Nat) : Int) by omega]; exact HS.out, by simp [intOf]; omega⟩
      · obtain rfl : i = k := by omega
        have HE := Lib.hid (show QuoSaid q b wd i m XA XB w (.returned (.tuple #[.slice (some ⟨g, 0, none⟩) i i, .bool true])) wr from
          ⟨true, _, i, rfl, by simp [HFU.out], Nat.le_refl _, ⟨fun r => some ⟨gs2 r, i, none⟩, fun r => Cs2 r - i, (Rd.of_row h1 (by omega) (Nat.le_refl _)).congr (fun r hr => by rw [if_pos hr]), fun r hr _ => by
            obtain ⟨T, t1, t2⟩ := h2 r hr
            have hcap := HC.out r hr
            have hlo := HL.out r hr
            refine ⟨_, rfl, by simp; omega, t1.lt, fun j hj => ?_⟩
            have hj : j < m := hj
            rw [Addr.add_lit, t1.cell (i := i + j) (by omega), t2 (i + j) (by omega)]⟩, h3, h4⟩)
        clear h1 h2 h3 h4
        go_wp2_with fail
        go_ret2
        exact HE.out
end Go.Proofs.YtgdgimknnjbieaaGreatDoor
