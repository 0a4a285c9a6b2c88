/- Layer 12: what any K shards tell of the data; what a changed data shard changes; which shards are there: plain mathematics. Layer 12: two lists of rows and one of numbers that are appended to beside one another; bools as they are read; what Data tells. -/
import Derived.Test.YtgdgimknnjbieaaGreatDoorGya
import Derived.Test.YtgdgimknnjbieaaGreatDoorGxm
import Derived.Test.YtgdgimknnjbieaaGreatDoorGxg
import Derived.Test.YtgdgimknnjbieaaGreatDoorGxw
import Derived.Test.YtgdgimknnjbieaaGreatDoorGyb
import Derived.Test.YtgdgimknnjbieaaGreatDoorGxn
import Derived.Test.YtgdgimknnjbieaaGreatDoorPrg

namespace Go.Proofs.YtgdgimknnjbieaaGreatDoor

/-- number t of a row of bytes, as one of the field's -/
def wE (q : FP) (n : Nat) (f : Nat → Nat) (t : Nat) : El q := if h : word n f t ≤ M.ord q.p then ⟨word n f t, h⟩ else 0

section
variable {q : FP} {wd n : Nat}
theorem wE_val (hw : Wide wd n (M.ord q.p)) {f : Nat → Nat} (hf : ∀ j, f j < 256) (t : Nat) : (wE q n f t).val = word n f t := by
  unfold wE
  rw [dif_pos (word_le hw hf t)]
theorem wE_byt (hw : Wide wd n (M.ord q.p)) (x : Nat → El q) (t : Nat) : wE q n (byt n (fun t => ((x t).val : Int))) t = x t := by
  apply El.ext
  rw [wE_val hw (byt_lt n _)]
  have := word_byt hw (l := fun t => ((x t).val : Int)) t (by omega) (by have := (x t).le; omega)
  omega
theorem byt_wE (hw : Wide wd n (M.ord q.p)) {f : Nat → Nat} (hf : ∀ j, f j < 256) (j : Nat) : byt n (fun t => ((wE q n f t).val : Int)) j = f j := by
  rw [← byt_word hw hf j]
  congr 1
  funext t
  rw [wE_val hw hf]
theorem mulB_byt (hw : Wide wd n (M.ord q.p)) (a : El q) {f : Nat → Nat} (hf : ∀ j, f j < 256) : mulB q.p n (a.val : Int) f = byt n (fun t => ((a * wE q n f t).val : Int)) := by
  unfold mulB
  congr 1
  funext t
  rw [← fmul_el, wE_val hw hf]
theorem dotB_byt (hw : Wide wd n (M.ord q.p)) (A : Nat → El q) {F : Nat → Nat → Nat} (hF : ∀ r j, F r j < 256) : ∀ N, 0 < N → dotB q.p n (fun c => ((A c).val : Int)) F N = byt n (fun t => ((su N (fun c => A c * wE q n (F c) t)).val : Int))
  | 0, h => absurd h (Nat.lt_irrefl _)
  | 1, _ => by
    rw [dotB_one, mulB_byt hw _ (hF 0)]
    congr 1
    funext t
    show _ = (((0 : El q) + A 0 * wE q n (F 0) t).val : Int)
    rw [El.zero_add]
  | N + 2, _ => by
    funext i
    rw [dotB_two, dotB_byt hw A hF (N + 1) (by omega), mulB_byt hw _ (hF (N + 1)), ← byt_xor]
    rfl
theorem wE_dot (hw : Wide wd n (M.ord q.p)) (A : Nat → El q) {F : Nat → Nat → Nat} (hF : ∀ r j, F r j < 256) {N : Nat} (hN : 0 < N) (t : Nat) : wE q n (dotB q.p n (fun c => ((A c).val : Int)) F N) t = su N (fun c => A c * wE q n (F c) t) := by
  rw [dotB_byt hw A hF N hN, wE_byt hw]
/-- rows that are s times the data, times s's inverse: the data -/
theorem rec_row (hw : Wide wd n (M.ord q.p)) {K : Nat} {inv s : Nat → Nat → El q} (hI : IsI K inv s) {L F : Nat → Nat → Nat} (hL : ∀ r j, L r j < 256) (hF : ∀ r j, F r j < 256) (hs : ∀ r, r < K → ∀ t, wE q n (L r) t = su K (fun c => s r c * wE q n (F c) t)) {i : Nat} (hi : i < K) (j : Nat) :
    dotB q.p n (fun r => ivs inv i r) L K j = F i j := by
  show dotB q.p n (fun c => ((inv i c).val : Int)) L K j = F i j
  rw [dotB_byt hw _ hL K (by omega), ← byt_wE hw (hF i) j]
  congr 1
  funext t
  congr 2
  have h1 : su K (fun r => inv i r * wE q n (L r) t) = mm K inv (mm K s (fun c t => wE q n (F c) t)) i t := su_congr (fun r hr => by rw [hs r hr t]; rfl)
  rw [h1, ← mm_assoc]
  have h2 : mm K (mm K inv s) (fun c t => wE q n (F c) t) i t = mm K dl (fun c t => wE q n (F c) t) i t := su_congr (fun c hc => by rw [hI i hi c hc])
  rw [h2, dl_mm _ hi]
end

/-- all shards of data F -/
def shF (p : Int) (K m : Nat) (F : Nat → Nat → Nat) : Nat → Nat → Nat := fun r j => if r < K then F r j else parF p K m F (r - K) j
theorem shF_lt {p : Int} {K m : Nat} {F : Nat → Nat → Nat} (hF : ∀ r j, F r j < 256) (r j : Nat) : shF p K m F r j < 256 := by
  unfold shF
  split
  · exact hF r j
  · exact parF_lt _ _
theorem sh_row {p : Int} {K m : Nat} {F : Nat → Nat → Nat} (hK : 0 < K) (hF : ∀ r j, F r j < 256) (r t : Nat) : wE (qP p) (nP p) (shF p K m F r) t = su K (fun c => joinE K dl (rowsE p K m) r c * wE (qP p) (nP p) (F c) t) := by
  by_cases hr : r < K
  · have e : shF p K m F r = F r := by funext j; unfold shF; rw [if_pos hr]
    rw [e]
    have h2 : su K (fun c => joinE K dl (rowsE p K m) r c * wE (qP p) (nP p) (F c) t) = mm K dl (fun c t => wE (qP p) (nP p) (F c) t) r t := su_congr (fun c _ => by unfold joinE; rw [if_pos hr])
    rw [h2, dl_mm _ hr]
  · have e : shF p K m F r = parF p K m F (r - K) := by funext j; unfold shF; rw [if_neg hr]
    rw [e]
    have h2 : su K (fun c => joinE K dl (rowsE p K m) r c * wE (qP p) (nP p) (F c) t) = su K (fun c => rowsE p K m (r - K) c * wE (qP p) (nP p) (F c) t) := su_congr (fun c _ => by unfold joinE; rw [if_neg hr])
    rw [h2]
    exact wE_dot (wideP p) (fun c => rowsE p K m (r - K) c) hF hK t

/-- the identity, and parity behind it, as numbers -/
theorem joinE_rows {p : Int} (k m : Nat) : joinF k idF (ivs (rowsE p k m)) = ivs (joinE k dl (rowsE p k m)) := by
  funext r j
  unfold joinF ivs joinE
  by_cases h : r < k
  · rw [if_pos h, if_pos h]; exact idF_el (q := qP p) r j
  · rw [if_neg h, if_neg h]
/-- the rows of the shards at f -/
def selE (p : Int) (K m : Nat) (f : Nat → Nat) : Nat → Nat → El (qP p) := fun r c => joinE K dl (rowsE p K m) (f r) c
/-- data shard i, as the shards L at f tell it -/
def datF (p : Int) (K m : Nat) (f : Nat → Nat) (L : Nat → Nat → Nat) (i : Nat) : Nat → Nat := dotB (qP p).p (nP p) (fun r => ivs (ivm K (selE p K m f)) i r) (fun r => L (f r)) K
theorem datF_lt {p : Int} {K m : Nat} {f : Nat → Nat} {L : Nat → Nat → Nat} (i j : Nat) : datF p K m f L i j < 256 := dotB_lt _ _ _ _ _ _
/-- ANY K: whichever shards they are, they tell the data -/
theorem dat_any {p : Int} {K m : Nat} (hX : mayX p K m) {f : Nat → Nat} (hf : ∀ i, i < K → f i < K + m) (hu : ∀ i j, i < K → j < K → f i = f j → i = j) {F L : Nat → Nat → Nat} (hF : ∀ r j, F r j < 256) (hL : ∀ i, i < K → L (f i) = shF p K m F (f i)) {i : Nat} (hi : i < K) : datF p K m f L i = F i := by
  have hK : 0 < K := by omega
  funext j
  have e : datF p K m f L i j = dotB (qP p).p (nP p) (fun r => ivs (ivm K (selE p K m f)) i r) (fun r => shF p K m F (f r)) K j := dotB_rows K hK (fun r hr => hL r hr)
  rw [e]
  exact rec_row (wideP p) (ivm_inv (rows_any hX f hf hu)).1 (fun r j => shF_lt hF _ j) hF (fun r _ t => sh_row hK hF (f r) t) hi j

/-- how many of the first i are so -/
def cntT (h : Nat → Bool) : Nat → Nat
  | 0 => 0
  | i + 1 => cntT h i + cond (h i) 1 0
/-- the r-th of the first N that are so -/
def atT (h : Nat → Bool) : Nat → Nat → Nat
  | 0, _ => 0
  | i + 1, r => if h i = true ∧ cntT h i = r then i else atT h i r
theorem cntT_yes {h : Nat → Bool} {i : Nat} (e : h i = true) : cntT h (i + 1) = cntT h i + 1 := by rw [cntT, e]; rfl
theorem cntT_no {h : Nat → Bool} {i : Nat} (e : h i = false) : cntT h (i + 1) = cntT h i := by rw [cntT, e]; rfl
theorem cntT_le (h : Nat → Bool) : ∀ N, cntT h N ≤ N
  | 0 => Nat.le_refl _
  | i + 1 => by
    have := cntT_le h i
    cases e : h i
    · rw [cntT_no e]; omega
    · rw [cntT_yes e]; omega
theorem cntT_mono (h : Nat → Bool) {i N : Nat} (hi : i ≤ N) : cntT h i ≤ cntT h N := by
  induction N with
  | zero =>
    obtain rfl : i = 0 := by omega
    exact Nat.le_refl _
  | succ N ih =>
    by_cases e : i = N + 1
    · rw [e]; exact Nat.le_refl _
    · refine Nat.le_trans (ih (by omega)) ?_
      cases e : h N
      · rw [cntT_no e]; exact Nat.le_refl _
      · rw [cntT_yes e]; omega
theorem atT_new {h : Nat → Bool} {i : Nat} (e : h i = true) : atT h (i + 1) (cntT h i) = i := if_pos ⟨e, rfl⟩
theorem atT_old {h : Nat → Bool} {i r : Nat} (hr : r < cntT h i) : atT h (i + 1) r = atT h i r := if_neg (fun e => by have := e.2; omega)
theorem atT_far {h : Nat → Bool} {i r N : Nat} (hr : r < cntT h i) (hN : i ≤ N) : atT h N r = atT h i r := by
  induction N with
  | zero =>
    obtain rfl : i = 0 := by omega
    rfl
  | succ N ih =>
    by_cases e : i = N + 1
    · rw [e]
    · rw [atT_old (Nat.lt_of_lt_of_le hr (cntT_mono h (by omega))), ih (by omega)]
theorem atT_spec {h : Nat → Bool} {r : Nat} : ∀ N, r < cntT h N → atT h N r < N ∧ h (atT h N r) = true ∧ cntT h (atT h N r) = r
  | 0, hr => absurd hr (Nat.not_lt_zero _)
  | N + 1, hr => by
    by_cases e : h N = true ∧ cntT h N = r
    · have e2 : atT h (N + 1) r = N := if_pos e
      rw [e2]
      exact ⟨Nat.lt_succ_self _, e.1, e.2⟩
    · have e2 : atT h (N + 1) r = atT h N r := if_neg e
      have h1 : r < cntT h N := by
        cases e3 : h N
        · rw [cntT_no e3] at hr; exact hr
        · rw [cntT_yes e3] at hr
          rcases Nat.lt_succ_iff_lt_or_eq.1 hr with h2 | h2
          · exact h2
          · exact absurd ⟨e3, h2.symm⟩ e
      obtain ⟨h3, h4, h5⟩ := atT_spec N h1
      rw [e2]
      exact ⟨Nat.lt_succ_of_lt h3, h4, h5⟩
theorem atT_cnt {h : Nat → Bool} {r N : Nat} (e : h r = true) (hr : r < N) : atT h N (cntT h r) = r ∧ cntT h r < cntT h N := by
  have h1 : cntT h r < cntT h (r + 1) := by rw [cntT_yes e]; omega
  exact ⟨(atT_far h1 hr).trans (atT_new e), Nat.lt_of_lt_of_le h1 (cntT_mono h hr)⟩
theorem atT_inj {h : Nat → Bool} {N r s : Nat} (hr : r < cntT h N) (hs : s < cntT h N) (e : atT h N r = atT h N s) : r = s := by
  rw [← (atT_spec N hr).2.2, ← (atT_spec N hs).2.2, e]
/-- one that is so, and then isn't: one fewer -/
theorem cntT_set {h : Nat → Bool} {a : Nat} (ha : h a = true) : ∀ N, cntT (fun i => if i = a then false else h i) N = if a < N then cntT h N - 1 else cntT h N
  | 0 => rfl
  | N + 1 => by
    have ih := cntT_set ha N
    by_cases e : a = N
    · subst e
      rw [if_neg (Nat.lt_irrefl _)] at ih
      rw [if_pos (Nat.lt_succ_self _), cntT_no (by rw [if_pos rfl]), ih, cntT_yes ha, Nat.add_sub_cancel]
    · by_cases e2 : a < N
      · rw [if_pos e2] at ih
        rw [if_pos (by omega)]
        have h1 : 1 ≤ cntT h N := by
          have h2 := cntT_mono h (show a + 1 ≤ N by omega)
          rw [cntT_yes ha] at h2
          omega
        cases e3 : h N
        · rw [cntT_no (by rw [if_neg (fun e4 => e e4.symm)]; exact e3), cntT_no e3, ih]
        · rw [cntT_yes (by rw [if_neg (fun e4 => e e4.symm)]; exact e3), cntT_yes e3, ih]; omega
      · rw [if_neg e2] at ih
        rw [if_neg (by omega)]
        cases e3 : h N
        · rw [cntT_no (by rw [if_neg (fun e4 => e e4.symm)]; exact e3), cntT_no e3, ih]
        · rw [cntT_yes (by rw [if_neg (fun e4 => e e4.symm)]; exact e3), cntT_yes e3, ih]
theorem cntT_all : ∀ N, cntT (fun _ => true) N = N
  | 0 => rfl
  | N + 1 => by rw [cntT_yes rfl, cntT_all N]
/-- if not all are so, there is one -/
theorem cntT_gap {h : Nat → Bool} : ∀ N, 0 < cntT h N → ∃ i, i < N ∧ h i = true
  | 0, h0 => absurd h0 (Nat.lt_irrefl _)
  | N + 1, h0 => by
    cases e : h N
    · rw [cntT_no e] at h0
      obtain ⟨i, hi, h1⟩ := cntT_gap N h0
      exact ⟨i, by omega, h1⟩
    · exact ⟨N, Nat.lt_succ_self _, e⟩

/-- rows with another row i -/
def setF (F : Nat → Nat → Nat) (i : Nat) (g : Nat → Nat) : Nat → Nat → Nat := fun r => if r = i then g else F r
/-- a changed data shard changes parity by its number, times the old and the new one, added -/
theorem par_set {p : Int} {K m r i : Nat} {F : Nat → Nat → Nat} {g : Nat → Nat} (hF : ∀ r j, F r j < 256) (hg : ∀ j, g j < 256) (hi : i < K) {L : Nat} (hL : L % nP p = 0) {j : Nat} (hj : j < L) :
    parF p K m (setF F i g) r j = parF p K m F r j ^^^ mulB (qP p).p (nP p) (ivs (rowsE p K m) r i) (fun j => F i j ^^^ g j) j := by
  have e : nP p * (L / nP p) = L := Nat.mul_div_cancel' (Nat.dvd_of_mod_eq_zero hL)
  have h1 := dotB_diff (wideP p) (cs := fun c => ivs (rowsE p K m) r c) (c := i) (F := F) (G := setF F i g) (m := L / nP p) (i := j) (by rw [e]; exact hj) K hi (fun s _ hs _ _ => by unfold setF; rw [if_neg hs])
  have h2 : setF F i g i = g := if_pos rfl
  rw [h2] at h1
  have h3 := ivs_in (rowsE p K m) r i
  rw [mulB_xor (goodP p) (wideP p) h3.1 h3.2 (hF i) hg]
  show dotB _ _ _ (setF F i g) K j = dotB _ _ _ F K j ^^^ _
  rw [← h1, ← Nat.xor_assoc, Nat.xor_self, Nat.zero_xor]
end Go.Proofs.YtgdgimknnjbieaaGreatDoor

namespace Go.Proofs.YtgdgimknnjbieaaGreatDoor
open Go.RowKit

/-- two lists of rows, and one of numbers -/
structure Tre (w0 : World) (X : Nat → Value) (L : Nat → Int) (na nf nr : Nat) (va vf vr : Value) (wr : World) : Prop where
  below : Below w0.heap.size w0 wr
  a : wr.ownsRow w0.heap.size TBs 1 va na ((List.range na).map X)
  f : wr.ownsRow w0.heap.size TBs 1 vf nf ((List.range nf).map X)
  r : wr.ownsRow w0.heap.size TI 1 vr nr ((List.range nr).map (i64s L))
  af : Apart va vf
section
variable {w0 wr w1 : World} {X : Nat → Value} {L : Nat → Int} {na nf nr g' cap : Nat} {va vf vr : Value} {o : Obj}
theorem Tre.start (w0 : World) (X : Nat → Value) (L : Nat → Int) : Tre w0 X L 0 0 0 nilS nilS nilS w0 :=
  ⟨Below.refl _ _, World.ownsRow_nil _ _ _ _, World.ownsRow_nil _ _ _ _, World.ownsRow_nil _ _ _ _, Apart.nil _⟩
theorem Tre.addA (h : Tre w0 X L na nf nr va vf vr wr) (hK : TI ≠ TBs)
    (hown : w1.ownsRow w0.heap.size TBs 1 (.slice (some ⟨g', 0, none⟩) (na + 1) cap) (na + 1) ((List.range na).map X ++ [X na])) (hgr : (wr.alloc o).grownBy w1 va.ownBlock) (hg : va.ownBlock = some g' ∨ g' = wr.heap.size + 1) :
    Tre w0 X L (na + 1) nf nr (.slice (some ⟨g', 0, none⟩) (na + 1) cap) vf vr w1 := by
  have hf := app_other h.f h.af.symm hgr hg (v' := .slice (some ⟨g', 0, none⟩) (na + 1) cap) rfl
  exact ⟨(h.below.alloc h.below.size o).grown hgr (by simp; have := h.below.size; omega) (fun q hq => (h.a.lt q hq).1), by rw [range_snoc]; exact hown, hf.1, keep_kind (h.a.alloc o) hgr hK (h.r.alloc o), hf.2.symm⟩
theorem Tre.addF (h : Tre w0 X L na nf nr va vf vr wr) (hK : TI ≠ TBs)
    (hown : w1.ownsRow w0.heap.size TBs 1 (.slice (some ⟨g', 0, none⟩) (nf + 1) cap) (nf + 1) ((List.range nf).map X ++ [X nf])) (hgr : (wr.alloc o).grownBy w1 vf.ownBlock) (hg : vf.ownBlock = some g' ∨ g' = wr.heap.size + 1) :
    Tre w0 X L na (nf + 1) nr va (.slice (some ⟨g', 0, none⟩) (nf + 1) cap) vr w1 := by
  have ha := app_other h.a h.af hgr hg (v' := .slice (some ⟨g', 0, none⟩) (nf + 1) cap) rfl
  exact ⟨(h.below.alloc h.below.size o).grown hgr (by simp; have := h.below.size; omega) (fun q hq => (h.f.lt q hq).1), ha.1, by rw [range_snoc]; exact hown, keep_kind (h.f.alloc o) hgr hK (h.r.alloc o), ha.2⟩
theorem Tre.addR (h : Tre w0 X L na nf nr va vf vr wr) (hK : TBs ≠ TI)
    (hown : w1.ownsRow w0.heap.size TI 1 (.slice (some ⟨g', 0, none⟩) (nr + 1) cap) (nr + 1) ((List.range nr).map (i64s L) ++ [i64s L nr])) (hgr : (wr.alloc o).grownBy w1 vr.ownBlock) :
    Tre w0 X L na nf (nr + 1) va vf (.slice (some ⟨g', 0, none⟩) (nr + 1) cap) w1 :=
  ⟨(h.below.alloc h.below.size o).grown hgr (by simp; have := h.below.size; omega) (fun q hq => (h.r.lt q hq).1), keep_kind (h.r.alloc o) hgr hK (h.a.alloc o), keep_kind (h.r.alloc o) hgr hK (h.f.alloc o), by rw [range_snoc]; exact hown, h.af⟩
end

/-- a list that the call owns, as a row -/
theorem own_rowK {base e n : Nat} {w : World} {k : Nat → Value} {v : Value} (h : w.ownsRow base e 1 v n ((List.range n).map k)) (hn : 0 < n) :
    ∃ g c K, v = .slice (some ⟨g, 0, none⟩) n c ∧ base ≤ g ∧ n ≤ c ∧ w.rowIs g e c K ∧ ∀ j, j < n → K j = k j := by
  rcases h.2 with ⟨_, rfl⟩ | ⟨g, cap, cur, rfl, hg, hh, hc, _, hs, ht⟩
  · omega
  · refine ⟨g, cap, fun j => (cur[j]?).getD nilS, rfl, hg, hc, ⟨cur, hh, by omega, fun i hi => ?_⟩, fun j hj => ?_⟩
    · show cur[i]? = some ((cur[i]?).getD nilS)
      rw [Array.getElem?_eq_getElem (by omega)]; rfl
    · have h1 : (cur.toList.take (n * 1))[j]? = some (k j) := by rw [ht, List.getElem?_map, List.getElem?_range (by omega)]; rfl
      rw [List.getElem?_take, if_pos (by omega), Array.getElem?_toList] at h1
      show (cur[j]?).getD nilS = k j
      rw [h1]; rfl

/-- bools -/
abbrev bls (h : Nat → Bool) : Nat → Value := fun j => .bool (h j)

instance (p : Int) (N : Nat) (Ls : Nat → Nat) : Decidable (evenP p N Ls) := by unfold evenP; infer_instance
/-- Data's error: of N shards, which h tells of Nh -/
def datE (p k m : Int) (N Nh : Nat) (h : Nat → Bool) (Ls : Nat → Nat) : Int :=
  if mayX p k m ∧ (N : Int) = k + m ∧ Nh = N then (if cntT h N < k.toNat then 5 else if evenP p (cntT h N) (fun r => Ls (atT h N r)) then 0 else 1) else 1
/-- what Data tells -/
def DatSaid (p k m : Int) (N Nh : Nat) (h : Nat → Bool) (Ls : Nat → Nat) (F : Nat → Nat → Nat) (w : World) (e : Ending) (w' : World) : Prop :=
  ∃ v, e = .returned (.tuple #[v, .int .i64 (datE p k m N Nh h Ls)]) ∧ RowsTold (if datE p k m N Nh h Ls = 0 then k.toNat else 0) (datF p k.toNat m.toNat (atT h N) F) (fun _ => Ls (atT h N 0)) w v w'
theorem datE_arg {p k m : Int} {N Nh : Nat} {h : Nat → Bool} {Ls : Nat → Nat} (e : ¬ (mayX p k m ∧ (N : Int) = k + m ∧ Nh = N)) : datE p k m N Nh h Ls = 1 := if_neg e
theorem datE_few {p k m : Int} {N Nh : Nat} {h : Nat → Bool} {Ls : Nat → Nat} (e : mayX p k m ∧ (N : Int) = k + m ∧ Nh = N) (hf : cntT h N < k.toNat) : datE p k m N Nh h Ls = 5 := by unfold datE; rw [if_pos e, if_pos hf]
theorem datE_odd {p k m : Int} {N Nh : Nat} {h : Nat → Bool} {Ls : Nat → Nat} (hf : ¬ cntT h N < k.toNat) (ho : ¬ evenP p (cntT h N) (fun r => Ls (atT h N r))) : datE p k m N Nh h Ls = 1 := by
  unfold datE
  rw [if_neg hf, if_neg ho, ite_self]
theorem datE_ok {p k m : Int} {N Nh : Nat} {h : Nat → Bool} {Ls : Nat → Nat} (e : mayX p k m ∧ (N : Int) = k + m ∧ Nh = N) (hf : ¬ cntT h N < k.toNat) (ho : evenP p (cntT h N) (fun r => Ls (atT h N r))) : datE p k m N Nh h Ls = 0 := by unfold datE; rw [if_pos e, if_neg hf, if_pos ho]
theorem datE_inv {p k m : Int} {N Nh : Nat} {h : Nat → Bool} {Ls : Nat → Nat} (e : datE p k m N Nh h Ls = 0) : (mayX p k m ∧ (N : Int) = k + m ∧ Nh = N) ∧ ¬ cntT h N < k.toNat ∧ evenP p (cntT h N) (fun r => Ls (atT h N r)) := by
  unfold datE at e
  split at e
  · rename_i h1
    split at e
    · cases e
    · rename_i h2
      split at e
      · rename_i h3
        exact ⟨h1, h2, h3⟩
      · cases e
  · cases e
theorem DatSaid.no {p k m : Int} {N Nh : Nat} {h : Nat → Bool} {Ls : Nat → Nat} {F : Nat → Nat → Nat} {w w' : World} {x : Int} (hx : datE p k m N Nh h Ls = x) (h0 : x ≠ 0) (hb : Below w.heap.size w w') : DatSaid p k m N Nh h Ls F w (.returned (.tuple #[nilS, .int .i64 x])) w' :=
  ⟨_, by rw [hx], by rw [if_neg (by rw [hx]; exact h0)]; exact RowsTold.nil hb⟩
theorem DatSaid.yes {p : Int} {K M N Nh : Nat} {h : Nat → Bool} {Ls : Nat → Nat} {F : Nat → Nat → Nat} {w w' : World} {v : Value} (hx : datE p K M N Nh h Ls = 0) (hr : RowsTold K (datF p K M (atT h N) F) (fun _ => Ls (atT h N 0)) w v w') : DatSaid p K M N Nh h Ls F w (.returned (.tuple #[v, .int .i64 0])) w' :=
  ⟨_, by rw [hx], by rw [if_pos hx, Int.toNat_natCast, Int.toNat_natCast]; exact hr⟩
end Go.Proofs.YtgdgimknnjbieaaGreatDoor
