/- Identities of any number, in one form; products of matrices: plain mathematics. Layer 5's own first test, and how its laws choose a field. Products of the program's matrices as products over the field: plain mathematics. What is solved, applied: plain mathematics. Lists that are appended to while a field makes its tables; rows of powers; the contract of gambrelref05's Unlike. -/
import Derived.Test.YtgdgimknnjbieaaGreatDoorGxk
import Derived.Test.YtgdgimknnjbieaaGreatDoorGxl
import Derived.Test.YtgdgimknnjbieaaGreatDoorGxg

namespace Go.Proofs.YtgdgimknnjbieaaGreatDoor
open Go.RowKit

theorem idF_may {p wd : Nat} (hg : Good p wd) {n : Nat} (hn : side n) : mayP (M.ord p) n (fun _ => n) idF := ⟨hn, hn, fun r _ => ⟨rfl, fun j _ => by
  have := hg.bounds
  unfold idF
  split <;> omega⟩⟩
end Go.Proofs.YtgdgimknnjbieaaGreatDoor

namespace Go.Proofs.YtgdgimknnjbieaaGreatDoor
open Go.RowKit
end Go.Proofs.YtgdgimknnjbieaaGreatDoor

namespace Go.Proofs.YtgdgimknnjbieaaGreatDoor
open Go.RowKit

section
variable {q : FP}
theorem su_val (n : Nat) (f : Nat → El q) : (su n f).val = sm n (fun i => (f i).val) := by
  induction n with
  | zero => rfl
  | succ n ih => rw [su, sm, El.add_val, ih]
/-- a product of rows and columns -/
theorem dot_ivs (x y : Nat → El q) (n : Nat) : dotN q.p (fun i => ((x i).val : Int)) (fun i => ((y i).val : Int)) n = (su n (fun i => x i * y i)).val := by
  rw [dot_sm (fun j _ => ?_) (fun j _ => ?_), su_val]
  · exact sm_congr (fun i _ => by rw [Int.toNat_natCast, Int.toNat_natCast]; rfl)
  · have := (x j).le
    omega
  · have := (y j).le
    omega
theorem mulF_ivs (X Y : Nat → Nat → El q) (k : Nat) : mulF q.p (ivs X) (ivs Y) k = ivs (mm k X Y) := by
  funext r c
  unfold mulF ivs mm
  rw [dot_ivs (X r) (fun i => Y i c) k]
/-- a product has an inverse just if both have -/
theorem full_mm {n : Nat} {X Y : Nat → Nat → El q} : rk n (mm n X Y) n = n ↔ rk n X n = n ∧ rk n Y n = n := by
  constructor
  · intro h
    have h1 := ivm_inv h
    refine ⟨full_of_right (X := mm n Y (ivm n (mm n X Y))) (fun r hr c hc => by rw [← mm_assoc]; exact h1.2 r hr c hc), full_of_left (X := mm n (ivm n (mm n X Y)) X) (fun r hr c hc => by rw [mm_assoc]; exact h1.1 r hr c hc)⟩
  · rintro ⟨h1, h2⟩
    exact full_of_right (isI_comp (ivm_inv h1).2 (ivm_inv h2).2)
end
end Go.Proofs.YtgdgimknnjbieaaGreatDoor

namespace Go.Proofs.YtgdgimknnjbieaaGreatDoor
open Go.RowKit

end Go.Proofs.YtgdgimknnjbieaaGreatDoor

namespace Go.Proofs.YtgdgimknnjbieaaGreatDoor
open Go.RowKit

theorem own_kind {w : World} {base e n g t m : Nat} {v : Value} {xs : List Value} {k : Nat → Value} (h : w.ownsRow base e 1 v n xs) (hg : v.ownBlock = some g) (hr : w.rowIs g t m k) : e = t := by
  rcases h.2 with ⟨rfl, _⟩ | ⟨g', cap, cur, rfl, _, hh, _⟩
  · cases hg
  · simp only [Value.ownBlock] at hg
    injection hg with hg
    subst hg
    obtain ⟨c, h1, _⟩ := hr
    rw [hh] at h1
    injection h1 with h1
    injection h1
theorem row_grown {w w' : World} {base e n g t m : Nat} {v : Value} {xs : List Value} {k : Nat → Value} (ho : w.ownsRow base e 1 v n xs) (hg : w.grownBy w' v.ownBlock) (hr : w.rowIs g t m k) (hne : e ≠ t) : w'.rowIs g t m k :=
  hr.of_block (hg.block g hr.lt (fun h => hne (own_kind ho h.symm hr)))
theorem Fld.grown {p b wd base e n : Nat} {w w' : World} {v : Value} {xs : List Value} (h : Fld p b wd w) (ho : w.ownsRow base e 1 v n xs) (h1 : e ≠ TF) (h2 : e ≠ T16) (hg : w.grownBy w' v.ownBlock) : Fld p b wd w' := by
  refine ⟨h.1, ?_⟩
  rcases h.2 with h | ⟨x, y, g1, g2, r1, r2, r3⟩
  · exact Or.inl (row_grown ho hg h h1)
  · exact Or.inr ⟨x, y, g1, g2, row_grown ho hg r1 h1, row_grown ho hg r2 h2, row_grown ho hg r3 h2⟩
theorem Turned.grown {b base e n : Nat} {w0 w w' : World} {v : Value} {xs : List Value} (h : Turned b w0 w) (ho : w.ownsRow base e 1 v n xs) (hb : w0.heap.size ≤ base) (hg : w.grownBy w' v.ownBlock) : Turned b w0 w' :=
  ⟨hg.os.trans h.os, hg.tape.trans h.tape, hg.output.trans h.output, Nat.le_trans h.size hg.size, fun k hk hne => (hg.block k (Nat.lt_of_lt_of_le hk h.size) (fun e => by
    have := (ho.lt k e.symm).1
    omega)).trans (h.block k hk hne)⟩
theorem own_turned {b base e n : Nat} {w w' : World} {v : Value} {xs : List Value} (h : w.ownsRow base e 1 v n xs) (hb : b < base) (ht : Turned b w w') : w'.ownsRow base e 1 v n xs :=
  h.kept (row := some b) ⟨ht.os, ht.tape, ht.output, ht.size, fun k hk hne => ht.block k hk (fun e => hne (by rw [e]))⟩ (Or.inr (fun e => by
    have := (h.lt b e).1
    omega))
/-- rows that lie apart from the blocks S still do, behind an append to one of these -/
theorem rd_grow {S S' : Nat → Prop} {wr w1 : World} {own : Option Nat} {k : Nat → Value} {A : Option Addr} {n b : Nat} (hr : ∀ g, S g → Rd g wr k A n) (hb : S b) (hgr : wr.grownBy w1 own) (ho : ∀ g, own = some g → S g) (hS : ∀ g, S' g → S g ∨ wr.heap.size ≤ g) : ∀ g, S' g → Rd g w1 k A n := fun g hg hn => by
  obtain ⟨ad, rfl, _, h2, h3⟩ := hr b hb hn
  have hno : some ad.block ≠ own := fun e => by
    obtain ⟨ad', e', h4, _⟩ := hr ad.block (ho _ e.symm) hn
    injection e' with e'
    subst e'
    exact h4 rfl
  refine ⟨ad, rfl, ?_, Nat.lt_of_lt_of_le h2 hgr.size, fun j hj => (World.cell?_of_block (by rw [block_of_add]; exact hgr.block _ h2 hno)).trans (h3 j hj)⟩
  rcases hS g hg with h | h
  · obtain ⟨ad', e', h4, _⟩ := hr g h hn
    injection e' with e'
    subst e'
    exact h4
  · omega
theorem rd_turn {b g : Nat} {w w' : World} {k : Nat → Value} {A : Option Addr} {n : Nat} (hb : Rd b w k A n) (hg : Rd g w k A n) (ht : Turned b w w') : Rd g w' k A n := fun hn => by
  obtain ⟨ad, rfl, _, h2, h3⟩ := hb.turned ht hn
  obtain ⟨ad', e', h4, _⟩ := hg hn
  injection e' with e'
  subst e'
  exact ⟨_, rfl, h4, h2, h3⟩

/-- a list that is appended to, behind k elements, while the field at b may turn -/
structure AppT (q : FP) (b wd : Nat) (w0 : World) (e : Nat) (K : Nat → Value) (k : Nat) (v : Value) (wr : World) : Prop where
  fld : Fld q.p b wd wr
  turned : Turned b w0 wr
  own : wr.ownsRow w0.heap.size e 1 v k ((List.range k).map K)
section
variable {q : FP} {b wd e k : Nat} {w0 wr w1 : World} {K : Nat → Value} {v : Value}
theorem AppT.start (h : Fld q.p b wd w0) (e : Nat) (K : Nat → Value) : AppT q b wd w0 e K 0 nilS w0 := ⟨h, Turned.refl _ _, World.ownsRow_nil _ _ _ _⟩
theorem AppT.turn (h : AppT q b wd w0 e K k v wr) (hb : b < w0.heap.size) (hf : Fld q.p b wd w1) (ht : Turned b wr w1) : AppT q b wd w0 e K k v w1 := ⟨hf, h.turned.trans ht, own_turned h.own hb ht⟩
theorem AppT.step {v' : Value} {o : Obj} (h : AppT q b wd w0 e K k v wr) (ho : w1.ownsRow w0.heap.size e 1 v' (k + 1) ((List.range k).map K ++ [K k])) (hg : (wr.alloc o).grownBy w1 v.ownBlock) (h1 : e ≠ TF) (h2 : e ≠ T16) : AppT q b wd w0 e K (k + 1) v' w1 :=
  ⟨(h.fld.of_below (below_alloc wr o)).grown (h.own.alloc o) h1 h2 hg, (h.turned.trans (Turned.of_below (below_alloc wr o))).grown (h.own.alloc o) (Nat.le_refl _) hg, by rw [range_snoc]; exact ho⟩
theorem AppT.rd {g : Nat} (h : AppT q b wd w0 e K k v wr) (hg : g < w0.heap.size) : ∃ A c, v = .slice A k c ∧ k ≤ c ∧ Rd g wr K A k := Rd.of_own h.own hg
end

/-- points, and rows of n numbers, that are appended side by side -/
structure Van (q : FP) (b wd n : Nat) (l : Nat → Int) (F : Nat → Nat → Int) (w2 : World) (i j : Nat) (vp va : Value) (wr : World) : Prop where
  pts : AppT q b wd w2 TI (i64s l) i vp wr
  rows : ∃ As Cs, wr.ownsRow w2.heap.size TIs 1 va j ((List.range j).map (slis As (fun _ => n) Cs)) ∧ ∀ r, r < j → ∀ g, (g = b ∨ vp.ownBlock = some g ∨ va.ownBlock = some g) → Rd g wr (i64s (F r)) (As r) n
section
variable {q : FP} {b wd n : Nat} {l : Nat → Int} {F : Nat → Nat → Int} {w2 wr w1 : World} {i j : Nat} {vp va : Value}
theorem Van.start (h : Fld q.p b wd w2) (n : Nat) (l : Nat → Int) (F : Nat → Nat → Int) : Van q b wd n l F w2 0 0 nilS nilS w2 :=
  ⟨AppT.start h _ _, fun _ => none, fun _ => 0, World.ownsRow_nil _ _ _ _, fun r hr => absurd hr (by omega)⟩
theorem Van.turn (h : Van q b wd n l F w2 i j vp va wr) (hb : b < w2.heap.size) (hf : Fld q.p b wd w1) (ht : Turned b wr w1) : Van q b wd n l F w2 i j vp va w1 := by
  obtain ⟨As, Cs, h1, h2⟩ := h.rows
  exact ⟨h.pts.turn hb hf ht, As, Cs, own_turned h1 hb ht, fun r hr g hg => rd_turn (h2 r hr b (Or.inl rfl)) (h2 r hr g hg) ht⟩
theorem Van.row {o : Obj} {g' cap c' : Nat} {A' : Option Addr} {As : Nat → Option Addr} {Cs : Nat → Nat} (hpts : AppT q b wd w2 TI (i64s l) i vp wr) (h1 : wr.ownsRow w2.heap.size TIs 1 va j ((List.range j).map (slis As (fun _ => n) Cs)))
    (h2 : ∀ r, r < j → ∀ g, (g = b ∨ vp.ownBlock = some g ∨ va.ownBlock = some g) → Rd g wr (i64s (F r)) (As r) n) (hr : ∀ g, (g = b ∨ vp.ownBlock = some g ∨ va.ownBlock = some g) → Rd g wr (i64s (F j)) A' n)
    (ho : w1.ownsRow w2.heap.size TIs 1 (.slice (some ⟨g', 0, none⟩) (j + 1) cap) (j + 1) ((List.range j).map (slis As (fun _ => n) Cs) ++ [.slice A' n c'])) (hg : (wr.alloc o).grownBy w1 va.ownBlock) (hg' : va.ownBlock = some g' ∨ g' = wr.heap.size + 1) :
    Van q b wd n l F w2 i (j + 1) vp (.slice (some ⟨g', 0, none⟩) (j + 1) cap) w1 := by
  have hne : vp.ownBlock = none ∨ vp.ownBlock ≠ va.ownBlock := by
    rcases hpts.own.2 with ⟨rfl, _⟩ | ⟨g, c, cur, rfl, _, hh, _⟩
    · exact Or.inl rfl
    · refine Or.inr (fun e => ?_)
      rcases h1.2 with ⟨rfl, _⟩ | ⟨g2, c2, cur2, rfl, _, hh2, _⟩
      · cases e
      · simp only [Value.ownBlock] at e
        injection e with e
        subst e
        rw [hh] at hh2
        injection hh2 with hh2
        injection hh2 with _ h3
        exact absurd h3 (by decide)
  have hrd : ∀ {k : Nat → Value} {A : Option Addr}, (∀ g, (g = b ∨ vp.ownBlock = some g ∨ va.ownBlock = some g) → Rd g wr k A n) → ∀ g, (g = b ∨ vp.ownBlock = some g ∨ some g' = some g) → Rd g w1 k A n := fun {k} {A} hk => by
    refine rd_grow (S := fun g => g = b ∨ vp.ownBlock = some g ∨ va.ownBlock = some g) (b := b) (fun g hgg => (hk g hgg).below (below_alloc wr o)) (Or.inl rfl) hg (fun g e => Or.inr (Or.inr e)) (fun g hgg => ?_)
    rcases hgg with e | e | e
    · exact Or.inl (Or.inl e)
    · exact Or.inl (Or.inr (Or.inl e))
    · injection e with e
      subst e
      rcases hg' with e | e
      · exact Or.inl (Or.inr (Or.inr e))
      · exact Or.inr (by rw [World.size_alloc]; omega)
  refine ⟨⟨(hpts.fld.of_below (below_alloc wr o)).grown (h1.alloc o) (by decide) (by decide) hg, (hpts.turned.trans (Turned.of_below (below_alloc wr o))).grown (h1.alloc o) (Nat.le_refl _) hg, (hpts.own.alloc o).kept hg hne⟩, fun r => if r = j then A' else As r, fun r => if r = j then c' else Cs r, ?_, fun r hr' g hgg => ?_⟩
  · rw [range_snoc]
    have e1 : (List.range j).map (slis (fun r => if r = j then A' else As r) (fun _ => n) (fun r => if r = j then c' else Cs r)) = (List.range j).map (slis As (fun _ => n) Cs) := range_congr (fun x hx => by
      simp only [slis]
      rw [if_neg (by omega), if_neg (by omega)])
    rw [e1]
    simp only [slis, if_pos]
    exact ho
  · by_cases e : r = j
    · subst e
      dsimp only
      rw [if_pos rfl]
      exact hrd hr g hgg
    · dsimp only
      rw [if_neg e]
      exact hrd (h2 r (by omega)) g hgg
theorem Van.mx (h : Van q b wd n l F w2 i j vp va wr) (hb : b < w2.heap.size) : ∃ A c, va = .slice A j c ∧ Mx b wr F (fun _ => n) A j := by
  obtain ⟨As, Cs, h1, h2⟩ := h.rows
  obtain ⟨A, c, e, _, hrd⟩ := Rd.of_own h1 hb
  exact ⟨A, c, e, As, Cs, hrd, fun r hr => h2 r hr b (Or.inl rfl)⟩
end

section
variable {q : FP}
theorem ep_val (x : El q) (k : Nat) : (ep x k).val = M.pw x.val q.p k := by
  induction k with
  | zero => rw [ep, El.one_val, M.pw, M.md_one (M.irr_blen q.prim.1).1]
  | succ k ih => rw [ep, El.mul_val, ih]; rfl
theorem fpow_el {a : Int} (ha : 0 ≤ a ∧ a ≤ M.ord q.p) (k : Nat) : fpow q.p a k = ((ep (toEl q a) k).val : Int) := by
  unfold fpow
  rw [inB_iff.2 ha, decide_eq_true (by omega : (0 : Int) ≤ (k : Int)), Bool.and_self, if_pos rfl, ep_val, Int.toNat_natCast]
  have h := toEl_val ha
  rw [show (toEl q a).val = a.toNat by omega]
end
end Go.Proofs.YtgdgimknnjbieaaGreatDoor
