/- Memory in which two blocks alone turn; rows of bytes that are appended to while they do. -/
import Derived.Test.YtgbipbcejjlpiaaGreatDoorGxy
import Derived.Test.YtgbipbcejjlpiaaGreatDoorGxm
namespace Go.Proofs.YtgbipbcejjlpiaaGreatDoor
open Go.RowKit

/-- w' is as w was, but for blocks b and g; memory only grew -/
structure Turned2 (b g : Nat) (w w' : World) : Prop where
  os : w'.os = w.os
  tape : w'.tape = w.tape
  output : w'.output = w.output
  size : w.heap.size ≤ w'.heap.size
  block : ∀ k, k < w.heap.size → k ≠ b → k ≠ g → w'.heap[k]? = w.heap[k]?
section
variable {b g : Nat} {w w' w1 : World}
theorem Turned2.refl (b g : Nat) (w : World) : Turned2 b g w w := ⟨rfl, rfl, rfl, Nat.le_refl _, fun _ _ _ _ => rfl⟩
theorem Turned2.fst (h : Turned2 b g w w') (t : Turned b w' w1) : Turned2 b g w w1 :=
  ⟨t.os.trans h.os, t.tape.trans h.tape, t.output.trans h.output, Nat.le_trans h.size t.size, fun k hk h1 h2 => (t.block k (Nat.lt_of_lt_of_le hk h.size) h1).trans (h.block k hk h1 h2)⟩
theorem Turned2.snd (h : Turned2 b g w w') (t : Turned g w' w1) : Turned2 b g w w1 :=
  ⟨t.os.trans h.os, t.tape.trans h.tape, t.output.trans h.output, Nat.le_trans h.size t.size, fun k hk h1 h2 => (t.block k (Nat.lt_of_lt_of_le hk h.size) h2).trans (h.block k hk h1 h2)⟩
theorem Turned2.below {n : Nat} (h : Turned2 b g w w') (hb : n ≤ b) (hg : n ≤ g) (hn : n ≤ w.heap.size) : Below n w w' :=
  ⟨h.os, h.tape, h.output, h.size, fun k hk => h.block k (by omega) (by omega) (by omega)⟩
theorem Turned2.grown {base e n : Nat} {v : Value} {xs : List Value} (h : Turned2 b g w w') (ho : w'.ownsRow base e 1 v n xs) (hb : w.heap.size ≤ base) (hg : w'.grownBy w1 v.ownBlock) : Turned2 b g w w1 :=
  ⟨hg.os.trans h.os, hg.tape.trans h.tape, hg.output.trans h.output, Nat.le_trans h.size hg.size, fun k hk h1 h2 => (hg.block k (Nat.lt_of_lt_of_le hk h.size) (fun e => by
    have := (ho.lt k e.symm).1
    omega)).trans (h.block k hk h1 h2)⟩
theorem rd_turn2 {x n : Nat} {k : Nat → Value} {A : Option Addr} (hb : Rd b w k A n) (hg : Rd g w k A n) (hx : Rd x w k A n) (t : Turned2 b g w w') : Rd x w' k A n := fun hn => by
  obtain ⟨ad, rfl, h1, h2, h3⟩ := hb hn
  obtain ⟨ad', e', h4, _⟩ := hg hn
  injection e' with e'
  subst e'
  obtain ⟨ad', e', h5, _⟩ := hx hn
  injection e' with e'
  subst e'
  exact ⟨_, rfl, h5, Nat.lt_of_lt_of_le h2 t.size, fun j hj => (World.cell?_of_block (by rw [block_of_add]; exact t.block _ h2 h1 h4)).trans (h3 j hj)⟩
end

/-- rows of S bytes that are appended to, i of them, while the field at b and the box at g turn -/
structure CoS (p b wd g : Nat) (w0 : World) (F : Nat → Nat → Nat) (S i : Nat) (v : Value) (wr : World) : Prop where
  fld : Fld p b wd wr
  same : Turned2 b g w0 wr
  list : ∃ (Bs : Nat → Option Addr) (Ds : Nat → Nat), wr.ownsRow w0.heap.size TBs 1 v i ((List.range i).map (slis Bs (fun _ => S) Ds)) ∧ ∀ r, r < i → S ≤ Ds r ∧ ∀ x, (x < w0.heap.size ∨ v.ownBlock = some x) → Rd x wr (u8s (F r)) (Bs r) S
section
variable {p b wd g S i : Nat} {w0 wr w1 : World} {F : Nat → Nat → Nat} {v : Value}
/-- what the field's methods turn -/
theorem CoS.turn (h : CoS p b wd g w0 F S i v wr) (hb : b < w0.heap.size) (hf : Fld p b wd w1) (t : Turned b wr w1) : CoS p b wd g w0 F S i v w1 := by
  obtain ⟨h1, h2, Bs, Ds, h3, h4⟩ := h
  exact ⟨hf, h2.fst t, Bs, Ds, own_turned h3 hb t, fun r hr => ⟨(h4 r hr).1, fun x hx => rd_turn ((h4 r hr).2 b (Or.inl hb)) ((h4 r hr).2 x hx) t⟩⟩
/-- what the box's own call turns -/
theorem CoS.box (h : CoS p b wd g w0 F S i v wr) (hg : g < w0.heap.size) (hf : Fld p b wd w1) (t : Turned g wr w1) : CoS p b wd g w0 F S i v w1 := by
  obtain ⟨h1, h2, Bs, Ds, h3, h4⟩ := h
  exact ⟨hf, h2.snd t, Bs, Ds, own_turned h3 hg t, fun r hr => ⟨(h4 r hr).1, fun x hx => rd_turn ((h4 r hr).2 g (Or.inl hg)) ((h4 r hr).2 x hx) t⟩⟩
theorem CoS.below (h : CoS p b wd g w0 F S i v wr) (hb : Below wr.heap.size wr w1) : CoS p b wd g w0 F S i v w1 := by
  obtain ⟨h1, h2, Bs, Ds, h3, h4⟩ := h
  exact ⟨h1.of_below hb, h2.fst (Turned.of_below hb), Bs, Ds, own_below' h3 hb, fun r hr => ⟨(h4 r hr).1, fun x hx => ((h4 r hr).2 x hx).below hb⟩⟩
/-- a list that is laid empty, with room -/
theorem CoS.start {cur : Array Value} {cap : Nat} (h : Fld p b wd w0) (F : Nat → Nat → Nat) (S : Nat) (hm : cap ≤ maxLen) (hs : cur.size = cap) : CoS p b wd g w0 F S 0 (.slice (some ⟨w0.heap.size, 0, none⟩) 0 cap) (w0.alloc (.cells cur TBs)) :=
  ⟨h.of_below (below_alloc _ _), (Turned2.refl _ _ _).fst (Turned.of_below (below_alloc _ _)), fun _ => none, fun _ => 0, World.ownsRow_made w0 cur cap (Nat.le_refl _) hm (by rw [Nat.mul_one, hs]), fun r hr => absurd hr (by omega)⟩
/-- one more row -/
theorem CoS.step {o : Obj} {Bs : Nat → Option Addr} {Ds : Nat → Nat} {A' : Option Addr} {c' g' cap : Nat} (hf : Fld p b wd wr) (h1 : Turned2 b g w0 wr) (h0 : 0 < w0.heap.size) (h2 : wr.ownsRow w0.heap.size TBs 1 v i ((List.range i).map (slis Bs (fun _ => S) Ds)))
    (h3 : ∀ r, r < i → S ≤ Ds r ∧ ∀ x, (x < w0.heap.size ∨ v.ownBlock = some x) → Rd x wr (u8s (F r)) (Bs r) S) (hr : S ≤ c' ∧ ∀ x, (x < w0.heap.size ∨ v.ownBlock = some x) → Rd x wr (u8s (F i)) A' S)
    (hown : w1.ownsRow w0.heap.size TBs 1 (.slice (some ⟨g', 0, none⟩) (i + 1) cap) (i + 1) ((List.range i).map (slis Bs (fun _ => S) Ds) ++ [.slice A' S c'])) (hgr : (wr.alloc o).grownBy w1 v.ownBlock) (hg : v.ownBlock = some g' ∨ g' = wr.heap.size + 1) (hTF : TBs ≠ TF) (hT16 : TBs ≠ T16) :
    CoS p b wd g w0 F S (i + 1) (.slice (some ⟨g', 0, none⟩) (i + 1) cap) w1 := by
  have hg : v.ownBlock = some g' ∨ g' = (wr.alloc o).heap.size := by rw [World.size_alloc]; exact hg
  refine ⟨(hf.of_below (below_alloc wr o)).grown (h2.alloc o) hTF hT16 hgr, (h1.fst (Turned.of_below (below_alloc wr o))).grown (h2.alloc o) (Nat.le_refl _) hgr, fun r => if r = i then A' else Bs r, fun r => if r = i then c' else Ds r, ?_, fun r hr' => ?_⟩
  · rw [range_snoc]
    have e1 : (List.range i).map (slis (fun r => if r = i then A' else Bs r) (fun _ => S) (fun r => if r = i then c' else Ds r)) = (List.range i).map (slis Bs (fun _ => S) Ds) := range_congr (fun j hj => by
      simp only [slis]
      rw [if_neg (by omega), if_neg (by omega)])
    rw [e1]
    simp only [slis, if_pos]
    exact hown
  · have hall : ∀ k A, (∀ x, (x < w0.heap.size ∨ v.ownBlock = some x) → Rd x wr k A S) → ∀ x, (x < w0.heap.size ∨ some g' = some x) → Rd x w1 k A S := fun k A hR x hx => by
      refine rd_grow (S := fun x => x < w0.heap.size ∨ v.ownBlock = some x) (S' := fun x => x < w0.heap.size ∨ some g' = some x) (b := 0) (fun x hx => (hR x hx).below (below_alloc wr o)) (Or.inl h0) hgr (fun x e => Or.inr e) (fun x hx => ?_) x hx
      rcases hx with hx | hx
      · exact Or.inl (Or.inl hx)
      · injection hx with hx
        subst hx
        rcases hg with hg | hg
        · exact Or.inl (Or.inr hg)
        · exact Or.inr (by omega)
    by_cases e : r = i
    · subst e
      dsimp only
      rw [if_pos rfl, if_pos rfl]
      exact ⟨hr.1, hall _ _ hr.2⟩
    · dsimp only
      rw [if_neg e, if_neg e]
      exact ⟨(h3 r (by omega)).1, hall _ _ (h3 r (by omega)).2⟩
/-- the rows are told, apart from all that lay there -/
theorem CoS.told {w : World} (h : CoS p b wd g w0 F S i v wr) (h0 : 0 < w0.heap.size) (hw : w.heap.size ≤ w0.heap.size) (hB : Below w.heap.size w wr) : RowsTold i F (fun _ => S) w v wr := by
  obtain ⟨_, _, Bs, Ds, h2, h3⟩ := h
  obtain ⟨A, c, e, hc, _⟩ := Rd.of_own h2 h0
  refine ⟨A, c, e, hc, fun x hx => ⟨Bs, Ds, ?_, fun r hr => (h3 r hr).2 x (Or.inl (by omega))⟩, hB⟩
  obtain ⟨A2, c2, e2, _, h5⟩ := Rd.of_own h2 (show x < w0.heap.size by omega)
  rw [e] at e2
  injection e2 with e2
  subst e2
  exact h5
/-- they have room for all their bytes -/
theorem CoS.caps {A : Option Addr} {c : Nat} (h : CoS p b wd g w0 F S i (.slice A i c) wr) (h0 : 0 < w0.heap.size) : Caps wr A i := by
  obtain ⟨_, _, Bs, Ds, h2, h3⟩ := h
  obtain ⟨A2, c2, e, _, h5⟩ := Rd.of_own h2 h0
  injection e with e
  subst e
  exact Caps.of_rd h5 (fun r hr => (h3 r hr).1)
end
end Go.Proofs.YtgbipbcejjlpiaaGreatDoor
