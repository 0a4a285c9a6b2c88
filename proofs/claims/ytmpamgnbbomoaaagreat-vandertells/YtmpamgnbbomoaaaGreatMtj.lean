/- Contracts of gambrelref04: the identity, rows picked and joined. -/
import Derived.Test.YtmpamgnbbomoaaaGreatMti
import Derived.Test.YtmpamgnbbomoaaaGreatMtg
import Derived.Test.YtmpamgnbbomoaaaGreatMth
namespace Go.Proofs.YtmpamgnbbomoaaaGreat
open Go.RowKit

theorem Rd.other {b g : Nat} {w : World} {k : Nat → Value} {A : Option Addr} {n : Nat} (h : Rd b w k A n) (hg : w.heap.size ≤ g) : Rd g w k A n := fun hn => by
  obtain ⟨ad, e, h1, h2, h3⟩ := h hn
  exact ⟨ad, e, by omega, h2, h3⟩

/-- a matrix that is told, beside a field at b -/
def MTold (b n : Nat) (F : Nat → Nat → Int) (Ls : Nat → Nat) (w : World) (v : Value) (w' : World) : Prop := ∃ A c, v = .slice A n c ∧ n ≤ c ∧ Mx b w' F Ls A n ∧ Below w.heap.size w w'
theorem MatTold.at_ {b n : Nat} {F : Nat → Nat → Int} {Ls : Nat → Nat} {w : World} {v : Value} {w' : World} (h : MatTold n F Ls w v w') (hb : b < w.heap.size) : MTold b n F Ls w v w' := by
  obtain ⟨A, c, h1, h2, h3, h4⟩ := h
  exact ⟨A, c, h1, h2, h3 b hb, h4⟩
theorem MTold.nil {b : Nat} {F : Nat → Nat → Int} {Ls : Nat → Nat} {w w' : World} (h : Below w.heap.size w w') : MTold b 0 F Ls w nilS w' := ⟨none, 0, rfl, Nat.le_refl _, Mx.zero, h⟩
theorem MTold.from {b n : Nat} {F : Nat → Nat → Int} {Ls : Nat → Nat} {w w1 w' : World} {v : Value} (hb : Below w.heap.size w w1) (h : MTold b n F Ls w1 v w') : MTold b n F Ls w v w' := by
  obtain ⟨A, c, h1, h2, h3, h4⟩ := h
  exact ⟨A, c, h1, h2, h3, below_tr hb h4⟩

/-- rows that are appended, one by one -/
def MApp (b : Nat) (w : World) (F : Nat → Nat → Int) (Ls : Nat → Nat) (k : Nat) (v : Value) (wr : World) : Prop :=
  Below w.heap.size w wr ∧ ∃ (As : Nat → Option Addr) (Cs : Nat → Nat), wr.ownsRow w.heap.size TIs 1 v k ((List.range k).map (slis As Ls Cs)) ∧ ∀ r, r < k → ∀ g, (g = b ∨ v.ownBlock = some g) → Rd g wr (i64s (F r)) (As r) (Ls r)

theorem own_below {w w' : World} {base e n : Nat} {v : Value} {xs : List Value} (h : w.ownsRow base e 1 v n xs) (hb : Below w.heap.size w w') : w'.ownsRow base e 1 v n xs :=
  h.kept (row := none) ⟨hb.os, hb.tape, hb.output, hb.size, fun k hk _ => hb.block k hk⟩ (Classical.em _)

theorem MApp.start (b : Nat) (w : World) (F : Nat → Nat → Int) (Ls : Nat → Nat) : MApp b w F Ls 0 nilS w := ⟨Below.refl _ _, fun _ => none, fun _ => 0, World.ownsRow_nil _ _ _ _, fun r hr => absurd hr (by omega)⟩
theorem MApp.below {b : Nat} {w : World} {F : Nat → Nat → Int} {Ls : Nat → Nat} {k : Nat} {v : Value} {wr w' : World} (h : MApp b w F Ls k v wr) (hb : Below wr.heap.size wr w') : MApp b w F Ls k v w' := by
  obtain ⟨h1, As, Cs, h2, h3⟩ := h
  exact ⟨below_tr h1 hb, As, Cs, own_below h2 hb, fun r hr g hg => (h3 r hr g hg).below hb⟩
theorem rd_grown {b g' : Nat} {wr w1 : World} {o : Obj} {own : Option Nat} {k : Nat → Value} {A : Option Addr} {n : Nat} (hr : ∀ g, (g = b ∨ own = some g) → Rd g wr k A n) (hgr : (wr.alloc o).grownBy w1 own) (hg : own = some g' ∨ g' = (wr.alloc o).heap.size) :
    ∀ g, (g = b ∨ some g' = some g) → Rd g w1 k A n := fun g hgg hn => by
  obtain ⟨ad, rfl, h1, h2, h3⟩ := hr b (Or.inl rfl) hn
  have hno : own ≠ some ad.block := fun e => by
    obtain ⟨ad', e', h4, _⟩ := hr ad.block (Or.inr e) hn
    injection e' with e'
    subst e'
    exact h4 rfl
  have hbl : w1.heap[ad.block]? = wr.heap[ad.block]? := (hgr.block ad.block (by simp; omega) (fun e => hno e.symm)).trans (Below.heap_alloc wr o _ h2)
  refine ⟨ad, rfl, ?_, Nat.lt_of_lt_of_le h2 (Nat.le_trans (by simp) hgr.size), fun j hj => (World.cell?_of_block (by rw [block_of_add]; exact hbl)).trans (h3 j hj)⟩
  rcases hgg with rfl | hgg
  · exact h1
  · injection hgg with hgg
    subst hgg
    rcases hg with hg | hg
    · exact fun e => hno (e ▸ hg)
    · simp at hg
      omega
theorem MApp.step {b : Nat} {w : World} {F : Nat → Nat → Int} {Ls : Nat → Nat} {k : Nat} {v : Value} {wr w1 : World} {o : Obj} {As : Nat → Option Addr} {Cs : Nat → Nat} {A' : Option Addr} {n' c' g' cap : Nat} (h1 : Below w.heap.size w wr) (h2 : wr.ownsRow w.heap.size TIs 1 v k ((List.range k).map (slis As Ls Cs)))
    (h3 : ∀ r, r < k → ∀ g, (g = b ∨ v.ownBlock = some g) → Rd g wr (i64s (F r)) (As r) (Ls r)) (hn : Ls k = n') (hr : ∀ g, (g = b ∨ v.ownBlock = some g) → Rd g wr (i64s (F k)) A' n')
    (hown : w1.ownsRow w.heap.size TIs 1 (.slice (some ⟨g', 0, none⟩) (k + 1) cap) (k + 1) ((List.range k).map (slis As Ls Cs) ++ [.slice A' n' c'])) (hgr : (wr.alloc o).grownBy w1 v.ownBlock) (hg : v.ownBlock = some g' ∨ g' = wr.heap.size + 1) :
    MApp b w F Ls (k + 1) (.slice (some ⟨g', 0, none⟩) (k + 1) cap) w1 := by
  subst hn
  have hg : v.ownBlock = some g' ∨ g' = (wr.alloc o).heap.size := by rw [World.size_alloc]; exact hg
  refine ⟨(h1.alloc h1.size o).grown hgr (by simp; have := h1.size; omega) (fun q hq => (h2.lt q hq).1), fun r => if r = k then A' else As r, fun r => if r = k then c' else Cs r, ?_, fun r hr' g hgg => ?_⟩
  · rw [range_snoc]
    have e1 : (List.range k).map (slis (fun r => if r = k then A' else As r) Ls (fun r => if r = k then c' else Cs r)) = (List.range k).map (slis As Ls Cs) := range_congr (fun j hj => by
      simp only [slis]
      rw [if_neg (by omega), if_neg (by omega)])
    rw [e1]
    simp only [slis, if_pos]
    exact hown
  · by_cases e : r = k
    · subst e
      dsimp only
      rw [if_pos rfl]
      exact rd_grown hr hgr hg g hgg
    · dsimp only
      rw [if_neg e]
      exact rd_grown (h3 r (by omega)) hgr hg g hgg
theorem MApp.told {b : Nat} {w : World} {F : Nat → Nat → Int} {Ls : Nat → Nat} {k : Nat} {v : Value} {wr : World} (h : MApp b w F Ls k v wr) (hb : b < w.heap.size) : MTold b k F Ls w v wr := by
  obtain ⟨h1, As, Cs, h2, h3⟩ := h
  obtain ⟨A, c, e, hc, hrd⟩ := Rd.of_own h2 hb
  exact ⟨A, c, e, hc, ⟨As, Cs, hrd, fun r hr => h3 r hr b (Or.inl rfl)⟩, h1⟩
theorem one_slice (A : Option Addr) (n c : Nat) : ∀ u ∈ [Value.slice A n c], u.oneCell' = true := by intro u hu; simp at hu; subst hu; rfl

/-- in Pick's loop -/
def RPickAt (b n : Nat) (Ls : Nat → Nat) (F : Nat → Nat → Int) (m : Nat) (l : Nat → Int) (w : World) (s8 s9 : Value) (wr : World) : Prop :=
  ∃ k : Nat, k ≤ m ∧ s9 = .int .i64 k ∧ (∀ r, r < k → 0 ≤ l r ∧ l r < n) ∧ MApp b w (fun r => F (l r).toNat) (fun r => Ls (l r).toNat) k s8 wr
/-- what Pick of the document tells -/
def RPickAny (b c n : Nat) (Ls : Nat → Nat) (F : Nat → Nat → Int) (m : Nat) (l : Nat → Int) (w : World) (e : Ending) (w' : World) : Prop :=
  ∃ t v, e = .returned (.tuple #[v, .bool t]) ∧ (t = true ↔ pickP c n Ls F m l) ∧ MTold b (cond t m 0) (fun r => F (l r).toNat) (fun r => Ls (l r).toNat) w v w'
theorem RPickAny.no {b c n : Nat} {Ls : Nat → Nat} {F : Nat → Nat → Int} {m : Nat} {l : Nat → Int} {w w' : World} (h : ¬ pickP c n Ls F m l) (hb : Below w.heap.size w w') : RPickAny b c n Ls F m l w (.returned (.tuple #[nilS, .bool false])) w' :=
  ⟨false, _, rfl, by simp [h], MTold.nil hb⟩
end Go.Proofs.YtmpamgnbbomoaaaGreat
