/- Lists that are appended to beside one another. -/
import Derived.Test.YtmpamgnbbomoaaaGreatSlg
namespace Go.Proofs.YtmpamgnbbomoaaaGreat
open Go.RowKit

/-- two slices of the call's own lie in unlike blocks -/
def Apart (u v : Value) : Prop := u.ownBlock = none ∨ u.ownBlock ≠ v.ownBlock
theorem Apart.symm {u v : Value} (h : Apart u v) : Apart v u := by
  unfold Apart at *
  rcases h with h | h
  · cases e : v.ownBlock
    · exact Or.inl rfl
    · exact Or.inr (by rw [h]; simp)
  · exact Or.inr (Ne.symm h)
theorem Apart.nil (v : Value) : Apart nilS v := Or.inl rfl
theorem Apart.nil' (v : Value) : Apart v nilS := (Apart.nil v).symm

/-- what is appended to v leaves another list u as it was, and apart -/
theorem app_other {wr w1 : World} {o : Obj} {base e m g : Nat} {ys : List Value} {u v v' : Value} (hu : wr.ownsRow base e 1 u m ys) (hap : Apart u v) (hgr : (wr.alloc o).grownBy w1 v.ownBlock) (hg : v.ownBlock = some g ∨ g = wr.heap.size + 1) (hv' : v'.ownBlock = some g) :
    w1.ownsRow base e 1 u m ys ∧ Apart u v' := by
  refine ⟨(hu.alloc o).kept hgr hap, ?_⟩
  rcases hap with hap | hap
  · exact Or.inl hap
  · refine Or.inr ?_
    rw [hv']
    rcases hg with hg | hg
    · rw [← hg]; exact hap
    · intro h
      have := (hu.lt g h).2
      omega
/-- a block that is laid leaves it too -/
theorem own_alloc {wr : World} {o : Obj} {base e m : Nat} {ys : List Value} {u : Value} (hu : wr.ownsRow base e 1 u m ys) : (wr.alloc o).ownsRow base e 1 u m ys := hu.alloc o

/-- three lists that are appended to, behind k elements each -/
structure Tri (w : World) (X Y Z : Nat → Value) (k : Nat) (vx vy vz : Value) (wr : World) : Prop where
  below : Below w.heap.size w wr
  x : wr.ownsRow w.heap.size TI 1 vx k ((List.range k).map X)
  y : wr.ownsRow w.heap.size TI 1 vy k ((List.range k).map Y)
  z : wr.ownsRow w.heap.size TI 1 vz k ((List.range k).map Z)
  xy : Apart vx vy
  xz : Apart vx vz
  yz : Apart vy vz
theorem Tri.start (w : World) (X Y Z : Nat → Value) : Tri w X Y Z 0 nilS nilS nilS w := ⟨Below.refl _ _, World.ownsRow_nil _ _ _ _, World.ownsRow_nil _ _ _ _, World.ownsRow_nil _ _ _ _, Apart.nil _, Apart.nil _, Apart.nil _⟩
end Go.Proofs.YtmpamgnbbomoaaaGreat
