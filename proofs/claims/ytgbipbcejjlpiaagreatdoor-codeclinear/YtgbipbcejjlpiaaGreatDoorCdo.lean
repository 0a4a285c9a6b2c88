/- Layer 11: three lists of rows that are appended to beside one another, and bytes that are appended to, which become the third list's rows. -/
import Derived.Test.YtgbipbcejjlpiaaGreatDoorGya
import Derived.Test.YtgbipbcejjlpiaaGreatDoorGxz
import Derived.Test.YtgbipbcejjlpiaaGreatDoorGxn
import Derived.Test.YtgbipbcejjlpiaaGreatDoorGxn
import Derived.Test.YtgbipbcejjlpiaaGreatDoorGxm
import Derived.Laws.Cover1
namespace Go.Proofs.YtgbipbcejjlpiaaGreatDoor
open Go.RowKit

/-- lists of unlike kinds lie apart -/
theorem own_kinds {W : World} {base base' e e' n n' g : Nat} {v v' : Value} {xs xs' : List Value} (h : W.ownsRow base e 1 v n xs) (h' : W.ownsRow base' e' 1 v' n' xs') (hne : e ≠ e') (hg : v.ownBlock = some g) : v'.ownBlock ≠ some g := fun hg' => by
  rcases h.2 with ⟨rfl, _⟩ | ⟨g1, _, _, rfl, _, h1, _⟩
  · cases hg
  · rcases h'.2 with ⟨rfl, _⟩ | ⟨g2, _, _, rfl, _, h2, _⟩
    · cases hg'
    · simp only [Value.ownBlock] at hg hg'
      injection hg with hg
      injection hg' with hg'
      subst hg hg'
      rw [h1] at h2
      injection h2 with h2
      injection h2 with _ h2
      exact hne h2
/-- a list of the call's own, as it is read, apart from all blocks but its own -/
theorem rd_own {base e n b : Nat} {w : World} {k : Nat → Value} {v : Value} (h : w.ownsRow base e 1 v n ((List.range n).map k)) (hb : v.ownBlock ≠ some b) : ∃ A c, v = .slice A n c ∧ n ≤ c ∧ Rd b w k A n := by
  rcases h.2 with ⟨rfl, rfl⟩ | ⟨g, cap, cur, rfl, hg, hh, hc, _, hs, ht⟩
  · exact ⟨none, 0, rfl, Nat.le_refl _, Rd.zero⟩
  · refine ⟨_, cap, rfl, hc, fun hn => ⟨_, rfl, fun e => hb (by rw [← e]; rfl), ?_, fun j hj => ?_⟩⟩
    · rcases Nat.lt_or_ge g w.heap.size with hl | hl
      · exact hl
      · rw [Array.getElem?_eq_none hl] at hh; cases hh
    · have h1 := h.cells (g := g) rfl j (k j) (by rw [List.getElem?_map, List.getElem?_range (by omega)]; rfl)
      exact h1

/-- blocks that turn while the lists grow, and one more -/
def Off (x0 : Nat) (vp vq vs vt : Value) (g : Nat) : Prop := g = x0 ∨ vp.ownBlock = some g ∨ vq.ownBlock = some g ∨ vs.ownBlock = some g ∨ vt.ownBlock = some g

/-- three lists of rows, and bytes, that are appended to -/
structure Lin (x0 : Nat) (w0 : World) (P Q : Nat → Value) (H : Nat → Nat → Nat) (S ip iq is k : Nat) (vp vq vs vt : Value) (wr : World) : Prop where
  below : Below w0.heap.size w0 wr
  p : wr.ownsRow w0.heap.size TBs 1 vp ip ((List.range ip).map P)
  q : wr.ownsRow w0.heap.size TBs 1 vq iq ((List.range iq).map Q)
  s : ∃ (As : Nat → Option Addr) (Ds : Nat → Nat), wr.ownsRow w0.heap.size TBs 1 vs is ((List.range is).map (slis As (fun _ => S) Ds)) ∧ ∀ r, r < is → ∀ g, Off x0 vp vq vs vt g → Rd g wr (u8s (H r)) (As r) S
  t : wr.ownsRow w0.heap.size TB 1 vt k ((List.range k).map (u8s (H is)))
  pq : Apart vp vq
  ps : Apart vp vs
  qs : Apart vq vs
section
variable {x0 S ip iq is k g' cap : Nat} {w0 wr w1 : World} {P Q : Nat → Value} {H : Nat → Nat → Nat} {vp vq vs vt : Value} {o : Obj}
theorem Lin.start (x0 : Nat) (w0 : World) (P Q : Nat → Value) (H : Nat → Nat → Nat) (S : Nat) : Lin x0 w0 P Q H S 0 0 0 0 nilS nilS nilS nilS w0 :=
  ⟨Below.refl _ _, World.ownsRow_nil _ _ _ _, World.ownsRow_nil _ _ _ _, ⟨fun _ => none, fun _ => 0, World.ownsRow_nil _ _ _ _, fun r hr => absurd hr (by omega)⟩, World.ownsRow_nil _ _ _ _, Apart.nil _, Apart.nil _, Apart.nil _⟩
theorem Lin.drew (h : Lin x0 w0 P Q H S ip iq is k vp vq vs vt wr) : Lin x0 w0 P Q H S ip iq is k vp vq vs vt wr.drew :=
  ⟨h.below.drew, h.p, h.q, h.s, h.t, h.pq, h.ps, h.qs⟩
theorem Lin.below_of {b e n : Nat} {v : Value} {xs : List Value} (h : Lin x0 w0 P Q H S ip iq is k vp vq vs vt wr) (ho : wr.ownsRow w0.heap.size e 1 v n xs) (hgr : (wr.alloc o).grownBy w1 v.ownBlock) (_ : b = b) : Below w0.heap.size w0 w1 :=
  (h.below.alloc h.below.size o).grown hgr (by simp; have := h.below.size; omega) (fun q hq => (ho.lt q hq).1)
theorem Lin.addP (h : Lin x0 w0 P Q H S ip iq is k vp vq vs vt wr) (hK : TB ≠ TBs)
    (hown : w1.ownsRow w0.heap.size TBs 1 (.slice (some ⟨g', 0, none⟩) (ip + 1) cap) (ip + 1) ((List.range ip).map P ++ [P ip])) (hgr : (wr.alloc o).grownBy w1 vp.ownBlock) (hg : vp.ownBlock = some g' ∨ g' = wr.heap.size + 1) :
    Lin x0 w0 P Q H S (ip + 1) iq is k (.slice (some ⟨g', 0, none⟩) (ip + 1) cap) vq vs vt w1 := by
  obtain ⟨As, Ds, s1, s2⟩ := h.s
  have hq := app_other h.q h.pq.symm hgr hg (v' := .slice (some ⟨g', 0, none⟩) (ip + 1) cap) rfl
  have hs := app_other s1 h.ps.symm hgr hg (v' := .slice (some ⟨g', 0, none⟩) (ip + 1) cap) rfl
  refine ⟨h.below_of (b := 0) h.p hgr rfl, by rw [range_snoc]; exact hown, hq.1, ⟨As, Ds, hs.1, fun r hr => ?_⟩, keep_kind (h.p.alloc o) hgr hK (h.t.alloc o), hq.2.symm, hs.2.symm, h.qs⟩
  refine rd_grow (S := Off x0 vp vq vs vt) (b := x0) (fun x hx => (s2 r hr x hx).below (below_alloc wr o)) (Or.inl rfl) hgr (fun x e => Or.inr (Or.inl e)) (fun x hx => ?_)
  rcases hx with hx | hx | hx
  · exact Or.inl (Or.inl hx)
  · simp only [Value.ownBlock] at hx
    injection hx with hx
    subst hx
    rcases hg with hg | hg
    · exact Or.inl (Or.inr (Or.inl hg))
    · exact Or.inr (by simp; omega)
  · exact Or.inl (Or.inr (Or.inr hx))
theorem Lin.addQ (h : Lin x0 w0 P Q H S ip iq is k vp vq vs vt wr) (hK : TB ≠ TBs)
    (hown : w1.ownsRow w0.heap.size TBs 1 (.slice (some ⟨g', 0, none⟩) (iq + 1) cap) (iq + 1) ((List.range iq).map Q ++ [Q iq])) (hgr : (wr.alloc o).grownBy w1 vq.ownBlock) (hg : vq.ownBlock = some g' ∨ g' = wr.heap.size + 1) :
    Lin x0 w0 P Q H S ip (iq + 1) is k vp (.slice (some ⟨g', 0, none⟩) (iq + 1) cap) vs vt w1 := by
  obtain ⟨As, Ds, s1, s2⟩ := h.s
  have hp := app_other h.p h.pq hgr hg (v' := .slice (some ⟨g', 0, none⟩) (iq + 1) cap) rfl
  have hs := app_other s1 h.qs.symm hgr hg (v' := .slice (some ⟨g', 0, none⟩) (iq + 1) cap) rfl
  refine ⟨h.below_of (b := 0) h.q hgr rfl, hp.1, by rw [range_snoc]; exact hown, ⟨As, Ds, hs.1, fun r hr => ?_⟩, keep_kind (h.q.alloc o) hgr hK (h.t.alloc o), hp.2, h.ps, hs.2.symm⟩
  refine rd_grow (S := Off x0 vp vq vs vt) (b := x0) (fun x hx => (s2 r hr x hx).below (below_alloc wr o)) (Or.inl rfl) hgr (fun x e => Or.inr (Or.inr (Or.inl e))) (fun x hx => ?_)
  rcases hx with hx | hx | hx | hx
  · exact Or.inl (Or.inl hx)
  · exact Or.inl (Or.inr (Or.inl hx))
  · simp only [Value.ownBlock] at hx
    injection hx with hx
    subst hx
    rcases hg with hg | hg
    · exact Or.inl (Or.inr (Or.inr (Or.inl hg)))
    · exact Or.inr (by simp; omega)
  · exact Or.inl (Or.inr (Or.inr (Or.inr hx)))
theorem Lin.addT (h : Lin x0 w0 P Q H S ip iq is k vp vq vs vt wr) (hK : TBs ≠ TB)
    (hown : w1.ownsRow w0.heap.size TB 1 (.slice (some ⟨g', 0, none⟩) (k + 1) cap) (k + 1) ((List.range k).map (u8s (H is)) ++ [u8s (H is) k])) (hgr : (wr.alloc o).grownBy w1 vt.ownBlock) (hg : vt.ownBlock = some g' ∨ g' = wr.heap.size + 1) :
    Lin x0 w0 P Q H S ip iq is (k + 1) vp vq vs (.slice (some ⟨g', 0, none⟩) (k + 1) cap) w1 := by
  obtain ⟨As, Ds, s1, s2⟩ := h.s
  refine ⟨h.below_of (b := 0) h.t hgr rfl, keep_kind (h.t.alloc o) hgr hK (h.p.alloc o), keep_kind (h.t.alloc o) hgr hK (h.q.alloc o), ⟨As, Ds, keep_kind (h.t.alloc o) hgr hK (s1.alloc o), fun r hr => ?_⟩, by rw [range_snoc]; exact hown, h.pq, h.ps, h.qs⟩
  refine rd_grow (S := Off x0 vp vq vs vt) (b := x0) (fun x hx => (s2 r hr x hx).below (below_alloc wr o)) (Or.inl rfl) hgr (fun x e => Or.inr (Or.inr (Or.inr (Or.inr e)))) (fun x hx => ?_)
  rcases hx with hx | hx | hx | hx | hx
  · exact Or.inl (Or.inl hx)
  · exact Or.inl (Or.inr (Or.inl hx))
  · exact Or.inl (Or.inr (Or.inr (Or.inl hx)))
  · exact Or.inl (Or.inr (Or.inr (Or.inr (Or.inl hx))))
  · simp only [Value.ownBlock] at hx
    injection hx with hx
    subst hx
    rcases hg with hg | hg
    · exact Or.inl (Or.inr (Or.inr (Or.inr (Or.inr hg))))
    · exact Or.inr (by simp; omega)
/-- the bytes are a row of the third list, and others begin -/
theorem Lin.addS {As : Nat → Option Addr} {Ds : Nat → Nat} {At : Option Addr} {ct : Nat} (h : Lin x0 w0 P Q H S ip iq is S vp vq vs (.slice At S ct) wr) (hx0 : x0 < w0.heap.size) (hK : TB ≠ TBs)
    (s1 : wr.ownsRow w0.heap.size TBs 1 vs is ((List.range is).map (slis As (fun _ => S) Ds))) (s2 : ∀ r, r < is → ∀ g, Off x0 vp vq vs (.slice At S ct) g → Rd g wr (u8s (H r)) (As r) S)
    (hown : w1.ownsRow w0.heap.size TBs 1 (.slice (some ⟨g', 0, none⟩) (is + 1) cap) (is + 1) ((List.range is).map (slis As (fun _ => S) Ds) ++ [.slice At S ct])) (hgr : (wr.alloc o).grownBy w1 vs.ownBlock) (hg : vs.ownBlock = some g' ∨ g' = wr.heap.size + 1) :
    Lin x0 w0 P Q H S ip iq (is + 1) 0 vp vq (.slice (some ⟨g', 0, none⟩) (is + 1) cap) nilS w1 := by
  have hp := app_other h.p h.ps hgr hg (v' := .slice (some ⟨g', 0, none⟩) (is + 1) cap) rfl
  have hq := app_other h.q h.qs hgr hg (v' := .slice (some ⟨g', 0, none⟩) (is + 1) cap) rfl
  have hall : ∀ K A n, (∀ x, Off x0 vp vq vs nilS x → Rd x wr K A n) → ∀ x, Off x0 vp vq (.slice (some ⟨g', 0, none⟩) (is + 1) cap) nilS x → Rd x w1 K A n := fun K A n hR => by
    refine rd_grow (S := Off x0 vp vq vs nilS) (b := x0) (fun x hx => (hR x hx).below (below_alloc wr o)) (Or.inl rfl) hgr (fun x e => Or.inr (Or.inr (Or.inr (Or.inl e)))) (fun x hx => ?_)
    rcases hx with hx | hx | hx | hx | hx
    · exact Or.inl (Or.inl hx)
    · exact Or.inl (Or.inr (Or.inl hx))
    · exact Or.inl (Or.inr (Or.inr (Or.inl hx)))
    · simp only [Value.ownBlock] at hx
      injection hx with hx
      subst hx
      rcases hg with hg | hg
      · exact Or.inl (Or.inr (Or.inr (Or.inr (Or.inl hg))))
      · exact Or.inr (by simp; omega)
    · cases hx
  have hnew : ∀ x, Off x0 vp vq vs nilS x → Rd x wr (u8s (H is)) At S := fun x hx => by
    have hb : (Value.slice At S ct).ownBlock ≠ some x := fun e => by
      rcases hx with hx | hx | hx | hx | hx
      · have := (h.t.lt x e).1
        omega
      · exact own_kinds h.t h.p hK e hx
      · exact own_kinds h.t h.q hK e hx
      · exact own_kinds h.t s1 hK e hx
      · cases hx
    obtain ⟨A2, c2, e2, _, h5⟩ := rd_own h.t hb
    injection e2 with e2
    subst e2
    exact h5
  refine ⟨h.below_of (b := 0) s1 hgr rfl, hp.1, hq.1, ⟨fun r => if r = is then At else As r, fun r => if r = is then ct else Ds r, ?_, fun r hr x hx => ?_⟩, World.ownsRow_nil _ _ _ _, h.pq, hp.2, hq.2⟩
  · rw [range_snoc]
    have e1 : (List.range is).map (slis (fun r => if r = is then At else As r) (fun _ => S) (fun r => if r = is then ct else Ds r)) = (List.range is).map (slis As (fun _ => S) Ds) := range_congr (fun j hj => by
      simp only [slis]
      rw [if_neg (by omega), if_neg (by omega)])
    rw [e1]
    simp only [slis, if_pos]
    exact hown
  · dsimp only
    by_cases e : r = is
    · subst e
      rw [if_pos rfl]
      exact hall _ _ _ hnew x hx
    · rw [if_neg e]
      refine hall _ _ _ (fun y hy => s2 r (by omega) y ?_) x hx
      rcases hy with hy | hy | hy | hy | hy
      · exact Or.inl hy
      · exact Or.inr (Or.inl hy)
      · exact Or.inr (Or.inr (Or.inl hy))
      · exact Or.inr (Or.inr (Or.inr (Or.inl hy)))
      · cases hy
end
end Go.Proofs.YtgbipbcejjlpiaaGreatDoor
