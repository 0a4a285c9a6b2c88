/- Layer 11: contracts of the closure that tells a profile's parity rows one by one, and of the function that makes it. -/
import Derived.Test.YtgbipbcejjlpiaaGreatDoorCdh
import Derived.Test.YtgbipbcejjlpiaaGreatDoorGxw
import Derived.Test.YtgbipbcejjlpiaaGreatDoorGxr
namespace Go.Proofs.YtgbipbcejjlpiaaGreatDoor
open Go.RowKit

set_option maxRecDepth 100000 in
/-- behind the last row -/
theorem next_no (g : Nat) (A : Option Addr) (c : Nat) (w : World) (hg : w.rowIs g TM 1 (fun _ => .slice A 0 c)) :
    Calls Tryz.prog 42 #[.pointer (some ⟨g, 0, none⟩)] w fun e w' => e = .returned (.tuple #[nilS, .bool false]) ∧ w = w' := by
  have c0 := hg.cell (i := 0) (by omega)
  clear hg
  go_enter Tryz.func42, Tryz.ntmps42
  go_wp2_with fail
  go_ret2
  exact ⟨rfl, rfl⟩

set_option maxRecDepth 100000 in
/-- a row, and the box holds the others -/
theorem next_yes (x g : Nat) (A : Option Addr) (n c : Nat) (As : Nat → Option Addr) (Ls Cs : Nat → Nat) (w : World) (hg : w.rowIs g TM 1 (fun _ => .slice A (n + 1) c)) (hr : Rd x w (slis As Ls Cs) A (n + 1)) :
    Calls Tryz.prog 42 #[.pointer (some ⟨g, 0, none⟩)] w fun e w' => e = .returned (.tuple #[.slice (As 0) (Ls 0) (Cs 0), .bool true]) ∧ w.setCell ⟨g, 0, none⟩ (.slice (if c = 1 then A else A.map (·.add 1)) n (c - 1)) = w' := by
  have c0 := hg.cell (i := 0) (by omega)
  have f0 := hg.frozen 0
  obtain ⟨ad, rfl, c1⟩ := hr.at_ (show 0 < n + 1 by omega)
  rw [show ad.add 0 = ad by simp [Addr.add]] at c1
  simp only [slis] at c1
  have hs : ∀ w : World, (Instr.slice TM (.slice (some ad) (n + 1) c) (some (.int .i64 1)) none none).run Tryz.prog w = .ok (.slice (if c = 1 then some ad else (some ad).map (·.add 1)) (n + 1 - 1) (c - 1)) w := run_fromM (some ad) (n + 1) c 1 (by omega)
  rw [Nat.add_sub_cancel] at hs
  obtain ⟨A1, hA1⟩ : ∃ A1, (if c = 1 then some ad else (some ad).map (·.add 1)) = A1 := ⟨_, rfl⟩
  rw [hA1] at hs ⊢
  have hne : (((n + 1 : Nat) : Int) == 0) = false := by simp; omega
  clear hg hr hA1
  go_enter Tryz.func42, Tryz.ntmps42
  go_wp2_with fail
  go_ret2
  exact ⟨rfl, rfl⟩

/-- what rowsOf tells -/
def RowsOfSaid (p k m : Int) (w : World) (e : Ending) (w' : World) : Prop :=
  Below w.heap.size w w' ∧ ((¬ mayX p k m ∧ e = .returned (.tuple #[.nilFunc, .int .i64 1])) ∨
    (mayX p k m ∧ ∃ g A c As Cs, e = .returned (.tuple #[.func (.func 42) #[] #[.pointer (some ⟨g, 0, none⟩)], .int .i64 0]) ∧ w.heap.size ≤ g ∧ m.toNat ≤ c ∧ w'.rowIs g TM 1 (fun _ => .slice A m.toNat c) ∧
      ∀ x, (x = g ∨ w'.heap.size ≤ x) → Rd x w' (slis As (fun _ => k.toNat) Cs) A m.toNat ∧ ∀ r, r < m.toNat → Rd x w' (i64s (ivs (rowsE p k.toNat m.toNat) r)) (As r) k.toNat))

set_option maxRecDepth 100000 in
theorem rows20 (p k m : Int) (w : World) (hT : Tab w) : Calls Tryz.prog 20 #[.agg (parA p k m)] w (RowsOfSaid p k m w) := by
  have hmf : ∀ (fn : Fn) (first cap : Array Value) (w : World), (Instr.makeFunc fn first cap).run Tryz.prog w = .ok (.func fn first cap) w := fun _ _ _ _ => rfl
  obtain ⟨v, hv⟩ : ∃ v, w.alloc (.cells #[.int .i64 p, .int .i64 k, .int .i64 m] TPa) = v := ⟨_, rfl⟩
  obtain ⟨_, e0, hbv⟩ := one_box hv
  have HT := Lib.hid (hT.below hbv)
  have HV := Lib.hid hbv
  obtain ⟨d0, d1, d2⟩ := box_three e0
  clear e0 hbv hT
  go_enter Tryz.func20, Tryz.ntmps20
  go_wp2_with fail
  refine (par12 p k m _ HT.out).mono ?_
  rintro e w1 ⟨t, A, c, g0, rfl, ht, hc, hx, hg0, hb1⟩
  have H1 := Lib.hid (below_tr HV.out hb1)
  have HM := Lib.hid ht
  clear hb1 d0 d1 d2 ht
  obtain ⟨w2, hw2⟩ : ∃ w2, w1.alloc (.cells #[.slice A (cond t m.toNat 0) c] TM) = w2 := ⟨_, rfl⟩
  have hb2 : Below w1.heap.size w1 w2 := by rw [← hw2]; exact below_alloc _ _
  have H2 := Lib.hid (below_tr H1.out hb2)
  have hr2 : w2.rowIs w1.heap.size TM 1 (fun _ => .slice A (cond t m.toNat 0) c) := by
    rw [← hw2]
    exact World.rowIs_alloc w1 #[.slice A (cond t m.toNat 0) c] TM _ (fun i hi => by simp at hi; subst hi; rfl)
  cases t
  · have HE := Lib.hid (show RowsOfSaid p k m w (.returned (.tuple #[.nilFunc, .int .i64 1])) w2 from ⟨H2.out, Or.inl ⟨fun h => (by have := HM.out.2 h; cases this), rfl⟩⟩)
    rw [show errOf false = 1 from rfl]
    simp only [cond_false] at hw2 ⊢
    clear hx hr2 hb2 hc
    go_wp2_with fail
    go_ret2
    exact HE.out
  · obtain ⟨As, Cs, h1, h2⟩ := hx
    simp only [cond_true] at h1 h2 hr2 hc hw2 ⊢
    have HE := Lib.hid (show RowsOfSaid p k m w (.returned (.tuple #[.func (.func 42) #[] #[.pointer (some ⟨w1.heap.size, 0, none⟩)], .int .i64 0])) w2 from ⟨H2.out, Or.inr ⟨HM.out.1 rfl, w1.heap.size, A, c, As, Cs, rfl, H1.out.size, hc, hr2, fun x hx => by
      have hx' : w1.heap.size ≤ x := by
        rcases hx with rfl | hx
        · exact Nat.le_refl _
        · have := hb2.size; omega
      exact ⟨(h1.above hx').below hb2, fun r hr => ((h2 r hr).above hx').below hb2⟩⟩⟩)
    rw [show errOf true = 0 from rfl]
    clear h1 h2 hr2 hb2 hc
    go_wp2_with fail
    go_ret2
    exact HE.out
end Go.Proofs.YtgbipbcejjlpiaaGreatDoor
