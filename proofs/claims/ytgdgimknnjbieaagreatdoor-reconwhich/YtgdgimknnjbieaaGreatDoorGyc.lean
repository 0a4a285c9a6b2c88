/- Memory in which two blocks alone turn; rows of bytes that are appended to while they do. Layer 11: contracts of the closure that tells a profile's parity rows one by one, and of the function that makes it. Layer 11: the contract of Parity. -/
import Derived.Test.YtgdgimknnjbieaaGreatDoorGxy
import Derived.Test.YtgdgimknnjbieaaGreatDoorGxm
import Derived.Test.YtgdgimknnjbieaaGreatDoorGxw
import Derived.Test.YtgdgimknnjbieaaGreatDoorGxr
import Derived.Test.YtgdgimknnjbieaaGreatDoorGyb

namespace Go.Proofs.YtgdgimknnjbieaaGreatDoor
open Go.RowKit

/-- w' is as w was, but for blocks b and g; memory only grew -/
structure Turned2 (b g : Nat) (w w' : World) : Prop where
  os : w'.os = w.os
  tape : w'.tape = w.tape
  output : w'.output = w.output
  size : w.heap.size ≤ w'.heap.size
  block : ∀ k, k < w.heap.size → k ≠ b → k ≠ g → w'.heap[k]? = w.heap[k]?
section
variable {b g : Nat} {w w' w1 : World}
theorem Turned2.refl (b g : Nat) (w : World) : Turned2 b g w w := ⟨rfl, rfl, rfl, Nat.le_refl _, fun _ _ _ _ => rfl⟩
theorem Turned2.fst (h : Turned2 b g w w') (t : Turned b w' w1) : Turned2 b g w w1 :=
  ⟨t.os.trans h.os, t.tape.trans h.tape, t.output.trans h.output, Nat.le_trans h.size t.size, fun k hk h1 h2 => (t.block k (Nat.lt_of_lt_of_le hk h.size) h1).trans (h.block k hk h1 h2)⟩
theorem Turned2.snd (h : Turned2 b g w w') (t : Turned g w' w1) : Turned2 b g w w1 :=
  ⟨t.os.trans h.os, t.tape.trans h.tape, t.output.trans h.output, Nat.le_trans h.size t.size, fun k hk h1 h2 => (t.block k (Nat.lt_of_lt_of_le hk h.size) h2).trans (h.block k hk h1 h2)⟩
theorem Turned2.below {n : Nat} (h : Turned2 b g w w') (hb : n ≤ b) (hg : n ≤ g) (hn : n ≤ w.heap.size) : Below n w w' :=
  ⟨h.os, h.tape, h.output, h.size, fun k hk => h.block k (by omega) (by omega) (by omega)⟩
theorem Turned2.grown {base e n : Nat} {v : Value} {xs : List Value} (h : Turned2 b g w w') (ho : w'.ownsRow base e 1 v n xs) (hb : w.heap.size ≤ base) (hg : w'.grownBy w1 v.ownBlock) : Turned2 b g w w1 :=
  ⟨hg.os.trans h.os, hg.tape.trans h.tape, hg.output.trans h.output, Nat.le_trans h.size hg.size, fun k hk h1 h2 => (hg.block k (Nat.lt_of_lt_of_le hk h.size) (fun e => by
    have := (ho.lt k e.symm).1
    omega)).trans (h.block k hk h1 h2)⟩
theorem rd_turn2 {x n : Nat} {k : Nat → Value} {A : Option Addr} (hb : Rd b w k A n) (hg : Rd g w k A n) (hx : Rd x w k A n) (t : Turned2 b g w w') : Rd x w' k A n := fun hn => by
  obtain ⟨ad, rfl, h1, h2, h3⟩ := hb hn
  obtain ⟨ad', e', h4, _⟩ := hg hn
  injection e' with e'
  subst e'
  obtain ⟨ad', e', h5, _⟩ := hx hn
  injection e' with e'
  subst e'
  exact ⟨_, rfl, h5, Nat.lt_of_lt_of_le h2 t.size, fun j hj => (World.cell?_of_block (by rw [block_of_add]; exact t.block _ h2 h1 h4)).trans (h3 j hj)⟩
end

/-- rows of S bytes that are appended to, i of them, while the field at b and the box at g turn -/
structure CoS (p b wd g : Nat) (w0 : World) (F : Nat → Nat → Nat) (S i : Nat) (v : Value) (wr : World) : Prop where
  fld : Fld p b wd wr
  same : Turned2 b g w0 wr
  list : ∃ (Bs : Nat → Option Addr) (Ds : Nat → Nat), wr.ownsRow w0.heap.size TBs 1 v i ((List.range i).map (slis Bs (fun _ => S) Ds)) ∧ ∀ r, r < i → S ≤ Ds r ∧ ∀ x, (x < w0.heap.size ∨ v.ownBlock = some x) → Rd x wr (u8s (F r)) (Bs r) S
section
variable {p b wd g S i : Nat} {w0 wr w1 : World} {F : Nat → Nat → Nat} {v : Value}
/-- what the field's methods turn -/
theorem CoS.turn (h : CoS p b wd g w0 F S i v wr) (hb : b < w0.heap.size) (hf : Fld p b wd w1) (t : Turned b wr w1) : CoS p b wd g w0 F S i v w1 := by
  obtain ⟨h1, h2, Bs, Ds, h3, h4⟩ := h
  exact ⟨hf, h2.fst t, Bs, Ds, own_turned h3 hb t, fun r hr => ⟨(h4 r hr).1, fun x hx => rd_turn ((h4 r hr).2 b (Or.inl hb)) ((h4 r hr).2 x hx) t⟩⟩
/-- what the box's own call turns -/
theorem CoS.box (h : CoS p b wd g w0 F S i v wr) (hg : g < w0.heap.size) (hf : Fld p b wd w1) (t : Turned g wr w1) : CoS p b wd g w0 F S i v w1 := by
  obtain ⟨h1, h2, Bs, Ds, h3, h4⟩ := h
  exact ⟨hf, h2.snd t, Bs, Ds, own_turned h3 hg t, fun r hr => ⟨(h4 r hr).1, fun x hx => rd_turn ((h4 r hr).2 g (Or.inl hg)) ((h4 r hr).2 x hx) t⟩⟩
theorem CoS.below (h : CoS p b wd g w0 F S i v wr) (hb : Below wr.heap.size wr w1) : CoS p b wd g w0 F S i v w1 := by
  obtain ⟨h1, h2, Bs, Ds, h3, h4⟩ := h
  exact ⟨h1.of_below hb, h2.fst (Turned.of_below hb), Bs, Ds, own_below' h3 hb, fun r hr => ⟨(h4 r hr).1, fun x hx => ((h4 r hr).2 x hx).below hb⟩⟩
/-- a list that is laid empty, with room -/
theorem CoS.start {cur : Array Value} {cap : Nat} (h : Fld p b wd w0) (F : Nat → Nat → Nat) (S : Nat) (hm : cap ≤ maxLen) (hs : cur.size = cap) : CoS p b wd g w0 F S 0 (.slice (some ⟨w0.heap.size, 0, none⟩) 0 cap) (w0.alloc (.cells cur TBs)) :=
  ⟨h.of_below (below_alloc _ _), (Turned2.refl _ _ _).fst (Turned.of_below (below_alloc _ _)), fun _ => none, fun _ => 0, World.ownsRow_made w0 cur cap (Nat.le_refl _) hm (by rw [Nat.mul_one, hs]), fun r hr => absurd hr (by omega)⟩
/-- one more row -/
theorem CoS.step {o : Obj} {Bs : Nat → Option Addr} {Ds : Nat → Nat} {A' : Option Addr} {c' g' cap : Nat} (hf : Fld p b wd wr) (h1 : Turned2 b g w0 wr) (h0 : 0 < w0.heap.size) (h2 : wr.ownsRow w0.heap.size TBs 1 v i ((List.range i).map (slis Bs (fun _ => S) Ds)))
    (h3 : ∀ r, r < i → S ≤ Ds r ∧ ∀ x, (x < w0.heap.size ∨ v.ownBlock = some x) → Rd x wr (u8s (F r)) (Bs r) S) (hr : S ≤ c' ∧ ∀ x, (x < w0.heap.size ∨ v.ownBlock = some x) → Rd x wr (u8s (F i)) A' S)
    (hown : w1.ownsRow w0.heap.size TBs 1 (.slice (some ⟨g', 0, none⟩) (i + 1) cap) (i + 1) ((List.range i).map (slis Bs (fun _ => S) Ds) ++ [.slice A' S c'])) (hgr : (wr.alloc o).grownBy w1 v.ownBlock) (hg : v.ownBlock = some g' ∨ g' = wr.heap.size + 1) (hTF : TBs ≠ TF) (hT16 : TBs ≠ T16) :
    CoS p b wd g w0 F S (i + 1) (.slice (some ⟨g', 0, none⟩) (i + 1) cap) w1 := by
  have hg : v.ownBlock = some g' ∨ g' = (wr.alloc o).heap.size := by rw [World.size_alloc]; exact hg
  refine ⟨(hf.of_below (below_alloc wr o)).grown (h2.alloc o) hTF hT16 hgr, (h1.fst (Turned.of_below (below_alloc wr o))).grown (h2.alloc o) (Nat.le_refl _) hgr, fun r => if r = i then A' else Bs r, fun r => if r = i then c' else Ds r, ?_, fun r hr' => ?_⟩
  · rw [range_snoc]
    have e1 : (List.range i).map (slis (fun r => if r = i then A' else Bs r) (fun _ => S) (fun r => if r = i then c' else Ds r)) = (List.range i).map (slis Bs (fun _ => S) Ds) := range_congr (fun j hj => by
      simp only [slis]
      rw [if_neg (by omega), if_neg (by omega)])
    rw [e1]
    simp only [slis, if_pos]
    exact hown
  · have hall : ∀ k A, (∀ x, (x < w0.heap.size ∨ v.ownBlock = some x) → Rd x wr k A S) → ∀ x, (x < w0.heap.size ∨ some g' = some x) → Rd x w1 k A S := fun k A hR x hx => by
      refine rd_grow (S := fun x => x < w0.heap.size ∨ v.ownBlock = some x) (S' := fun x => x < w0.heap.size ∨ some g' = some x) (b := 0) (fun x hx => (hR x hx).below (below_alloc wr o)) (Or.inl h0) hgr (fun x e => Or.inr e) (fun x hx => ?_) x hx
      rcases hx with hx | hx
      · exact Or.inl (Or.inl hx)
      · injection hx with hx
        subst hx
        rcases hg with hg | hg
        · exact Or.inl (Or.inr hg)
        · exact Or.inr (by omega)
    by_cases e : r = i
    · subst e
      dsimp only
      rw [if_pos rfl, if_pos rfl]
      exact ⟨hr.1, hall _ _ hr.2⟩
    · dsimp only
      rw [if_neg e, if_neg e]
      exact ⟨(h3 r (by omega)).1, hall _ _ (h3 r (by omega)).2⟩
/-- the rows are told, apart from all that lay there -/
theorem CoS.told {w : World} (h : CoS p b wd g w0 F S i v wr) (h0 : 0 < w0.heap.size) (hw : w.heap.size ≤ w0.heap.size) (hB : Below w.heap.size w wr) : RowsTold i F (fun _ => S) w v wr := by
  obtain ⟨_, _, Bs, Ds, h2, h3⟩ := h
  obtain ⟨A, c, e, hc, _⟩ := Rd.of_own h2 h0
  refine ⟨A, c, e, hc, fun x hx => ⟨Bs, Ds, ?_, fun r hr => (h3 r hr).2 x (Or.inl (by omega))⟩, hB⟩
  obtain ⟨A2, c2, e2, _, h5⟩ := Rd.of_own h2 (show x < w0.heap.size by omega)
  rw [e] at e2
  injection e2 with e2
  subst e2
  exact h5
/-- they have room for all their bytes -/
theorem CoS.caps {A : Option Addr} {c : Nat} (h : CoS p b wd g w0 F S i (.slice A i c) wr) (h0 : 0 < w0.heap.size) : Caps wr A i := by
  obtain ⟨_, _, Bs, Ds, h2, h3⟩ := h
  obtain ⟨A2, c2, e, _, h5⟩ := Rd.of_own h2 h0
  injection e with e
  subst e
  exact Caps.of_rd h5 (fun r hr => (h3 r hr).1)
end
end Go.Proofs.YtgdgimknnjbieaaGreatDoor

namespace Go.Proofs.YtgdgimknnjbieaaGreatDoor
open Go.RowKit

set_option maxRecDepth 100000 in
/-- behind the last row -/
theorem next_no (g : Nat) (A : Option Addr) (c : Nat) (w : World) (hg : w.rowIs g TM 1 (fun _ => .slice A 0 c)) :
    Calls Tryz.prog 117 #[.pointer (some ⟨g, 0, none⟩)] w fun e w' => e = .returned (.tuple #[nilS, .bool false]) ∧ w = w' := by
  have c0 := hg.cell (i := 0) (by omega)
  clear hg
  go_enter Tryz.func117, Tryz.ntmps117
  go_wp2_with fail
  go_ret2
  exact ⟨rfl, rfl⟩

set_option maxRecDepth 100000 in
/-- a row, and the box holds the others -/
theorem next_yes (x g : Nat) (A : Option Addr) (n c : Nat) (As : Nat → Option Addr) (Ls Cs : Nat → Nat) (w : World) (hg : w.rowIs g TM 1 (fun _ => .slice A (n + 1) c)) (hr : Rd x w (slis As Ls Cs) A (n + 1)) :
    Calls Tryz.prog 117 #[.pointer (some ⟨g, 0, none⟩)] w fun e w' => e = .returned (.tuple #[.slice (As 0) (Ls 0) (Cs 0), .bool true]) ∧ w.setCell ⟨g, 0, none⟩ (.slice (if c = 1 then A else A.map (·.add 1)) n (c - 1)) = w' := by
  have c0 := hg.cell (i := 0) (by omega)
  have f0 := hg.frozen 0
  obtain ⟨ad, rfl, c1⟩ := hr.at_ (show 0 < n + 1 by omega)
  rw [show ad.add 0 = ad by simp [Addr.add]] at c1
  simp only [slis] at c1
  have hs : ∀ w : World, (Instr.slice TM (.slice (some ad) (n + 1) c) (some (.int .i64 1)) none none).run Tryz.prog w = .ok (.slice (if c = 1 then some ad else (some ad).map (·.add 1)) (n + 1 - 1) (c - 1)) w := run_fromM (some ad) (n + 1) c 1 (by omega)
  rw [Nat.add_sub_cancel] at hs
  obtain ⟨A1, hA1⟩ : ∃ A1, (if c = 1 then some ad else (some ad).map (·.add 1)) = A1 := ⟨_, rfl⟩
  rw [hA1] at hs ⊢
  have hne : (((n + 1 : Nat) : Int) == 0) = false := by simp; omega
  clear hg hr hA1
  go_enter Tryz.func117, Tryz.ntmps117
  go_wp2_with fail
  go_ret2
  exact ⟨rfl, rfl⟩

/-- what rowsOf tells -/
def RowsOfSaid (p k m : Int) (w : World) (e : Ending) (w' : World) : Prop :=
  Below w.heap.size w w' ∧ ((¬ mayX p k m ∧ e = .returned (.tuple #[.nilFunc, .int .i64 1])) ∨
    (mayX p k m ∧ ∃ g A c As Cs, e = .returned (.tuple #[.func (.func 117) #[] #[.pointer (some ⟨g, 0, none⟩)], .int .i64 0]) ∧ w.heap.size ≤ g ∧ m.toNat ≤ c ∧ w'.rowIs g TM 1 (fun _ => .slice A m.toNat c) ∧
      ∀ x, (x = g ∨ w'.heap.size ≤ x) → Rd x w' (slis As (fun _ => k.toNat) Cs) A m.toNat ∧ ∀ r, r < m.toNat → Rd x w' (i64s (ivs (rowsE p k.toNat m.toNat) r)) (As r) k.toNat))

set_option maxRecDepth 100000 in
theorem rows20 (p k m : Int) (w : World) (hT : Tab w) : Calls Tryz.prog 73 #[.agg (parA p k m)] w (RowsOfSaid p k m w) := by
  have hmf : ∀ (fn : Fn) (first cap : Array Value) (w : World), (Instr.makeFunc fn first cap).run Tryz.prog w = .ok (.func fn first cap) w := fun _ _ _ _ => rfl
  obtain ⟨v, hv⟩ : ∃ v, w.alloc (.cells #[.int .i64 p, .int .i64 k, .int .i64 m] TPa) = v := ⟨_, rfl⟩
  obtain ⟨_, e0, hbv⟩ := one_box hv
  have HT := Lib.hid (hT.below hbv)
  have HV := Lib.hid hbv
  obtain ⟨d0, d1, d2⟩ := box_three e0
  clear e0 hbv hT
  go_enter Tryz.func73, Tryz.ntmps73
  go_wp2_with fail
  refine (par12 p k m _ HT.out).mono ?_
  rintro e w1 ⟨t, A, c, g0, rfl, ht, hc, hx, hg0, hb1⟩
  have H1 := Lib.hid (below_tr HV.out hb1)
  have HM := Lib.hid ht
  clear hb1 d0 d1 d2 ht
  obtain ⟨w2, hw2⟩ : ∃ w2, w1.alloc (.cells #[.slice A (cond t m.toNat 0) c] TM) = w2 := ⟨_, rfl⟩
  have hb2 : Below w1.heap.size w1 w2 := by rw [← hw2]; exact below_alloc _ _
  have H2 := Lib.hid (below_tr H1.out hb2)
  have hr2 : w2.rowIs w1.heap.size TM 1 (fun _ => .slice A (cond t m.toNat 0) c) := by
    rw [← hw2]
    exact World.rowIs_alloc w1 #[.slice A (cond t m.toNat 0) c] TM _ (fun i hi => by simp at hi; subst hi; rfl)
  cases t
  · have HE := Lib.hid (show RowsOfSaid p k m w (.returned (.tuple #[.nilFunc, .int .i64 1])) w2 from ⟨H2.out, Or.inl ⟨fun h => (by have := HM.out.2 h; cases this), rfl⟩⟩)
    rw [show errOf false = 1 from rfl]
    simp only [cond_false] at hw2 ⊢
    clear hx hr2 hb2 hc
    go_wp2_with fail
    go_ret2
    exact HE.out
  · obtain ⟨As, Cs, h1, h2⟩ := hx
    simp only [cond_true] at h1 h2 hr2 hc hw2 ⊢
    have HE := Lib.hid (show RowsOfSaid p k m w (.returned (.tuple #[.func (.func 117) #[] #[.pointer (some ⟨w1.heap.size, 0, none⟩)], .int .i64 0])) w2 from ⟨H2.out, Or.inr ⟨HM.out.1 rfl, w1.heap.size, A, c, As, Cs, rfl, H1.out.size, hc, hr2, fun x hx => by
      have hx' : w1.heap.size ≤ x := by
        rcases hx with rfl | hx
        · exact Nat.le_refl _
        · have := hb2.size; omega
      exact ⟨(h1.above hx').below hb2, fun r hr => ((h2 r hr).above hx').below hb2⟩⟩⟩)
    rw [show errOf true = 0 from rfl]
    clear h1 h2 hr2 hb2 hc
    go_wp2_with fail
    go_ret2
    exact HE.out
end Go.Proofs.YtgdgimknnjbieaaGreatDoor

namespace Go.Proofs.YtgdgimknnjbieaaGreatDoor
open Go.RowKit

theorem dot_back {p n K N : Nat} {cs : Nat → Int} {Ls : Nat → Nat} (h : DotOk p n K N cs Ls) : N = K ∧ ∀ r, r < N → Ls r = Ls 0 ∧ Ls r % n = 0 :=
  ⟨h.1.symm, fun r hr => ⟨(h.2.2 r (by have := h.1; omega)).2.2, (h.2.2 r (by have := h.1; omega)).2.1⟩⟩

/-- how many elements a slice has -/
def slLen : Value → Nat
  | .slice _ n _ => n
  | _ => 0

/-- the box behind t of M rows -/
def BoxAt (b g M K t : Nat) (As : Nat → Option Addr) (Cs : Nat → Nat) (w0 wr : World) : Prop :=
  ∃ A c, M - t ≤ c ∧ wr.rowIs g TM 1 (fun _ => .slice A (M - t) c) ∧ ∀ x, (x = b ∨ x = g) → Rd x w0 (slis (fun j => As (t + j)) (fun _ => K) (fun j => Cs (t + j))) A (M - t)
theorem BoxAt.other {b g M K t : Nat} {As : Nat → Option Addr} {Cs : Nat → Nat} {w0 wr w1 : World} (h : BoxAt b g M K t As Cs w0 wr) (e : w1.heap[g]? = wr.heap[g]?) : BoxAt b g M K t As Cs w0 w1 := by
  obtain ⟨A, c, h1, h2, h3⟩ := h
  exact ⟨A, c, h1, h2.of_block e, h3⟩
theorem BoxAt.lt {b g M K t : Nat} {As : Nat → Option Addr} {Cs : Nat → Nat} {w0 wr : World} (h : BoxAt b g M K t As Cs w0 wr) : g < wr.heap.size := by
  obtain ⟨_, _, _, h2, _⟩ := h
  exact h2.lt
theorem turned_box (g : Nat) (w : World) (v : Value) : Turned g w (w.setCell ⟨g, 0, none⟩ v) := (Turned.refl g w).setCell 0 v

/-- what the closure tells behind t rows -/
def NextSaid (b g M K t : Nat) (As : Nat → Option Addr) (Cs : Nat → Nat) (w0 w : World) (e : Ending) (w' : World) : Prop :=
  ∃ s ok, e = .returned (.tuple #[s, .bool ok]) ∧ ((t < M ∧ ok = true ∧ s = .slice (As t) K (Cs t)) ∨ (M ≤ t ∧ ok = false ∧ s = nilS)) ∧ BoxAt b g M K (t + 1) As Cs w0 w' ∧ Turned g w w' ∧ ∀ p wd, Fld p b wd w → Fld p b wd w'
theorem next_at {b g M K t : Nat} {As : Nat → Option Addr} {Cs : Nat → Nat} {w0 w : World} (h : BoxAt b g M K t As Cs w0 w) (hs : Turned2 b g w0 w) (h1 : TM ≠ TF) (h2 : TM ≠ T16) :
    Calls Tryz.prog 117 #[.pointer (some ⟨g, 0, none⟩)] w (NextSaid b g M K t As Cs w0 w) := by
  obtain ⟨A, c, hc, hb, hr⟩ := h
  by_cases ht : t < M
  · obtain ⟨n, hn⟩ : ∃ n, M - t = n + 1 := ⟨M - t - 1, by omega⟩
    rw [hn] at hc hb hr
    have hrb := hr b (Or.inl rfl)
    have hrg := hr g (Or.inr rfl)
    refine (next_yes g g A n c _ _ _ w hb (rd_turn2 hrb hrg hrg hs)).mono ?_
    rintro e w' ⟨rfl, rfl⟩
    refine ⟨_, true, rfl, Or.inl ⟨ht, rfl, rfl⟩, ⟨if c = 1 then A else A.map (·.add 1), c - 1, by omega, ?_, fun x hx => ?_⟩, turned_box _ _ _, fun p wd hf => hf.setRow hb h1 h2 _⟩
    · rw [show M - (t + 1) = n by omega]
      exact (hb.set 0 _).congr (fun i hi => by rw [if_pos (by omega)])
    · rw [show M - (t + 1) = n by omega]
      have h5 := (hr x hx).cut (i := 1) (cap := c) (by omega) hc
      rw [Nat.add_sub_cancel] at h5
      exact h5.congr (fun j _ => by simp only [slis]; rw [show t + (1 + j) = t + 1 + j by omega])
  · have h0 : M - t = 0 := by omega
    rw [h0] at hc hb hr
    refine (next_no g A c w hb).mono ?_
    rintro e w' ⟨rfl, rfl⟩
    exact ⟨_, false, rfl, Or.inr ⟨by omega, rfl, rfl⟩, ⟨A, c, by omega, by rw [show M - (t + 1) = 0 by omega]; exact hb, fun x hx => by rw [show M - (t + 1) = 0 by omega]; exact Rd.zero⟩, Turned.refl _ _, fun _ _ h => h⟩

theorem make_roomR (n : Nat) (hn : n ≤ 100) (w : World) : (Instr.makeSlice TRs (.int .i64 0) (.int .i64 (n : Int))).run Tryz.prog w = .ok (.slice (some ⟨w.heap.size, 0, none⟩) 0 n) (w.alloc (.cells (madeCells #[nilS] n) TBs)) := by
  obtain ⟨i0, hi, hz0, hz1, hz2⟩ := info_parts infoS
  have h := run_makeSlice (P := Tryz.prog) w TRs TBs i0 nilS Tryz.underlying24 hi hz0 .i64 .i64 0 (n : Int) (by omega) (by omega) (by rw [hz1]; omega) (by rw [hz2]; omega) (by omega)
  rw [hz1, Nat.mul_one, Int.toNat_natCast] at h
  exact h

/-- what Parity tells; its rows have room for all their bytes -/
def CParC (p k m : Int) (N : Nat) (Ls : Nat → Nat) (F : Nat → Nat → Nat) (w : World) (e : Ending) (w' : World) : Prop := CParSaid p k m N Ls F w e w' ∧ OutCaps e w'
theorem CParC.no {p k m : Int} {N : Nat} {Ls : Nat → Nat} {F : Nat → Nat → Nat} {w w' : World} (h : ¬ parP p k m N Ls) (hb : Below w.heap.size w w') : CParC p k m N Ls F w (.returned (.tuple #[nilS, .int .i64 1])) w' := ⟨CParSaid.no h hb, OutCaps.of (Caps.zero _ _)⟩
/-- in Parity's loop -/
def CParAt (p : Int) (K M N b g : Nat) (Ls : Nat → Nat) (F : Nat → Nat → Nat) (As : Nat → Option Addr) (Cs : Nat → Nat) (w0 : World) (s9 s10 s11 : Value) (wr : World) : Prop :=
  ∃ i : Nat, i ≤ M ∧ CoS (qP p).p b (wdP p) g w0 (parF p K M F) (Ls 0) i s9 wr ∧ slLen s9 = i ∧ BoxAt b g M K (i + 1) As Cs w0 wr ∧ (0 < i → N = K ∧ evenP p N Ls) ∧
    ((i < M ∧ s11 = .bool true ∧ s10 = .slice (As i) K (Cs i)) ∨ (M ≤ i ∧ s11 = .bool false ∧ s10 = nilS))

set_option maxRecDepth 100000 in
set_option maxHeartbeats 4000000 in
theorem par11' (x0 : Nat) (p k m : Int) (As : Nat → Option Addr) (Ls Cs : Nat → Nat) (F : Nat → Nat → Nat) (hF : ∀ r j, F r j < 256) (A : Option Addr) (N c : Nat) (hN : N ≤ 1000) (hNc : N ≤ c) (hL : ∀ r, r < N → Ls r ≤ 1000) (w : World) (hT : Tab w)
    (hr : Rd x0 w (slis As Ls Cs) A N) (hrs : ∀ r, r < N → Rd x0 w (u8s (F r)) (As r) (Ls r)) :
    Calls Tryz.prog 39 #[.agg (parA p k m), .slice A N c] w (CParC p k m N Ls F w) := by
  obtain ⟨i0, hi, hz0, hz1, hz2⟩ := info_parts infoS
  obtain ⟨v, hv⟩ : ∃ v, w.alloc (.cells #[.int .i64 p, .int .i64 k, .int .i64 m] TPa) = v := ⟨_, rfl⟩
  obtain ⟨_, e0, hbv⟩ := one_box hv
  have E0 := Lib.hid e0
  have HV := Lib.hid hbv
  have HT := Lib.hid (hT.below hbv)
  have HR := Lib.hid (fun x (hx : w.heap.size ≤ x) => hr.above hx)
  have HRS := Lib.hid (fun x (hx : w.heap.size ≤ x) r hr' => (hrs r hr').above hx)
  have HL := Lib.hid hL
  have HFF := Lib.hid hF
  obtain ⟨d0, d1, d2⟩ := box_three e0
  clear e0 hbv hr hrs hL hF hT
  go_enter Tryz.func39, Tryz.ntmps39
  go_wp2_with fail
  refine (rows20 p k m _ HT.out).mono ?_
  rintro e w1 ⟨hb1, hq⟩
  have H1 := Lib.hid (below_tr HV.out hb1)
  have HT1 := Lib.hid (HT.out.below hb1)
  have E1 := Lib.hid (kept_box E0.out hb1)
  clear hb1 d0 d1 d2
  obtain ⟨d0, d1, d2⟩ := box_three E1.out
  rcases hq with ⟨hno, rfl⟩ | ⟨hX, g, A1, c1, Bs, Ds, rfl, hg0, hc1, hbx, hR1⟩
  · have HE := Lib.hid (CParC.no (F := F) (p := p) (k := k) (m := m) (N := N) (Ls := Ls) (fun h => hno h.1) H1.out)
    clear hno
    go_wp2_with fail
    go_ret2
    exact HE.out
  obtain ⟨K, M, rfl, rfl, sK, sN, hs, _, _⟩ := hX.nat
  rw [Int.toNat_natCast, Int.toNat_natCast] at hR1
  rw [Int.toNat_natCast] at hc1 hbx
  have HX := Lib.hid hX
  have HG0 := Lib.hid (show v.heap.size ≤ g from hg0)
  have HB1 := Lib.hid hbx
  have HR1 := Lib.hid hR1
  have hgl := hbx.lt
  have hM1 := hX.2.2.1
  have hM4 : M ≤ 4 := by have := (max_pos hX.1).2; have := hX.2.2.2; omega
  have hK1 := hX.2.1
  clear hX hg0 hbx hR1 sK sN hs
  go_wp2_with fail
  refine (pfield_yes p HX.out.1 _ HT1.out).mono ?_
  rintro e w2 ⟨b, rfl, hf, hn, hb2⟩
  have H2 := Lib.hid (below_tr H1.out hb2)
  have E2 := Lib.hid (kept_box E1.out hb2)
  have HF2 := Lib.hid hf
  have hbl := hf.lt
  have hwv := HV.out.size
  have hv1 := H1.out.size
  have hwg : w.heap.size ≤ g := Nat.le_trans hwv HG0.out
  have hwb : w.heap.size ≤ b := by omega
  have hgw : g < w2.heap.size := Nat.lt_of_lt_of_le hgl hb2.size
  have hbg : b ≠ g := by omega
  have hbw2 : b < w2.heap.size := hbl
  have HQ1 := Lib.hid (show ∀ x, (x = b ∨ x = g) → Rd x w2 (slis Bs (fun _ => K) Ds) A1 M ∧ ∀ r, r < M → Rd x w2 (i64s (ivs (rowsE p K M) r)) (Bs r) K from fun x hx => by
    have h5 := HR1.out x (by rcases hx with rfl | rfl; exact Or.inr hn; exact Or.inl rfl)
    exact ⟨h5.1.below hb2, fun r hr => (h5.2 r hr).below hb2⟩)
  have HD := Lib.hid (show ∀ x, (x = b ∨ x = g) → Rd x w2 (slis As Ls Cs) A N ∧ ∀ r, r < N → Rd x w2 (u8s (F r)) (As r) (Ls r) from fun x hx => by
    have h5 : w.heap.size ≤ x := by rcases hx with rfl | rfl <;> omega
    exact ⟨(HR.out x h5).below H2.out, fun r hr => (HRS.out x h5 r hr).below H2.out⟩)
  have HBX := Lib.hid (HB1.out.of_block (hb2.block _ hgl))
  have hmk := make_roomR M (by omega)
  clear hb2 d0 d1 d2 hf hn HB1 HR1 HT1 HR HRS E1 H1 HG0 hgl hwv hv1
  obtain ⟨d0, d1, d2⟩ := box_three E2.out
  obtain ⟨w3, hw3⟩ : ∃ w3, w2.alloc (.cells (madeCells #[nilS] M) TBs) = w3 := ⟨_, rfl⟩
  have hb3 : Below w2.heap.size w2 w3 := by rw [← hw3]; exact below_alloc _ _
  have HC3 := Lib.hid (show CoS (qP p).p b (wdP p) g w2 (parF p K M F) (Ls 0) 0 (.slice (some ⟨w2.heap.size, 0, none⟩) 0 M) w3 from by rw [← hw3]; exact CoS.start HF2.out _ _ (by unfold maxLen; omega) (size_madeCells _ _))
  have HX3 := Lib.hid (show BoxAt b g M K 0 Bs Ds w2 w3 from ⟨A1, c1, hc1, HBX.out.of_block (hb3.block _ hgw), fun x hx => ((HQ1.out x hx).1).congr (fun j _ => by simp only [slis]; rw [Nat.zero_add])⟩)
  clear hb3 hc1
  go_wp2_with fail
  clear hw3 hmk d0 d1 d2
  refine (next_at (b := b) (t := 0) (w0 := w2) HX3.out HC3.out.same (by decide) (by decide)).mono ?_
  rintro e w4 ⟨s4, ok4, rfl, hcase, hbx4, ht4, hf4⟩
  have HC4 := Lib.hid (HC3.out.box hgw (hf4 _ _ HC3.out.fld) ht4)
  have HX4 := Lib.hid hbx4
  obtain ⟨_, rfl, rfl⟩ | ⟨h, _⟩ := hcase
  case inr => omega
  have h20 : 0 < w2.heap.size := by omega
  clear hbx4 ht4 hf4 HC3 HX3 HBX
  go_wp2_with fail
  go_loopw [9, 10, 11] (fun s9 s10 s11 wr => CParAt p K M N b g Ls F Bs Ds w2 s9 s10 s11 wr) (fun s9 _ _ _ => M - slLen s9)
  case atStart => exact ⟨0, Nat.zero_le _, HC4.out, rfl, HX4.out, fun h => absurd h (by omega), Or.inl ⟨by omega, rfl, rfl⟩⟩
  case round =>
    clear HC4 HX4
    obtain ⟨i, hiM, hcs, hlen, hbx, hev, hcase⟩ := hrel
    have HCS := Lib.hid hcs
    have HBX := Lib.hid hbx
    have HEV := Lib.hid hev
    have HLN := Lib.hid hlen
    have hzr := hcs.same.size
    clear hcs hbx hev hlen
    rcases hcase with ⟨hlt, rfl, rfl⟩ | ⟨hge, rfl, rfl⟩
    · have HC := Lib.hid (dot_any (qP p).p b (wdP p) (nP p) (wideP p) (fun c => ivs (rowsE p K M) i c) F HFF.out (Bs i) K N (Ds i) c hN As Ls Cs A HL.out wr HCS.out.fld
        (rd_turn2 ((HQ1.out b (Or.inl rfl)).2 i hlt) ((HQ1.out g (Or.inr rfl)).2 i hlt) ((HQ1.out b (Or.inl rfl)).2 i hlt) HCS.out.same)
        (rd_turn2 (HD.out b (Or.inl rfl)).1 (HD.out g (Or.inr rfl)).1 (HD.out b (Or.inl rfl)).1 HCS.out.same) hNc
        (fun r hr => rd_turn2 ((HD.out b (Or.inl rfl)).2 r hr) ((HD.out g (Or.inr rfl)).2 r hr) ((HD.out b (Or.inl rfl)).2 r hr) HCS.out.same))
      go_wp2_with fail
      refine HC.out.mono ?_
      rintro e w6 ⟨t, A6, c6, rfl, ht, _, hf6, ht6, hcap, hall⟩
      have HC6 := Lib.hid (HCS.out.turn hbw2 hf6 ht6)
      have HB6 := Lib.hid (HBX.out.other (ht6.block _ HBX.out.lt (fun e => hbg e.symm)))
      cases t
      · have HE := Lib.hid (CParC.no (F := F) (p := p) (k := K) (m := M) (N := N) (Ls := Ls) (w' := w6) (fun h => by
          have h2 := h.2.1
          obtain rfl : N = K := by omega
          have := ht.2 (dot_ok (by omega) h.2.2)
          cases this) (H2.out.trans (HC6.out.same.below hwb hwg H2.out.size)))
        rw [show errOf false = 1 from rfl]
        clear ht hf6 ht6 hall HC
        go_wp2_with fail
        go_ret2
        exact HE.out
      · have HOK := Lib.hid (dot_back (ht.1 rfl))
        simp only [cond_true] at hall hcap ⊢
        have HCAP := Lib.hid hcap
        clear hcap
        rw [show errOf true = 0 from rfl]
        obtain ⟨hcf, hcsm, Qs, Es, hown, hrow⟩ := HC6.out
        have HOWN := Lib.hid hown
        have HROW := Lib.hid hrow
        have HCF := Lib.hid hcf
        have HSM := Lib.hid hcsm
        have HRY := Lib.hid (show ∀ x, (x < w2.heap.size ∨ u9.ownBlock = some x) → Rd x w6 (u8s (parF p K M F i)) A6 (Ls 0) from fun x hx => by
          have e : parF p K M F i = dotB (qP p).p (nP p) (fun c => ivs (rowsE p K M) i c) F K := rfl
          rw [e]
          refine hall x ?_
          rcases hx with hx | hx
          · exact Nat.lt_of_lt_of_le hx hzr
          · obtain ⟨_, _, h5, _⟩ := HCS.out.list
            exact (h5.lt x hx).2)
        have hsz6 := hcsm.size
        clear ht hf6 ht6 hall HC hown hrow hcf hcsm HCS HBX
        go_wp2_with (at_builtin; refine wpList_append_lies _ rfl _ _ TRs rfl w2.heap.size TBs i0 nilS 1 24 Tryz.underlying24 hi hz0 hz1 hz2 rfl (by decide) _ i _ rfl (HOWN.out.alloc _) ⟨w6.heap.size, 0, none⟩ 1 1 [.slice A6 (Ls 0) c6] rfl rfl (news_one rfl) (one_slice' _ _ _) (by omega) (by unfold maxLen; omega) (by omega) (by simp; omega) _ rfl ?_)
        intro g' cap' w7 hown2 hgr2 hg2 _
        have HS := Lib.hid (CoS.step (F := parF p K M F) (S := Ls 0) HCF.out HSM.out h20 HOWN.out HROW.out ⟨HCAP.out, HRY.out⟩ hown2 hgr2 hg2 (by decide) (by decide))
        have HB7 := Lib.hid (HB6.out.other ((hgr2.block g (by simp; have := HB6.out.lt; omega) (fun e => by
          have := (HOWN.out.lt g e.symm).1
          omega)).trans ((below_alloc w6 _).block g HB6.out.lt)))
        clear hown2 hgr2 hg2
        go_wp2_with fail
        refine (next_at (b := b) (t := i + 1) (w0 := w2) HB7.out HS.out.same (by decide) (by decide)).mono ?_
        rintro e w8 ⟨s8, ok8, rfl, hcase, hbx8, ht8, hf8⟩
        have HC8 := Lib.hid (HS.out.box hgw (hf8 _ _ HS.out.fld) ht8)
        have HX8 := Lib.hid hbx8
        have HCA := Lib.hid hcase
        have HEE := Lib.hid (show CParAt p K M N b g Ls F Bs Ds w2 (.slice (some ⟨g', 0, none⟩) (i + 1) cap') s8 (.bool ok8) w8 from ⟨i + 1, hlt, HC8.out, rfl, HX8.out, fun _ => ⟨HOK.out.1, HOK.out.2⟩, by
          rcases HCA.out with ⟨h1, rfl, rfl⟩ | ⟨h1, rfl, rfl⟩
          · exact Or.inl ⟨h1, rfl, rfl⟩
          · exact Or.inr ⟨h1, rfl, rfl⟩⟩)
        clear hcase hbx8 ht8 hf8 HC8 HX8 HCA
        go_wp2_with fail
        exact ⟨HEE.out, by rw [HLN.out]; show M - (i + 1) < M - i; omega⟩
    · obtain rfl : M = i := by omega
      have HQ := Lib.hid (fun v (h : CoS (qP p).p b (wdP p) g w2 (parF p K M F) (Ls 0) M v wr) => show CParC p K M N Ls F w (.returned (.tuple #[v, .int .i64 0])) wr from
        ⟨⟨true, v, rfl, by simp only [true_iff]; have h5 := HEV.out (by omega); exact ⟨HX.out, by rw [h5.1], h5.2⟩, by simp only [cond_true, Int.toNat_natCast]; exact h.told h20 H2.out.size (H2.out.trans (h.same.below hwb hwg H2.out.size))⟩, by
          obtain ⟨A5, c5, rfl, _, _⟩ := h.told h20 H2.out.size (H2.out.trans (h.same.below hwb hwg H2.out.size))
          exact OutCaps.of (h.caps h20)⟩)
      go_wp2_with fail
      go_ret2
      exact HQ.out _ HCS.out
theorem par11 (x0 : Nat) (p k m : Int) (As : Nat → Option Addr) (Ls Cs : Nat → Nat) (F : Nat → Nat → Nat) (hF : ∀ r j, F r j < 256) (A : Option Addr) (N c : Nat) (hN : N ≤ 1000) (hNc : N ≤ c) (hL : ∀ r, r < N → Ls r ≤ 1000) (w : World) (hT : Tab w)
    (hr : Rd x0 w (slis As Ls Cs) A N) (hrs : ∀ r, r < N → Rd x0 w (u8s (F r)) (As r) (Ls r)) :
    Calls Tryz.prog 39 #[.agg (parA p k m), .slice A N c] w (CParSaid p k m N Ls F w) := (par11' x0 p k m As Ls Cs F hF A N c hN hNc hL w hT hr hrs).mono fun _ _ h => h.1
end Go.Proofs.YtgdgimknnjbieaaGreatDoor
