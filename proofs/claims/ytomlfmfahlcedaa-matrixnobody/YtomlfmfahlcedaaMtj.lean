/- Contracts of gambrelref04: the identity, rows picked and joined. -/
import Derived.Test.YtomlfmfahlcedaaMti
import Derived.Test.YtomlfmfahlcedaaMtg
import Derived.Test.YtomlfmfahlcedaaMth
namespace Go.Proofs.Ytomlfmfahlcedaa
open Go.RowKit

theorem Rd.other {b g : Nat} {w : World} {k : Nat → Value} {A : Option Addr} {n : Nat} (h : Rd b w k A n) (hg : w.heap.size ≤ g) : Rd g w k A n := fun hn => by
  obtain ⟨ad, e, h1, h2, h3⟩ := h hn
  exact ⟨ad, e, by omega, h2, h3⟩

/-- a matrix that is told, beside a field at b -/
def MTold (b n : Nat) (F : Nat → Nat → Int) (Ls : Nat → Nat) (w : World) (v : Value) (w' : World) : Prop := ∃ A c, v = .slice A n c ∧ n ≤ c ∧ Mx b w' F Ls A n ∧ Below w.heap.size w w'
theorem MatTold.at_ {b n : Nat} {F : Nat → Nat → Int} {Ls : Nat → Nat} {w : World} {v : Value} {w' : World} (h : MatTold n F Ls w v w') (hb : b < w.heap.size) : MTold b n F Ls w v w' := by
  obtain ⟨A, c, h1, h2, h3, h4⟩ := h
  exact ⟨A, c, h1, h2, h3 b hb, h4⟩
theorem MTold.nil {b : Nat} {F : Nat → Nat → Int} {Ls : Nat → Nat} {w w' : World} (h : Below w.heap.size w w') : MTold b 0 F Ls w nilS w' := ⟨none, 0, rfl, Nat.le_refl _, Mx.zero, h⟩
theorem MTold.from {b n : Nat} {F : Nat → Nat → Int} {Ls : Nat → Nat} {w w1 w' : World} {v : Value} (hb : Below w.heap.size w w1) (h : MTold b n F Ls w1 v w') : MTold b n F Ls w v w' := by
  obtain ⟨A, c, h1, h2, h3, h4⟩ := h
  exact ⟨A, c, h1, h2, h3, below_tr hb h4⟩

/-- rows that are appended, one by one -/
def MApp (b : Nat) (w : World) (F : Nat → Nat → Int) (Ls : Nat → Nat) (k : Nat) (v : Value) (wr : World) : Prop :=
  Below w.heap.size w wr ∧ ∃ (As : Nat → Option Addr) (Cs : Nat → Nat), wr.ownsRow w.heap.size TIs 1 v k ((List.range k).map (slis As Ls Cs)) ∧ ∀ r, r < k → ∀ g, (g = b ∨ v.ownBlock = some g) → Rd g wr (i64s (F r)) (As r) (Ls r)

theorem own_below {w w' : World} {base e n : Nat} {v : Value} {xs : List Value} (h : w.ownsRow base e 1 v n xs) (hb : Below w.heap.size w w') : w'.ownsRow base e 1 v n xs :=
  h.kept (row := none) ⟨hb.os, hb.tape, hb.output, hb.size, fun k hk _ => hb.block k hk⟩ (Classical.em _)

theorem MApp.start (b : Nat) (w : World) (F : Nat → Nat → Int) (Ls : Nat → Nat) : MApp b w F Ls 0 nilS w := ⟨Below.refl _ _, fun _ => none, fun _ => 0, World.ownsRow_nil _ _ _ _, fun r hr => absurd hr (by omega)⟩
theorem MApp.below {b : Nat} {w : World} {F : Nat → Nat → Int} {Ls : Nat → Nat} {k : Nat} {v : Value} {wr w' : World} (h : MApp b w F Ls k v wr) (hb : Below wr.heap.size wr w') : MApp b w F Ls k v w' := by
  obtain ⟨h1, As, Cs, h2, h3⟩ := h
  exact ⟨below_tr h1 hb, As, Cs, own_below h2 hb, fun r hr g hg => (h3 r hr g hg).below hb⟩
theorem rd_grown {b g' : Nat} {wr w1 : World} {o : Obj} {own : Option Nat} {k : Nat → Value} {A : Option Addr} {n : Nat} (hr : ∀ g, (g = b ∨ own = some g) → Rd g wr k A n) (hgr : (wr.alloc o).grownBy w1 own) (hg : own = some g' ∨ g' = (wr.alloc o).heap.size) :
    ∀ g, (g = b ∨ some g' = some g) → Rd g w1 k A n := fun g hgg hn => by
  obtain ⟨ad, rfl, h1, h2, h3⟩ := hr b (Or.inl rfl) hn
  have hno : own ≠ some ad.block := fun e => by
    obtain ⟨ad', e', h4, _⟩ := hr ad.block (Or.inr e) hn
    injection e' with e'
    subst e'
    exact h4 rfl
  have hbl : w1.heap[ad.block]? = wr.heap[ad.block]? := (hgr.block ad.block (by simp; omega) (fun e => hno e.symm)).trans (Below.heap_alloc wr o _ h2)
  refine ⟨ad, rfl, ?_, Nat.lt_of_lt_of_le h2 (Nat.le_trans (by simp) hgr.size), fun j hj => (World.cell?_of_block (by rw [block_of_add]; exact hbl)).trans (h3 j hj)⟩
  rcases hgg with rfl | hgg
  · exact h1
  · injection hgg with hgg
    subst hgg
    rcases hg with hg | hg
    · exact fun e => hno (e ▸ hg)
    · simp at hg
      omega
theorem MApp.step {b : Nat} {w : World} {F : Nat → Nat → Int} {Ls : Nat → Nat} {k : Nat} {v : Value} {wr w1 : World} {o : Obj} {As : Nat → Option Addr} {Cs : Nat → Nat} {A' : Option Addr} {n' c' g' cap : Nat} (h1 : Below w.heap.size w wr) (h2 : wr.ownsRow w.heap.size TIs 1 v k ((List.range k).map (slis As Ls Cs)))
    (h3 : ∀ r, r < k → ∀ g, (g = b ∨ v.ownBlock = some g) → Rd g wr (i64s (F r)) (As r) (Ls r)) (hn : Ls k = n') (hr : ∀ g, (g = b ∨ v.ownBlock = some g) → Rd g wr (i64s (F k)) A' n')
    (hown : w1.ownsRow w.heap.size TIs 1 (.slice (some ⟨g', 0, none⟩) (k + 1) cap) (k + 1) ((List.range k).map (slis As Ls Cs) ++ [.slice A' n' c'])) (hgr : (wr.alloc o).grownBy w1 v.ownBlock) (hg : v.ownBlock = some g' ∨ g' = wr.heap.size + 1) :
    MApp b w F Ls (k + 1) (.slice (some ⟨g', 0, none⟩) (k + 1) cap) w1 := by
  subst hn
  have hg : v.ownBlock = some g' ∨ g' = (wr.alloc o).heap.size := by rw [World.size_alloc]; exact hg
  refine ⟨(h1.alloc h1.size o).grown hgr (by simp; have := h1.size; omega) (fun q hq => (h2.lt q hq).1), fun r => if r = k then A' else As r, fun r => if r = k then c' else Cs r, ?_, fun r hr' g hgg => ?_⟩
  · rw [range_snoc]
    have e1 : (List.range k).map (slis (fun r => if r = k then A' else As r) Ls (fun r => if r = k then c' else Cs r)) = (List.range k).map (slis As Ls Cs) := range_congr (fun j hj => by
      simp only [slis]
      rw [if_neg (by omega), if_neg (by omega)])
    rw [e1]
    simp only [slis, if_pos]
    exact hown
  · by_cases e : r = k
    · subst e
      dsimp only
      rw [if_pos rfl]
      exact rd_grown hr hgr hg g hgg
    · dsimp only
      rw [if_neg e]
      exact rd_grown (h3 r (by omega)) hgr hg g hgg
theorem MApp.told {b : Nat} {w : World} {F : Nat → Nat → Int} {Ls : Nat → Nat} {k : Nat} {v : Value} {wr : World} (h : MApp b w F Ls k v wr) (hb : b < w.heap.size) : MTold b k F Ls w v wr := by
  obtain ⟨h1, As, Cs, h2, h3⟩ := h
  obtain ⟨A, c, e, hc, hrd⟩ := Rd.of_own h2 hb
  exact ⟨A, c, e, hc, ⟨As, Cs, hrd, fun r hr => h3 r hr b (Or.inl rfl)⟩, h1⟩
theorem one_slice (A : Option Addr) (n c : Nat) : ∀ u ∈ [Value.slice A n c], u.oneCell' = true := by intro u hu; simp at hu; subst hu; rfl

/-- in Pick's loop -/
def RPickAt (b n : Nat) (Ls : Nat → Nat) (F : Nat → Nat → Int) (m : Nat) (l : Nat → Int) (w : World) (s8 s9 : Value) (wr : World) : Prop :=
  ∃ k : Nat, k ≤ m ∧ s9 = .int .i64 k ∧ (∀ r, r < k → 0 ≤ l r ∧ l r < n) ∧ MApp b w (fun r => F (l r).toNat) (fun r => Ls (l r).toNat) k s8 wr
/-- what Pick of the document tells -/
def RPickAny (b c n : Nat) (Ls : Nat → Nat) (F : Nat → Nat → Int) (m : Nat) (l : Nat → Int) (w : World) (e : Ending) (w' : World) : Prop :=
  ∃ t v, e = .returned (.tuple #[v, .bool t]) ∧ (t = true ↔ pickP c n Ls F m l) ∧ MTold b (cond t m 0) (fun r => F (l r).toNat) (fun r => Ls (l r).toNat) w v w'
theorem RPickAny.no {b c n : Nat} {Ls : Nat → Nat} {F : Nat → Nat → Int} {m : Nat} {l : Nat → Int} {w w' : World} (h : ¬ pickP c n Ls F m l) (hb : Below w.heap.size w w') : RPickAny b c n Ls F m l w (.returned (.tuple #[nilS, .bool false])) w' :=
  ⟨false, _, rfl, by simp [h], MTold.nil hb⟩

set_option maxRecDepth 100000 in
set_option maxHeartbeats 2000000 in
theorem rpick13 (b wd c : Nat) (hk : Kind wd c) (F : Nat → Nat → Int) (Ls : Nat → Nat) (A B : Option Addr) (n m ca cb : Nat) (l : Nat → Int) (w : World) (hbw : b < w.heap.size) (hr : Mx b w F Ls A n) (hl : Rd b w (i64s l) B m) :
    Calls Try.prog 13 #[.int .i64 wd, .slice A n ca, .slice B m cb] w (RPickAny b c n Ls F m l w) := by
  obtain ⟨i0, hi, hz0, hz1, hz2⟩ := info_parts infoRow
  have HM := Lib.hid hr
  obtain ⟨As, Cs, hr1, hr2⟩ := hr
  have HR := Lib.hid hr1
  have HRS := Lib.hid hr2
  have HL := Lib.hid hl
  clear hr1 hr2 hl
  by_cases hm : side m
  · have hm1 := hm.1
    have hm2 := hm.2
    have hd1 : decide ((m : Int) < 1) = false := by simp; omega
    have hd2 : decide ((20 : Int) < (m : Int)) = false := by simp; omega
    have HSIDE := Lib.hid hm
    clear hm
    go_enter Try.func13, Try.ntmps13
    go_wp2_with fail
    refine (rmay17 b wd c hk F Ls A n ca _ HM.out).mono ?_
    rintro e w1 ⟨t, rfl, ht, q, rfl⟩
    have HB1 := Lib.hid (below_drewN' w q)
    generalize w.drewN q = w1 at *
    cases t
    · have HE := Lib.hid (RPickAny.no (b := b) (c := c) (n := n) (Ls := Ls) (F := F) (m := m) (l := l) (w := w) (w' := w1) (fun h => by have := ht.2 h.1; cases this) HB1.out)
      clear ht
      go_wp2_with fail
      go_ret2
      exact HE.out
    have HMAY := Lib.hid (ht.1 rfl)
    clear ht
    have hn20 : n ≤ 20 := HMAY.out.1.2
    have hbw1 : b < w1.heap.size := Nat.lt_of_lt_of_le hbw HB1.out.size
    go_wp2_with fail
    go_loopw [8, 9] (fun s8 s9 wr => RPickAt b n Ls F m l w1 s8 s9 wr) (fun _ s9 _ => m - (intOf s9).toNat)
    case atStart => exact ⟨0, Nat.zero_le _, rfl, fun r hr => absurd hr (by omega), MApp.start _ _ _ _⟩
    case round =>
      obtain ⟨k, hk', rfl, hall, happ⟩ := hrel
      have HAPP := Lib.hid happ
      have HALL := Lib.hid hall
      have HBW := Lib.hid (below_tr HB1.out happ.1)
      have hsz := happ.1.size
      clear happ hall
      by_cases hlt : k < m
      · obtain ⟨ad, rfl, hcell⟩ := (HL.out.below HBW.out).at_ hlt
        simp only [i64s] at hcell
        obtain ⟨x, hx⟩ : ∃ x, l k = x := ⟨_, rfl⟩
        rw [hx] at hcell
        have HX := Lib.hid hx
        clear hx
        by_cases hin : 0 ≤ x ∧ x < n
        · have h0 := hin.1
          have h1 := hin.2
          have hd3 : decide (x < 0) = false := by simp; omega
          have hd4 : decide ((n : Int) ≤ x) = false := by simp; omega
          obtain ⟨y, rfl⟩ : ∃ y : Nat, x = (y : Int) := ⟨x.toNat, by omega⟩
          have hyn : y < n := by omega
          obtain ⟨ad2, rfl, hc2⟩ := (HR.out.below HBW.out).at_ hyn
          simp only [slis] at hc2
          obtain ⟨hb0, As0, Cs0, hown0, hrow0⟩ := HAPP.out
          have HOWN := Lib.hid hown0
          have HROW := Lib.hid hrow0
          have hown1 := hown0.lt
          have HRY := Lib.hid (show ∀ g, (g = b ∨ u8.ownBlock = some g) → Rd g wr (i64s (F (l k).toNat)) (As y) (Ls y) from fun g hg => by
            rw [HX.out, Int.toNat_natCast]
            rcases hg with rfl | hg
            · exact (HRS.out y hyn).below HBW.out
            · exact ((HRS.out y hyn).other (Nat.le_trans HB1.out.size (hown1 g hg).1)).below HBW.out)
          have HB0 := Lib.hid hb0
          have HNX := Lib.hid (show ∀ r, r < k + 1 → 0 ≤ l r ∧ l r < n from fun r hr => (Nat.lt_succ_iff_lt_or_eq.1 hr).elim (fun h => HALL.out r h) (fun h => by rw [h, HX.out]; exact ⟨h0, h1⟩))
          have HLY := Lib.hid (show Ls (l k).toNat = Ls y by rw [HX.out, Int.toNat_natCast])
          clear hin hown0 hrow0 hb0 hown1
          go_wp2_with (at_builtin; refine wpList_append_lies _ rfl _ _ TRI rfl w1.heap.size TIs i0 nilS 1 24 underRI hi hz0 hz1 hz2 rfl (by decide) _ k _ rfl (HOWN.out.alloc _) ⟨wr.heap.size, 0, none⟩ 1 1 [.slice (As y) (Ls y) (Cs y)] rfl rfl (news_one rfl) (one_slice _ _ _) (by omega) (by unfold maxLen; omega) (by omega) (by simp; omega) _ rfl ?_)
          intro g' cap' w2 hown2 hgr2 hg2 _
          have HS := Lib.hid (MApp.step (F := fun r => F (l r).toNat) (Ls := fun r => Ls (l r).toNat) HB0.out HOWN.out HROW.out HLY.out HRY.out hown2 hgr2 hg2)
          clear hown2 hgr2 hg2
          go_wp2_with fail
          exact ⟨⟨k + 1, hlt, by go_num, HNX.out, HS.out⟩, by simp [intOf]; omega⟩
        · have HE := Lib.hid (RPickAny.no (b := b) (c := c) (n := n) (Ls := Ls) (F := F) (m := m) (l := l) (w := w) (w' := wr) (fun h => hin (by have := h.2.2 k hlt; rwa [HX.out] at this)) HBW.out)
          by_cases h0 : 0 ≤ x
          · have hd3 : decide (x < 0) = false := by simp; omega
            have hd4 : decide ((n : Int) ≤ x) = true := by simp; omega
            clear hin
            go_wp2_with fail
            go_ret2
            exact HE.out
          · have hd3 : decide (x < 0) = true := by simp; omega
            clear hin
            go_wp2_with fail
            go_ret2
            exact HE.out
      · obtain rfl : k = m := by omega
        have HE := Lib.hid (show ∀ v, MApp b w1 (fun r => F (l r).toNat) (fun r => Ls (l r).toNat) k v wr → RPickAny b c n Ls F k l w (.returned (.tuple #[v, .bool true])) wr from fun v h => ⟨true, v, rfl, by simp [pickP, HMAY.out, HSIDE.out]; exact HALL.out, (h.told hbw1).from HB1.out⟩)
        go_wp2_with fail
        go_ret2
        exact HE.out _ HAPP.out
  · have HE := Lib.hid (fun q => RPickAny.no (b := b) (c := c) (n := n) (Ls := Ls) (F := F) (m := m) (l := l) (w := w) (w' := w.drewN q) (fun h => hm h.2.1) (below_drewN' _ _))
    go_enter Try.func13, Try.ntmps13
    go_wp2_with fail
    refine (rmay17 b wd c hk F Ls A n ca _ HM.out).mono ?_
    rintro e w1 ⟨t, rfl, ht, q, rfl⟩
    clear ht
    cases t
    · go_wp2_with fail
      go_ret2
      exact HE.out _
    · by_cases h1 : 1 ≤ m
      · have hd1 : decide ((m : Int) < 1) = false := by simp; omega
        have hd2 : decide ((20 : Int) < (m : Int)) = true := by
          simp
          unfold side at hm
          omega
        clear hm
        go_wp2_with fail
        go_ret2
        exact HE.out _
      · have hd1 : decide ((m : Int) < 1) = true := by simp; omega
        clear hm
        go_wp2_with fail
        go_ret2
        exact HE.out _
end Go.Proofs.Ytomlfmfahlcedaa
