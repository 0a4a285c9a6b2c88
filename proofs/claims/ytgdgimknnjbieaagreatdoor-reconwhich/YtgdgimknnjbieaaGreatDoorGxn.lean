/- Lists that are appended to beside one another. An append in a region that draws its order: what is appended may be nothing at all. Contracts of gambrelref05: scaled, added and pivot. The contract of gambrelref05's reduced. Contracts of gambrelref05: Inverse, Rank and Solve. -/
import Derived.Test.YtgdgimknnjbieaaGreatDoorGxh
import Derived.Test.YtgdgimknnjbieaaGreatDoorGxi
import Derived.Laws.AppendOwnNone
import Derived.Deep.AppendLies
import Derived.Test.YtgdgimknnjbieaaGreatDoorGxm
import Derived.Test.YtgdgimknnjbieaaGreatDoorGxk

namespace Go.Proofs.YtgdgimknnjbieaaGreatDoor
open Go.RowKit

/-- two slices of the call's own lie in unlike blocks -/
def Apart (u v : Value) : Prop := u.ownBlock = none ∨ u.ownBlock ≠ v.ownBlock
theorem Apart.symm {u v : Value} (h : Apart u v) : Apart v u := by
  unfold Apart at *
  rcases h with h | h
  · cases e : v.ownBlock
    · exact Or.inl rfl
    · exact Or.inr (by rw [h]; simp)
  · exact Or.inr (Ne.symm h)
theorem Apart.nil (v : Value) : Apart nilS v := Or.inl rfl

/-- what is appended to v leaves another list u as it was, and apart -/
theorem app_other {wr w1 : World} {o : Obj} {base e m g : Nat} {ys : List Value} {u v v' : Value} (hu : wr.ownsRow base e 1 u m ys) (hap : Apart u v) (hgr : (wr.alloc o).grownBy w1 v.ownBlock) (hg : v.ownBlock = some g ∨ g = wr.heap.size + 1) (hv' : v'.ownBlock = some g) :
    w1.ownsRow base e 1 u m ys ∧ Apart u v' := by
  refine ⟨(hu.alloc o).kept hgr hap, ?_⟩
  rcases hap with hap | hap
  · exact Or.inl hap
  · refine Or.inr ?_
    rw [hv']
    rcases hg with hg | hg
    · rw [← hg]; exact hap
    · intro h
      have := (hu.lt g h).2
      omega

/-- three lists that are appended to, behind k elements each -/
structure Tri (w : World) (X Y Z : Nat → Value) (k : Nat) (vx vy vz : Value) (wr : World) : Prop where
  below : Below w.heap.size w wr
  x : wr.ownsRow w.heap.size TI 1 vx k ((List.range k).map X)
  y : wr.ownsRow w.heap.size TI 1 vy k ((List.range k).map Y)
  z : wr.ownsRow w.heap.size TI 1 vz k ((List.range k).map Z)
  xy : Apart vx vy
  xz : Apart vx vz
  yz : Apart vy vz
theorem Tri.start (w : World) (X Y Z : Nat → Value) : Tri w X Y Z 0 nilS nilS nilS w := ⟨Below.refl _ _, World.ownsRow_nil _ _ _ _, World.ownsRow_nil _ _ _ _, World.ownsRow_nil _ _ _ _, Apart.nil _, Apart.nil _, Apart.nil _⟩
end Go.Proofs.YtgdgimknnjbieaaGreatDoor

namespace Go.Proofs.YtgdgimknnjbieaaGreatDoor
open Go.RowKit

end Go.Proofs.YtgdgimknnjbieaaGreatDoor

namespace Go.Proofs.YtgdgimknnjbieaaGreatDoor
open Go.RowKit

/-- in the loops of scaled and added -/
def ListAt (n : Nat) (l : Nat → Int) (w : World) (so si : Value) (wr : World) : Prop := ∃ k : Nat, k ≤ n ∧ si = .int .i64 k ∧ App w TI (i64s l) k so wr

set_option maxRecDepth 100000 in
set_option maxHeartbeats 2000000 in
theorem scaled52 (p b wd : Nat) (hg : Good p wd) (l : Nat → Int) (c : Int) (A : Option Addr) (n ca : Nat) (hn : n ≤ 1000) (w : World) (hr : Rd b w (i64s l) A n) :
    Calls Tryz.prog 115 #[.int .i64 wd, .int .u32 p, .slice A n ca, .int .i64 c] w fun e w' => ∃ v, e = .returned v ∧ App w TI (i64s (fun j => fmul p (l j) c)) n v w' := by
  obtain ⟨j0, hj, hy0, hy1, hy2⟩ := info_parts infoI
  have HR := Lib.hid hr
  clear hr
  go_enter Tryz.func115, Tryz.ntmps115
  go_wp2_with fail
  go_loopw [9, 10] (fun s9 s10 wr => ListAt n (fun j => fmul p (l j) c) w s9 s10 wr) (fun _ s10 _ => n - (intOf s10).toNat)
  case atStart => exact ⟨0, Nat.zero_le _, rfl, App.start _ _ _⟩
  case round =>
    obtain ⟨k, hk, rfl, ha⟩ := hrel
    have HA := Lib.hid ha
    have hsz := ha.2.size
    clear ha
    by_cases hlt : k < n
    · obtain ⟨ad, rfl, hcell⟩ := (HR.out.below HA.out.2).at_ hlt
      simp only [i64s] at hcell
      have HV := Lib.hid (show i64s (fun j => fmul p (l j) c) k = .int .i64 (fmul p (l k) c) from rfl)
      obtain ⟨x, hx⟩ : ∃ x, l k = x := ⟨_, rfl⟩
      rw [hx] at hcell HV
      clear hx
      go_wp2_with fail
      refine (rmul20 p wd hg x c _).mono ?_
      rintro e w' ⟨rfl, rfl⟩
      obtain ⟨y, hy⟩ : ∃ y, fmul p x c = y := ⟨_, rfl⟩
      rw [hy] at HV ⊢
      clear hy
      go_wp2_with (at_builtin; refine wpList_append_own _ rfl _ _ TIs rfl w.heap.size TI j0 (.int .i64 0) 1 8 underI hj hy0 hy1 hy2 rfl (by decide) _ _ _ rfl (HA.out.1.alloc _) ⟨wr.heap.size, 0, none⟩ 1 1 [i64s (fun j => fmul p (l j) c) k] rfl rfl (news_one HV.out.symm) (one_i64 _) (by unfold maxLen; omega) (by omega) (by simp; omega) ?_)
      intro v' w1 hown' hgrow _
      have HS := Lib.hid (HA.out.step hown' hgrow)
      clear hown' hgrow
      go_wp2_with fail
      exact ⟨⟨k + 1, hlt, by go_num, HS.out⟩, by simp [intOf]; omega⟩
    · obtain rfl : k = n := by omega
      go_wp2_with fail
      go_ret
      exact ⟨_, rfl, HA.out⟩

set_option maxRecDepth 100000 in
set_option maxHeartbeats 2000000 in
theorem added53 {q : FP} (b wd : Nat) (hg : Good q.p wd) (x y : Nat → El q) (A B : Option Addr) (n ca cb : Nat) (hn : n ≤ 1000) (w : World) (hra : Rd b w (i64s (fun j => ((x j).val : Int))) A n) (hrb : Rd b w (i64s (fun j => ((y j).val : Int))) B n) :
    Calls Tryz.prog 116 #[.slice A n ca, .slice B n cb] w fun e w' => ∃ v, e = .returned v ∧ App w TI (i64s (fun j => ((x j + y j).val : Int))) n v w' := by
  obtain ⟨j0, hj, hy0, hy1, hy2⟩ := info_parts infoI
  have HA := Lib.hid hra
  have HB := Lib.hid hrb
  clear hra hrb
  go_enter Tryz.func116, Tryz.ntmps116
  go_wp2_with fail
  go_loopw [5, 6] (fun s5 s6 wr => ListAt n (fun j => ((x j + y j).val : Int)) w s5 s6 wr) (fun _ s6 _ => n - (intOf s6).toNat)
  case atStart => exact ⟨0, Nat.zero_le _, rfl, App.start _ _ _⟩
  case round =>
    obtain ⟨k, hk, rfl, happ⟩ := hrel
    have HAP := Lib.hid happ
    have hsz := happ.2.size
    clear happ
    by_cases hlt : k < n
    · obtain ⟨ad, rfl, hc1⟩ := (HA.out.below HAP.out.2).at_ hlt
      obtain ⟨ad', rfl, hc2⟩ := (HB.out.below HAP.out.2).at_ hlt
      simp only [i64s] at hc1 hc2
      have HV := Lib.hid (show i64s (fun j => ((x j + y j).val : Int)) k = .int .i64 (((x k).val ^^^ (y k).val : Nat) : Int) from rfl)
      have KEEP := Lib.hid (show ∀ w', Below w.heap.size w w' → w'.cell? (ad.add k) = some (.int .i64 ((x k).val : Nat)) ∧ w'.cell? (ad'.add k) = some (.int .i64 ((y k).val : Nat)) from fun w' hb' => by
        obtain ⟨a1, e1, h1⟩ := (HA.out.below hb').at_ hlt
        obtain ⟨a2, e2, h2⟩ := (HB.out.below hb').at_ hlt
        injection e1 with e1
        injection e2 with e2
        subst e1 e2
        exact ⟨h1, h2⟩)
      have HX := Lib.hid (show bits .xor .i64 (((x k).val : Nat) : Int) (((y k).val : Nat) : Int) = (((x k).val ^^^ (y k).val : Nat) : Int) from i64_xor_el hg (x k) (y k))
      obtain ⟨u, hu⟩ : ∃ u : Nat, (x k).val = u := ⟨_, rfl⟩
      obtain ⟨v, hv⟩ : ∃ v : Nat, (y k).val = v := ⟨_, rfl⟩
      rw [hu] at hc1 HV KEEP HX
      rw [hv] at hc2 HV KEEP HX
      clear hu hv
      go_wp2_with fail
      go_region_held3 (fun w' => w'.cell? (ad.add k) = some (.int .i64 (u : Nat)) ∧ w'.cell? (ad'.add k) = some (.int .i64 (v : Nat)))
        (first | exact ⟨hc1, hc2⟩ | exact KEEP.out _ (HAP.out.2.drew.alloc hsz _) | exact KEEP.out _ (HAP.out.drew.step hownx hgx).2 | assumption)
        (first
          | (refine step_append_lies _ rfl (.tmp 13) (.tmp 23) TIs rfl w.heap.size TI j0 (.int .i64 0) 1 8 underI hj hy0 hy1 hy2 rfl (by decide) _ k _ (by simp [Act.eval]) (HAP.out.1.alloc _) ⟨wr.heap.size, 0, none⟩ 1 1 [i64s (fun j => ((x j + y j).val : Int)) k] (by simp [Act.eval]) rfl (news_one (by rw [HV.out, HX.out])) (one_i64 _) (by omega) (by unfold maxLen; omega) (by omega) (by simp; omega) _ rfl ?_; intro gx cx wx hownx hgx hatx hltx))
      have HS := Lib.hid (HAP.out.drew.step hownx hgx)
      clear hownx hgx hatx hltx
      go_wp2_with fail
      exact ⟨⟨k + 1, hlt, by go_num, HS.out⟩, by simp [intOf]; omega⟩
    · obtain rfl : k = n := by omega
      go_wp2_with fail
      go_ret
      exact ⟨_, rfl, HAP.out⟩

/-- in pivot's loop -/
def RPivAt {q : FP} (n : Nat) (X : Nat → Nat → El q) (j t : Nat) (si : Value) : Prop := ∃ i : Nat, t ≤ i ∧ i ≤ n ∧ si = .int .i64 i ∧ ∀ r, t ≤ r → r < i → X r j = 0

/-- what pivot tells -/
def RPivSaid {q : FP} (n : Nat) (X : Nat → Nat → El q) (j t : Nat) (w : World) (e : Ending) (w' : World) : Prop := e = .returned (.int .i64 (if fnd X j (n - t) t < n then (fnd X j (n - t) t : Nat) else -1)) ∧ w = w'

set_option maxRecDepth 100000 in
set_option maxHeartbeats 2000000 in
theorem pivot50 {q : FP} (b : Nat) (X : Nat → Nat → El q) (A : Option Addr) (n m ca t j : Nat) (ht : t ≤ n) (hj : j < m) (hn : n ≤ 1000) (w : World) (hr : Mx b w (ivs X) (fun _ => m) A n) :
    Calls Tryz.prog 113 #[.slice A n ca, .int .i64 t, .int .i64 j] w (RPivSaid n X j t w) := by
  obtain ⟨As, Cs, h1, h2⟩ := hr
  have HR := Lib.hid h1
  have HRS := Lib.hid h2
  clear h1 h2
  go_enter Tryz.func113, Tryz.ntmps113
  go_wp2_with fail
  go_loop [7] (fun s7 => RPivAt n X j t s7) (fun s7 => n - (intOf s7).toNat)
  case atStart => exact ⟨t, Nat.le_refl _, ht, rfl, fun r h1 h2 => absurd h2 (by omega)⟩
  case round =>
    obtain ⟨i, hti, hi, rfl, hall⟩ := hrel
    have HALL := Lib.hid hall
    clear hall
    by_cases hlt : i < n
    · obtain ⟨ad, rfl, hc1⟩ := HR.out.at_ hlt
      simp only [slis] at hc1
      obtain ⟨ad2, hA2, hc2⟩ := (HRS.out i hlt).at_ hj
      rw [hA2] at hc1
      simp only [i64s, ivs] at hc2
      have hi63 : (i : Int) < (n : Int) := by omega
      have hj63 : (j : Int) < (m : Int) := by omega
      by_cases h0 : X i j = 0
      · have HNX := Lib.hid (show ∀ r, t ≤ r → r < i + 1 → X r j = 0 from fun r h1 h2 => (Nat.lt_succ_iff_lt_or_eq.1 h2).elim (fun h => HALL.out r h1 h) (fun h => by rw [h]; exact h0))
        rw [h0, El.zero_val] at hc2
        clear h0 hA2
        go_wp2_with fail
        exact ⟨⟨i + 1, by omega, hlt, by go_num, HNX.out⟩, by simp [intOf]; omega⟩
      · have hf := fnd_is (F := X) (j := j) (n - t) t i hti (by omega) HALL.out (Or.inr h0)
        have HE := Lib.hid (show RPivSaid n X j t w (.returned (.int .i64 (i : Nat))) w from ⟨by rw [hf, if_pos hlt], rfl⟩)
        have hv0 : (X i j).val ≠ 0 := fun e => h0 (El.eq_zero.2 e)
        obtain ⟨u, hu⟩ : ∃ u : Nat, (X i j).val = u := ⟨_, rfl⟩
        rw [hu] at hv0 hc2
        have hne : (((u : Nat) : Int) != 0) = true := by simp; omega
        clear h0 hA2 hf hu
        go_wp2_with fail
        go_ret
        exact HE.out
    · obtain rfl : i = n := by omega
      have hf := fnd_is (F := X) (j := j) (i - t) t i hti (by omega) HALL.out (Or.inl (by omega))
      have HE := Lib.hid (show RPivSaid i X j t w (.returned (.int .i64 (-1))) w from ⟨by rw [hf, if_neg (by omega)], rfl⟩)
      clear hf
      go_wp2_with fail
      go_ret
      exact HE.out
end Go.Proofs.YtgdgimknnjbieaaGreatDoor

namespace Go.Proofs.YtgdgimknnjbieaaGreatDoor
open Go.RowKit

theorem rd_set {b g i : Nat} {w : World} {k : Nat → Value} {A : Option Addr} {n : Nat} {v : Value} (hg : Rd g w k A n) (hb : Rd b w k A n) : Rd b (w.setCell ⟨g, i, none⟩ v) k A n := fun hn => by
  obtain ⟨ad, rfl, h1, h2, h3⟩ := hg hn
  obtain ⟨ad', e', h4, _⟩ := hb hn
  injection e' with e'
  subst e'
  exact ⟨_, rfl, h4, by simpa [World.setCell] using h2, fun j hj => (World.cell?_of_block (by rw [block_of_add]; exact Below.heap_setCell _ _ _ _ h1)).trans (h3 j hj)⟩
theorem below_set {w wr : World} {g i : Nat} (h : Below w.heap.size w wr) (hg : w.heap.size ≤ g) (v : Value) : Below w.heap.size w (wr.setCell ⟨g, i, none⟩ v) :=
  ⟨h.os, h.tape, h.output, by simpa [World.setCell] using h.size, fun k hk => (Below.heap_setCell _ _ _ _ (by simp; omega)).trans (h.block k hk)⟩

section
variable {q : FP}
/-- rows that are changed for others, one by one: n slices at block g -/
structure ROut (K : Prop) (b n m g cap : Nat) (X : Nat → Nat → El q) (w wr : World) : Prop where
  below : Below w.heap.size w wr
  low : w.heap.size ≤ g
  out : ∃ (T : Nat → Value) (As : Nat → Option Addr) (Cs : Nat → Nat), wr.rowIs g TIs cap T ∧ (∀ r, r < n → T r = .slice (As r) m (Cs r)) ∧ ∀ r, r < n → ∀ h, (h = b ∨ h = g) → Rd h wr (i64s (ivs X r)) (As r) m ∧ (K → m ≤ Cs r)

variable {K : Prop} {b n m g cap : Nat} {X : Nat → Nat → El q} {w wr w' : World}
theorem ROut.lt (h : ROut K b n m g cap X w wr) : g < wr.heap.size := by
  obtain ⟨T, As, Cs, h1, _⟩ := h.out
  exact h1.lt
theorem ROut.next (h : ROut K b n m g cap X w wr) (hb : Below wr.heap.size wr w') : ROut K b n m g cap X w w' := by
  obtain ⟨T, As, Cs, h1, h2, h3⟩ := h.out
  exact ⟨below_tr h.below hb, h.low, T, As, Cs, h1.of_block (hb.block g h1.lt), h2, fun r hr k hk => ⟨(h3 r hr k hk).1.below hb, (h3 r hr k hk).2⟩⟩
theorem ROut.congr {X' : Nat → Nat → El q} (h : ROut K b n m g cap X w wr) (he : ∀ r, r < n → ∀ j, j < m → X r j = X' r j) : ROut K b n m g cap X' w wr := by
  obtain ⟨T, As, Cs, h1, h2, h3⟩ := h.out
  exact ⟨h.below, h.low, T, As, Cs, h1, h2, fun r hr k hk => ⟨(h3 r hr k hk).1.congr (fun j hj => by simp only [i64s, ivs]; rw [he r hr j hj]), (h3 r hr k hk).2⟩⟩
theorem ROut.cell (h : ROut K b n m g cap X w wr) (hc : n ≤ cap) {r : Nat} (hr : r < n) : ∃ A c, wr.cell? ⟨g, r, none⟩ = some (.slice A m c) ∧ wr.frozen? ⟨g, r, none⟩ = false ∧ (∀ h, (h = b ∨ h = g) → Rd h wr (i64s (ivs X r)) A m) ∧ (K → m ≤ c) := by
  obtain ⟨T, As, Cs, h1, h2, h3⟩ := h.out
  exact ⟨As r, Cs r, by rw [h1.cell (i := r) (by omega), h2 r hr], h1.frozen r, fun h hh => (h3 r hr h hh).1, (h3 r hr b (Or.inl rfl)).2⟩
theorem ROut.set (h : ROut K b n m g cap X w wr) (r : Nat) (x : Nat → El q) {A : Option Addr} {c : Nat} (hx : ∀ h, (h = b ∨ h = g) → Rd h wr (i64s (fun j => ((x j).val : Int))) A m) (hk : K → m ≤ c) :
    ROut K b n m g cap (fun r' j => if r' = r then x j else X r' j) w (wr.setCell ⟨g, r, none⟩ (.slice A m c)) := by
  obtain ⟨T, As, Cs, h1, h2, h3⟩ := h.out
  refine ⟨below_set h.below h.low _, h.low, fun i => if i = r then .slice A m c else T i, fun i => if i = r then A else As i, fun i => if i = r then c else Cs i, h1.set r _, fun i hi => ?_, fun i hi k hk' => ?_⟩
  · by_cases e : i = r
    · simp only [if_pos e]
    · simp only [if_neg e]
      exact h2 i hi
  · by_cases e : i = r
    · have e' : i64s (ivs (fun r' j => if r' = r then x j else X r' j) i) = i64s (fun j => ((x j).val : Int)) := by
        funext j
        show Value.int .i64 (((if i = r then x j else X i j).val : Nat) : Int) = _
        rw [if_pos e]
      rw [e']
      simp only [if_pos e]
      exact ⟨rd_set (hx g (Or.inr rfl)) (hx k hk'), hk⟩
    · have e' : i64s (ivs (fun r' j => if r' = r then x j else X r' j) i) = i64s (ivs X i) := by
        funext j
        show Value.int .i64 (((if i = r then x j else X i j).val : Nat) : Int) = _
        rw [if_neg e]
      rw [e']
      simp only [if_neg e]
      exact ⟨rd_set (h3 i hi g (Or.inr rfl)).1 (h3 i hi k hk').1, (h3 i hi k hk').2⟩
theorem ROut.start {v : Value} {As : Nat → Option Addr} {Cs : Nat → Nat} (ho : wr.ownsRow w.heap.size TIs 1 v n ((List.range n).map (slis As (fun _ => m) Cs))) (hn : 0 < n) (hb : Below w.heap.size w wr) (hr : ∀ r, r < n → Rd b w (i64s (ivs X r)) (As r) m) (hk0 : K → ∀ r, r < n → m ≤ Cs r) :
    ∃ g cap, v = .slice (some ⟨g, 0, none⟩) n cap ∧ n ≤ cap ∧ ROut K b n m g cap X w wr := by
  have hcells := fun g (hg : v.ownBlock = some g) => ho.cells (g := g) hg
  rcases ho.2 with ⟨rfl, hn0⟩ | ⟨g, cap, cur, rfl, hg, hh, hc, _, hs, ht⟩
  · omega
  · have hs' : cur.size = cap := by omega
    have hrow : wr.rowIs g TIs cap (fun i => (cur[i]?).getD undef) := ⟨cur, hh, hs', fun i hi => by
      show cur[i]? = some ((cur[i]?).getD undef)
      rw [Array.getElem?_eq_getElem (by omega)]
      rfl⟩
    refine ⟨g, cap, rfl, hc, hb, hg, _, As, Cs, hrow, fun r hr' => ?_, fun r hr' k hk => ?_⟩
    · have h1 := hrow.cell (i := r) (by omega)
      have h2 := hcells g rfl r (slis As (fun _ => m) Cs r) (by rw [List.getElem?_map, List.getElem?_range (by omega)]; rfl)
      have h3 : wr.cell? ⟨g, r, none⟩ = some (slis As (fun _ => m) Cs r) := by simpa [Addr.add_lit] using h2
      rw [h1] at h3
      injection h3
    · refine ⟨?_, fun h => hk0 h r hr'⟩
      rcases hk with rfl | rfl
      · exact (hr r hr').below hb
      · exact ((hr r hr').other hg).below hb
theorem ROut.rows (h : ROut K b n m g cap X w wr) (hc : n ≤ cap) (hb : b < w.heap.size) : ∃ As Cs, Rd b wr (slis As (fun _ => m) Cs) (some ⟨g, 0, none⟩) n ∧ ∀ r, r < n → Rd b wr (i64s (ivs X r)) (As r) m ∧ (K → m ≤ Cs r) := by
  obtain ⟨T, As, Cs, h1, h2, h3⟩ := h.out
  have := h.low
  exact ⟨As, Cs, (Rd.of_row (b := b) h1 (by omega) hc).congr (fun r hr => h2 r hr), fun r hr => h3 r hr b (Or.inl rfl)⟩
theorem ROut.mx (h : ROut K b n m g cap X w wr) (hc : n ≤ cap) (hb : b < w.heap.size) : Mx b wr (ivs X) (fun _ => m) (some ⟨g, 0, none⟩) n := by
  obtain ⟨As, Cs, h1, h2⟩ := h.rows hc hb
  exact ⟨As, Cs, h1, fun r hr => (h2 r hr).1⟩

/-- nothing is reduced any more when each row has a pivot -/
theorem red_stop {n c : Nat} {X : Nat → Nat → El q} (h : n ≤ (red n X c).2) : ∀ d, red n X (c + d) = red n X c
  | 0 => rfl
  | d + 1 => by
    show stp n (red n X (c + d)) (c + d) = _
    have hle : (red n X (c + d)).2 ≤ n := (rk_le n X (c + d)).1
    rw [red_stop h d] at hle ⊢
    exact stp_no hle (fun i h1 h2 => absurd h2 (by omega))
/-- the rows, of which i are cleared -/
def clrI (F : Nat → Nat → El q) (t j i r k : Nat) : El q := if r = t then (F t j).inv * F t k else if r < i then F r k + F r j * ((F t j).inv * F t k) else F r k
theorem clrI_all (F : Nat → Nat → El q) (t j : Nat) {i r : Nat} (hr : r < i) (k : Nat) : clrI F t j i r k = clr F t j r k := by
  unfold clrI clr
  rw [if_pos hr]
theorem clrI_row (F : Nat → Nat → El q) {t j i : Nat} (h : i ≠ t) (k : Nat) : clrI F t j i i k = F i k := by
  unfold clrI
  rw [if_neg h, if_neg (Nat.lt_irrefl i)]
theorem clrI_start {X1 : Nat → Nat → El q} {t P c : Nat} (r j : Nat) : (if r = t then (X1 P c).inv * X1 P j else if r = P then X1 t j else X1 r j) = clrI (fun r => X1 (sw t P r)) t c 0 r j := by
  unfold clrI
  have h1 : sw t P t = P := by unfold sw; rw [if_pos rfl]
  by_cases e : r = t
  · rw [if_pos e, if_pos e]
    dsimp only
    rw [h1]
  · rw [if_neg e, if_neg e, if_neg (Nat.not_lt_zero r)]
    dsimp only
    unfold sw
    rw [if_neg e]
    by_cases e2 : r = P
    · rw [if_pos e2, if_pos e2]
    · rw [if_neg e2, if_neg e2]
theorem clrI_skip (F : Nat → Nat → El q) {t j i : Nat} (h : i = t ∨ F i j = 0) (r k : Nat) : clrI F t j i r k = clrI F t j (i + 1) r k := by
  unfold clrI
  by_cases e : r = t
  · rw [if_pos e, if_pos e]
  · rw [if_neg e, if_neg e]
    by_cases e2 : r < i
    · rw [if_pos e2, if_pos (by omega)]
    · rw [if_neg e2]
      by_cases e3 : r = i
      · subst e3
        rcases h with h | h
        · exact absurd h e
        · rw [if_pos (by omega), h, El.zero_mul, El.add_zero]
      · rw [if_neg (by omega)]
theorem clrI_step (F : Nat → Nat → El q) {t j i : Nat} (h : i ≠ t) (r k : Nat) : (if r = i then F i k + ((F t j).inv * F t k) * F i j else clrI F t j i r k) = clrI F t j (i + 1) r k := by
  unfold clrI
  by_cases e3 : r = i
  · subst e3
    rw [if_pos rfl, if_neg h, if_pos (by omega), El.mul_comm (F r j)]
  · rw [if_neg e3]
    by_cases e : r = t
    · rw [if_pos e, if_pos e]
    · rw [if_neg e, if_neg e]
      by_cases e2 : r < i
      · rw [if_pos e2, if_pos (by omega)]
      · rw [if_neg e2, if_neg (by omega)]
end

/-- what reduced tells -/
def RRedSaid (q : FP) (K : Prop) (b n m : Nat) (X : Nat → Nat → El q) (c : Nat) (w : World) (e : Ending) (w' : World) : Prop :=
  ∃ A cp, e = .returned (.tuple #[.slice A n cp, .int .i64 ((red n X c).2 : Nat)]) ∧ n ≤ cp ∧ (∃ As Cs, Rd b w' (slis As (fun _ => m) Cs) A n ∧ ∀ r, r < n → Rd b w' (i64s (ivs (red n X c).1 r)) (As r) m ∧ (K → m ≤ Cs r)) ∧ Below w.heap.size w w'
/-- in its loops -/
def RRedAt (q : FP) (K : Prop) (b n m g cap : Nat) (X : Nat → Nat → El q) (cols : Nat) (w : World) (s11 s12 : Value) (wr : World) : Prop :=
  ∃ c : Nat, c ≤ cols ∧ s12 = .int .i64 c ∧ s11 = .int .i64 ((red n X c).2 : Nat) ∧ ROut K b n m g cap (red n X c).1 w wr
def RRedIn (q : FP) (K : Prop) (b n m g cap : Nat) (F : Nat → Nat → El q) (t j : Nat) (R : Option Addr) (w : World) (s17 : Value) (wr : World) : Prop :=
  ∃ i : Nat, i ≤ n ∧ s17 = .int .i64 i ∧ ROut K b n m g cap (clrI F t j i) w wr ∧ ∀ h, (h = b ∨ h = g) → Rd h wr (i64s (fun k => (((F t j).inv * F t k).val : Int))) R m

set_option maxRecDepth 100000 in
set_option maxHeartbeats 8000000 in
theorem reduced31 (q : FP) (b wd n m cols : Nat) (hg : Good q.p wd) (X : Nat → Nat → El q) (A : Option Addr) (ca : Nat) (hn1 : 1 ≤ n) (hn2 : n ≤ 20) (hm : m ≤ 100) (hcm : cols ≤ m) (w : World) (hbw : b < w.heap.size) (As : Nat → Option Addr) (Cs : Nat → Nat) (ra : Rd b w (slis As (fun _ => m) Cs) A n) (ra2 : ∀ r, r < n → Rd b w (i64s (ivs X r)) (As r) m) (K : Prop) (hk0 : K → ∀ r, r < n → m ≤ Cs r) :
    Calls Tryz.prog 72 #[.int .i64 wd, .int .u32 q.p, .slice A n ca, .int .i64 cols] w (RRedSaid q K b n m X cols w) := by
  obtain ⟨i0, hi, hz0, hz1, hz2⟩ := info_parts infoRow
  obtain ⟨ad, rfl, _⟩ := ra.at_ (show 0 < n by omega)
  have RA := Lib.hid (ra.below (below_alloc w (.cells #[] TIs)))
  have RA2 := Lib.hid ra2
  have HO := Lib.hid (own_fresh0 w w.heap.size TIs w.heap.size rfl (Nat.le_refl _))
  clear ra ra2
  go_enter Tryz.func72, Tryz.ntmps72
  go_wp2_with (at_builtin; refine append_rd _ rfl _ _ TRI rfl w.heap.size TIs i0 nilS 24 underRI hi hz0 hz1 hz2 rfl _ 0 _ rfl HO.out b (slis As (fun _ => m) Cs) (some ad) n ca rfl (fun h => by cases h) RA.out (one_slis _ _ _) (by unfold maxLen; omega) (by omega) (by simp) ?_)
  intro v1 w1 hown1 hgr1
  obtain ⟨g, cap, rfl, hc, hR⟩ := ROut.start (b := b) (X := X) hown1 (by omega) (below_grown (below_alloc w (.cells #[] TIs)) HO.out hgr1) RA2.out hk0
  have HR := Lib.hid (show ROut K b n m g cap (red n X 0).1 w w1 from hR)
  clear hown1 hgr1 RA RA2 HO hR
  go_wp2_with fail
  go_loopw [11, 12] (fun s11 s12 wr => RRedAt q K b n m g cap X cols w s11 s12 wr) (fun _ s12 _ => cols - (intOf s12).toNat)
  case atStart => exact ⟨0, Nat.zero_le _, rfl, rfl, HR.out⟩
  case round =>
    clear HR
    obtain ⟨c, hcc, rfl, rfl, hR⟩ := hrel
    have htle : (red n X c).2 ≤ n := (rk_le n X c).1
    obtain ⟨X1, hX1⟩ : ∃ X1, (red n X c).1 = X1 := ⟨_, rfl⟩
    obtain ⟨t, ht⟩ : ∃ t, (red n X c).2 = t := ⟨_, rfl⟩
    rw [hX1] at hR
    rw [ht] at htle ⊢
    have HS := Lib.hid (show red n X c = (X1, t) from Prod.ext hX1 ht)
    have HR := Lib.hid hR
    clear hR hX1 ht
    by_cases hlt : c < cols
    case neg =>
      obtain rfl : c = cols := by omega
      have HE := Lib.hid (show RRedSaid q K b n m X c w (.returned (.tuple #[.slice (some ⟨g, 0, none⟩) n cap, .int .i64 (t : Nat)])) wr from ⟨_, cap, by rw [HS.out], hc, by rw [HS.out]; exact HR.out.rows hc hbw, HR.out.below⟩)
      go_wp2_with fail
      go_ret2
      exact HE.out
    by_cases htn : t < n
    case neg =>
      obtain rfl : t = n := by omega
      have HE := Lib.hid (show RRedSaid q K b t m X cols w (.returned (.tuple #[.slice (some ⟨g, 0, none⟩) t cap, .int .i64 (t : Nat)])) wr from by
        have h1 := red_stop (X := X) (n := t) (c := c) (by rw [HS.out]; exact Nat.le_refl _) (cols - c)
        rw [show c + (cols - c) = cols by omega, HS.out] at h1
        exact ⟨_, cap, by rw [h1], hc, by rw [h1]; exact HR.out.rows hc hbw, HR.out.below⟩)
      have hd1 : decide (((c : Nat) : Int) < ((cols : Nat) : Int)) = true := by simp; omega
      go_wp2_with fail
      go_ret2
      exact HE.out
    have hcI : ((c : Nat) : Int) < ((cols : Nat) : Int) := by omega
    have htI : ((t : Nat) : Int) < ((n : Nat) : Int) := by omega
    go_wp2_with fail
    refine (pivot50 b X1 (some ⟨g, 0, none⟩) n m cap t c (by omega) (by omega) (by omega) wr (HR.out.mx hc hbw)).mono ?_
    rintro e w' ⟨rfl, rfl⟩
    have hred : red n X (c + 1) = stp n (X1, t) c := by
      show stp n (red n X c) c = _
      rw [HS.out]
    obtain ⟨f1, f2, f3, f4⟩ := fnd_spec X1 c (n - t) t
    unfold stp at hred
    dsimp only at hred
    obtain ⟨P, hP⟩ : ∃ P, fnd X1 c (n - t) t = P := ⟨_, rfl⟩
    rw [hP] at f1 f2 f3 f4 hred ⊢
    clear hP f3
    by_cases hPn : P < n
    case neg =>
      rw [if_neg hPn] at hred ⊢
      have HN := Lib.hid hred
      clear hred f4 f1 f2 hPn
      go_wp2_with fail
      exact ⟨⟨c + 1, hlt, by go_num, by rw [HN.out], by rw [HN.out]; exact HR.out⟩, by simp [intOf]; omega⟩
    rw [if_pos hPn] at hred ⊢
    have HN := Lib.hid hred
    have h0 : X1 P c ≠ 0 := f4 (by omega)
    obtain ⟨AP, cP, d1, _, hrP, _⟩ := HR.out.cell hc hPn
    obtain ⟨adP, rfl, d2⟩ := (hrP b (Or.inl rfl)).at_ (show c < m by omega)
    simp only [i64s, ivs] at d2
    have HRP := Lib.hid hrP
    have HI := Lib.hid (finv_el h0)
    have HCS := Lib.hid (fun r j => clrI_start (X1 := X1) (t := t) (P := P) (c := c) r j)
    obtain ⟨u, hu⟩ : ∃ u, (X1 P c).inv = u := ⟨_, rfl⟩
    rw [hu] at HI
    have HU := Lib.hid hu
    obtain ⟨x0, hx0⟩ : ∃ x0 : Nat, (X1 P c).val = x0 := ⟨_, rfl⟩
    rw [hx0] at d2 HI
    have hPI : ((P : Nat) : Int) < ((n : Nat) : Int) := by omega
    have hcmI : ((c : Nat) : Int) < ((m : Nat) : Int) := by omega
    have hgl := HR.out.lt
    have hblr : b < wr.heap.size := Nat.lt_of_lt_of_le hbw HR.out.below.size
    clear hred f4 h0 hrP hu hx0
    go_wp2_with fail
    refine (rinv19 q.p wd hg ((x0 : Nat) : Int) _).mono ?_
    rintro e w' ⟨rfl, rfl⟩
    rw [HI.out]
    go_wp2_with fail
    refine (scaled52 q.p b wd hg (ivs X1 P) ((u.val : Nat) : Int) (some adP) m cP (by omega) _ (HRP.out b (Or.inl rfl))).mono ?_
    rintro e w2 ⟨v2, rfl, happ⟩
    obtain ⟨A2, c2, rfl, hmc2, _⟩ := happ.rd hblr
    have HRW := Lib.hid (show ∀ h, (h = b ∨ h = g) → Rd h w2 (i64s (fun k => ((u * X1 P k).val : Int))) A2 m from fun h hh => by
      obtain ⟨A3, c3, e3, _, h3⟩ := happ.rd (show h < wr.heap.size by rcases hh with rfl | rfl <;> omega)
      injection e3 with e3
      subst e3
      exact h3.congr (fun j _ => by simp only [i64s, ivs]; rw [fmul_el, El.mul_comm]))
    have HR2 := Lib.hid (HR.out.next happ.2)
    clear happ HR HRP d1 d2 HI
    obtain ⟨At, ct, d3, _, hrt, hkt⟩ := HR2.out.cell hc htn
    obtain ⟨_, _, _, fz4, _⟩ := HR2.out.cell hc hPn
    have HR3 := Lib.hid (HR2.out.set P (X1 t) (c := ct) hrt hkt)
    obtain ⟨_, _, _, fz5, _⟩ := HR3.out.cell hc htn
    have HRW3 := Lib.hid (show ∀ h, (h = b ∨ h = g) → Rd h (w2.setCell ⟨g, P, none⟩ (.slice At m ct)) (i64s (fun k => ((u * X1 P k).val : Int))) A2 m from fun h hh => rd_set (HRW.out g (Or.inr rfl)) (HRW.out h hh))
    have HR4 := Lib.hid (HR3.out.set t (fun k => u * X1 P k) (c := c2) HRW3.out (fun _ => hmc2))
    have HRW4 := Lib.hid (show ∀ h, (h = b ∨ h = g) → Rd h ((w2.setCell ⟨g, P, none⟩ (.slice At m ct)).setCell ⟨g, t, none⟩ (.slice A2 m c2)) (i64s (fun k => ((u * X1 P k).val : Int))) A2 m from fun h hh => rd_set (HRW3.out g (Or.inr rfl)) (HRW3.out h hh))
    obtain ⟨F, hF⟩ : ∃ F : Nat → Nat → El q, (fun r => X1 (sw t P r)) = F := ⟨_, rfl⟩
    have hFt : ∀ k, F t k = X1 P k := fun k => by rw [← hF]; simp only [sw, if_pos]
    have HR5 := Lib.hid (HR4.out.congr (X' := clrI F t c 0) (fun r _ j _ => by rw [← hF, ← HCS.out r j, HU.out]))
    have HRW5 := Lib.hid (show ∀ h, (h = b ∨ h = g) → Rd h ((w2.setCell ⟨g, P, none⟩ (.slice At m ct)).setCell ⟨g, t, none⟩ (.slice A2 m c2)) (i64s (fun k => (((F t c).inv * F t k).val : Int))) A2 m from fun h hh => (HRW4.out h hh).congr (fun j _ => by simp only [i64s]; rw [hFt, hFt, HU.out]))
    have HNF := Lib.hid (show red n X (c + 1) = (clr F t c, t + 1) by rw [HN.out, hF])
    clear hrt hkt HR3 HR4 HRW HRW3 HRW4 HR2 HCS hF hFt HN
    go_wp2_with fail
    go_loopw [17] (fun s17 wr => RRedIn q K b n m g cap F t c A2 w s17 wr) (fun s17 _ => n - (intOf s17).toNat)
    case atStart => exact ⟨0, Nat.zero_le _, rfl, HR5.out, HRW5.out⟩
    case round =>
      clear HR5 HRW5 d3 fz4 fz5
      obtain ⟨i, hin, rfl, hR, hrw⟩ := hrel
      have HR := Lib.hid hR
      have HRW := Lib.hid hrw
      clear hR hrw
      by_cases hlt2 : i < n
      · by_cases hit : i = t
        · have HSK := Lib.hid (HR.out.congr (fun r _ j _ => clrI_skip F (Or.inl hit) r j))
          have hne : (((i : Nat) : Int) != ((t : Nat) : Int)) = false := by simp; omega
          clear hit
          go_wp2_with fail
          exact ⟨⟨i + 1, hlt2, by go_num, HSK.out, HRW.out⟩, by simp [intOf]; omega⟩
        have hne : (((i : Nat) : Int) != ((t : Nat) : Int)) = true := by simp; omega
        obtain ⟨Ai, ci, e1, fzi, hri, _⟩ := HR.out.cell hc hlt2
        obtain ⟨adi, rfl, e2⟩ := (hri b (Or.inl rfl)).at_ (show c < m by omega)
        simp only [i64s, ivs] at e2
        rw [clrI_row F hit] at e2
        have HRI := Lib.hid (show ∀ h, (h = b ∨ h = g) → Rd h wr (i64s (fun k => ((F i k).val : Int))) (some adi) m from fun h hh => (hri h hh).congr (fun j _ => by simp only [i64s, ivs]; rw [clrI_row F hit]))
        have hiI : ((i : Nat) : Int) < ((n : Nat) : Int) := by omega
        clear hri
        by_cases hz : F i c = 0
        · have HSK := Lib.hid (HR.out.congr (fun r _ j _ => clrI_skip F (Or.inr hz) r j))
          rw [hz, El.zero_val] at e2
          clear hit hz
          go_wp2_with fail
          exact ⟨⟨i + 1, hlt2, by go_num, HSK.out, HRW.out⟩, by simp [intOf]; omega⟩
        have hv0 : (F i c).val ≠ 0 := fun e => hz (El.eq_zero.2 e)
        obtain ⟨x, hx⟩ : ∃ x : Nat, (F i c).val = x := ⟨_, rfl⟩
        have HX := Lib.hid hx
        have HIT := Lib.hid hit
        rw [hx] at e2 hv0
        have hnz : (((x : Nat) : Int) != 0) = true := by simp; omega
        have hbi := lt_of_cell e2
        have hgi := lt_of_cell e1
        rw [block_of_add] at hbi
        have KEEP := Lib.hid (show ∀ w', Below wr.heap.size wr w' → w'.cell? ⟨g, i, none⟩ = some (.slice (some adi) m ci) ∧ w'.cell? (adi.add c) = some (.int .i64 (x : Nat)) ∧ w'.frozen? ⟨g, i, none⟩ = false from fun w' hb' =>
          ⟨(hb'.cell hgi).trans e1, (hb'.cell (by rw [block_of_add]; exact hbi)).trans e2, (World.frozen?_of_block (hb'.block g hgi)).trans fzi⟩)
        have hblw : b < wr.heap.size := Nat.lt_of_lt_of_le hbw HR.out.below.size
        clear hx hit hz hv0
        go_wp2_with fail
        go_region_with
          (first
            | (go_at_call 115; refine (scaled52 q.p b wd hg (fun k => (((F t c).inv * F t k).val : Int)) ((x : Nat) : Int) A2 m c2 (by omega) wr.drew (HRW.out b (Or.inl rfl)).drew).mono ?_; rintro e w5 ⟨v5, rfl, happ5⟩; obtain ⟨A5, c5, rfl, _, hr5⟩ := happ5.rd (show b < wr.drew.heap.size from hblw); have hB5 : Below wr.heap.size wr w5 := below_tr (Below.refl _ wr).drew happ5.2; obtain ⟨k1, k2, k3⟩ := KEEP.out _ hB5)
            | (go_at_call 116; refine (added53 b wd hg (F i) (fun k => ((F t c).inv * F t k) * F i c) (some adi) A5 m ci c5 (by omega) w5 ((HRI.out b (Or.inl rfl)).below hB5) (hr5.congr (fun j _ => by simp only [i64s]; rw [← HX.out, fmul_el]))).mono ?_; rintro e w6 ⟨v6, rfl, happ6⟩; obtain ⟨A6, c6, rfl, hmc6, _⟩ := happ6.rd (show b < w5.heap.size from Nat.lt_of_lt_of_le hblw hB5.size); have hB6 : Below wr.heap.size wr w6 := below_tr hB5 happ6.2; obtain ⟨k4, k5, k6⟩ := KEEP.out _ hB6))
        all_goals
          have HX6 := Lib.hid (show ∀ h, (h = b ∨ h = g) → Rd h w6 (i64s (fun k => ((F i k + ((F t c).inv * F t k) * F i c).val : Int))) A6 m from fun h hh => by
            have hs5 := hB5.size
            obtain ⟨A3, c3, e3, _, h3⟩ := happ6.rd (show h < w5.heap.size by rcases hh with rfl | rfl <;> omega)
            injection e3 with e3
            subst e3
            exact h3)
          have HR7 := Lib.hid (((HR.out.next hB6).set i (fun k => F i k + ((F t c).inv * F t k) * F i c) (c := c6) HX6.out (fun _ => hmc6)).congr (X' := clrI F t c (i + 1)) (fun r _ j _ => clrI_step F HIT.out r j))
          have HRW7 := Lib.hid (show ∀ h, (h = b ∨ h = g) → Rd h (w6.setCell ⟨g, i, none⟩ (.slice A6 m c6)) (i64s (fun k => (((F t c).inv * F t k).val : Int))) A2 m from fun h hh => rd_set ((HRW.out g (Or.inr rfl)).below hB6) ((HRW.out h hh).below hB6))
          clear happ5 happ6 hr5 hB5 hB6 KEEP HRI HX6 HR HRW hmc6 e1 e2 fzi k1 k2 k3 k4 k5 k6
          go_wp2_with fail
          exact ⟨⟨i + 1, hlt2, by go_num, HR7.out, HRW7.out⟩, by simp [intOf]; omega⟩
      · obtain rfl : i = n := by omega
        have HE := Lib.hid (HR.out.congr (X' := (red i X (c + 1)).1) (fun r hr j _ => by rw [HNF.out]; exact clrI_all F t c hr j))
        have HE2 := Lib.hid (show (red i X (c + 1)).2 = t + 1 by rw [HNF.out])
        clear HR HRW
        go_wp2_with fail
        exact ⟨⟨c + 1, hlt, by go_num, by rw [HE2.out]; go_num, HE.out⟩, by simp [intOf]; omega⟩
end Go.Proofs.YtgdgimknnjbieaaGreatDoor

namespace Go.Proofs.YtgdgimknnjbieaaGreatDoor
open Go.RowKit

theorem run_fromIs (a : Option Addr) (len cap k : Nat) (hk : k ≤ len) (w : World) : (Instr.slice TIs (.slice a len cap) (some (.int .i64 k)) none none).run Tryz.prog w = .ok (.slice (if cap = k then a else a.map (·.add k)) (len - k) (cap - k)) w := by
  have hu : Tryz.prog.underlying TIs = some (.slice (Tryz.prog.elem TIs)) := by rw [elemI]; exact Tryz.underlying53
  rw [run_slice_l w TIs a len cap hu .i64 k (by omega) (by omega), elemI, sizeI]
  simp [Result.andThen, sliced]
theorem run_atIs (a : Option Addr) (len cap k : Nat) (hk : k ≤ len) (w : World) : (Instr.sliceAt TIs (.slice a len cap) (some (.int .i64 k)) none none).run Tryz.prog w = .ok (.slice (if cap = k then a else a.map (·.add k)) (len - k) (cap - k)) w := by
  have hu : Tryz.prog.underlying TIs = some (.slice (Tryz.prog.elem TIs)) := by rw [elemI]; exact Tryz.underlying53
  rw [run_sliceAt_slice w TIs _ _ _ _ hu, run_fromIs a len cap k hk]

/-- rows that are appended, one by one, none of them longer than its room -/
def MApC (b : Nat) (w : World) (F : Nat → Nat → Int) (m : Nat) (k : Nat) (v : Value) (wr : World) : Prop :=
  Below w.heap.size w wr ∧ ∃ (As : Nat → Option Addr) (Cs : Nat → Nat), wr.ownsRow w.heap.size TIs 1 v k ((List.range k).map (slis As (fun _ => m) Cs)) ∧ ∀ r, r < k → m ≤ Cs r ∧ ∀ g, (g = b ∨ v.ownBlock = some g) → Rd g wr (i64s (F r)) (As r) m
theorem MApC.start (b : Nat) (w : World) (F : Nat → Nat → Int) (m : Nat) : MApC b w F m 0 nilS w := ⟨Below.refl _ _, fun _ => none, fun _ => 0, World.ownsRow_nil _ _ _ _, fun r hr => absurd hr (by omega)⟩
theorem MApC.below {b : Nat} {w : World} {F : Nat → Nat → Int} {m : Nat} {k : Nat} {v : Value} {wr w' : World} (h : MApC b w F m k v wr) (hb : Below wr.heap.size wr w') : MApC b w F m k v w' := by
  obtain ⟨h1, As, Cs, h2, h3⟩ := h
  exact ⟨below_tr h1 hb, As, Cs, own_below h2 hb, fun r hr => ⟨(h3 r hr).1, fun g hg => ((h3 r hr).2 g hg).below hb⟩⟩
theorem MApC.step {b : Nat} {w : World} {F : Nat → Nat → Int} {m : Nat} {k : Nat} {v : Value} {wr w1 : World} {o : Obj} {As : Nat → Option Addr} {Cs : Nat → Nat} {A' : Option Addr} {c' g' cap : Nat} (h1 : Below w.heap.size w wr) (h2 : wr.ownsRow w.heap.size TIs 1 v k ((List.range k).map (slis As (fun _ => m) Cs)))
    (h3 : ∀ r, r < k → m ≤ Cs r ∧ ∀ g, (g = b ∨ v.ownBlock = some g) → Rd g wr (i64s (F r)) (As r) m) (hr : ∀ g, (g = b ∨ v.ownBlock = some g) → Rd g wr (i64s (F k)) A' m) (hc : m ≤ c')
    (hown : w1.ownsRow w.heap.size TIs 1 (.slice (some ⟨g', 0, none⟩) (k + 1) cap) (k + 1) ((List.range k).map (slis As (fun _ => m) Cs) ++ [.slice A' m c'])) (hgr : (wr.alloc o).grownBy w1 v.ownBlock) (hg : v.ownBlock = some g' ∨ g' = wr.heap.size + 1) :
    MApC b w F m (k + 1) (.slice (some ⟨g', 0, none⟩) (k + 1) cap) w1 := by
  have hg : v.ownBlock = some g' ∨ g' = (wr.alloc o).heap.size := by rw [World.size_alloc]; exact hg
  refine ⟨(h1.alloc h1.size o).grown hgr (by simp; have := h1.size; omega) (fun q hq => (h2.lt q hq).1), fun r => if r = k then A' else As r, fun r => if r = k then c' else Cs r, ?_, fun r hr' => ?_⟩
  · rw [range_snoc]
    have e1 : (List.range k).map (slis (fun r => if r = k then A' else As r) (fun _ => m) (fun r => if r = k then c' else Cs r)) = (List.range k).map (slis As (fun _ => m) Cs) := range_congr (fun j hj => by
      simp only [slis]
      rw [if_neg (by omega), if_neg (by omega)])
    rw [e1]
    simp only [slis, if_pos]
    exact hown
  · by_cases e : r = k
    · subst e
      dsimp only
      rw [if_pos rfl, if_pos rfl]
      exact ⟨hc, fun g hgg => rd_grown hr hgr hg g hgg⟩
    · dsimp only
      rw [if_neg e, if_neg e]
      exact ⟨(h3 r (by omega)).1, fun g hgg => rd_grown (h3 r (by omega)).2 hgr hg g hgg⟩
theorem MApC.rows {b : Nat} {w : World} {F : Nat → Nat → Int} {m : Nat} {k : Nat} {v : Value} {wr : World} (h : MApC b w F m k v wr) (hb : b < w.heap.size) : ∃ A c As Cs, v = .slice A k c ∧ k ≤ c ∧ Rd b wr (slis As (fun _ => m) Cs) A k ∧ ∀ r, r < k → m ≤ Cs r ∧ Rd b wr (i64s (F r)) (As r) m := by
  obtain ⟨h1, As, Cs, h2, h3⟩ := h
  obtain ⟨A, c, e, hc, hrd⟩ := Rd.of_own h2 hb
  exact ⟨A, c, As, Cs, e, hc, hrd, fun r hr => ⟨(h3 r hr).1, (h3 r hr).2 b (Or.inl rfl)⟩⟩

/-- what Inverse of the document tells -/
def RInvAny (q : FP) (b n : Nat) (La : Nat → Nat) (F : Nat → Nat → Int) (w : World) (e : Ending) (w' : World) : Prop :=
  ∃ s t v, e = .returned (.tuple #[v, .int .i64 (err2 s t)]) ∧ (s = true ↔ sqP (M.ord q.p) n La F) ∧ (s = true → (t = true ↔ rk n (elM q F) n = n)) ∧ MTold b (cond (s && t) n 0) (ivs (ivm n (elM q F))) (fun _ => n) w v w'
theorem RInvAny.no {q : FP} {b n : Nat} {La : Nat → Nat} {F : Nat → Nat → Int} {w w' : World} (h : ¬ sqP (M.ord q.p) n La F) (hb : Below w.heap.size w w') : RInvAny q b n La F w (.returned (.tuple #[nilS, .int .i64 1])) w' :=
  ⟨false, false, _, rfl, by simp [h], (fun h => by cases h), MTold.nil hb⟩
theorem aug_list {q : FP} (n : Nat) (X Y : Nat → Nat → El q) (i m : Nat) : (List.range n).map (i64s (ivs X i)) ++ (List.range m).map (i64s (ivs Y i)) = (List.range (n + m)).map (i64s (ivs (aug n X Y) i)) := by
  rw [← joinV_all n m]
  refine range_congr (fun j _ => ?_)
  unfold joinV
  by_cases e : j < n
  · rw [if_pos e]
    simp only [i64s, ivs, aug, if_pos e]
  · rw [if_neg e]
    simp only [i64s, ivs, aug, if_neg e]

set_option maxRecDepth 100000 in
set_option maxHeartbeats 8000000 in
theorem rinverse13 (q : FP) (b wd n : Nat) (hg : Good q.p wd) (La : Nat → Nat) (F : Nat → Nat → Int) (A : Option Addr) (cap : Nat) (w : World) (hbw : b < w.heap.size) (hr : Mx b w F La A n) :
    Calls Tryz.prog 37 #[.int .i64 wd, .int .u32 q.p, .slice A n cap] w (RInvAny q b n La F w) := by
  obtain ⟨i0, hi, hz0, hz1, hz2⟩ := info_parts infoRow
  obtain ⟨j0, hj, hy0, hy1, hy2⟩ := info_parts infoI
  have HM := Lib.hid hr
  have hkd := hg.kind
  clear hr
  go_enter Tryz.func37, Tryz.ntmps37
  go_wp2_with fail
  refine (rmay17 b wd (M.ord q.p) hkd F La A n cap _ HM.out).mono ?_
  rintro e w1 ⟨t, rfl, ht, q1, rfl⟩
  have HB1 := Lib.hid (below_drewN' w q1)
  generalize w.drewN q1 = w1 at *
  cases t
  · have HE := Lib.hid (RInvAny.no (q := q) (b := b) (n := n) (La := La) (F := F) (w := w) (w' := w1) (fun h => by have := ht.2 h.1; cases this) HB1.out)
    clear ht
    go_wp2_with fail
    go_ret2
    exact HE.out
  have hm := ht.1 rfl
  have hn1 := hm.1.1
  have hn2 := hm.1.2
  have hl2 := hm.2.1.2
  have HMM := Lib.hid hm
  obtain ⟨As, Cs, r1, r2⟩ := (HM.out.below HB1.out).rows hm
  obtain ⟨ad, rfl, c1⟩ := r1.at_ (show 0 < n by omega)
  rw [show ad.add 0 = ad by simp [Addr.add]] at c1
  simp only [slis] at c1
  have hn0 : (0 : Int) < (n : Int) := by omega
  have hbw1 : b < w1.heap.size := Nat.lt_of_lt_of_le hbw HB1.out.size
  clear ht hm
  by_cases hsq : n = La 0
  case neg =>
    have hne : (((n : Nat) : Int) != ((La 0 : Nat) : Int)) = true := by simp; omega
    have HE := Lib.hid (RInvAny.no (q := q) (b := b) (n := n) (La := La) (F := F) (w := w) (w' := w1) (fun h => hsq h.2) HB1.out)
    clear hsq r1 r2
    go_wp2_with fail
    go_ret2
    exact HE.out
  have hne : (((n : Nat) : Int) != ((La 0 : Nat) : Int)) = false := by simp; omega
  have HSQ := Lib.hid (show sqP (M.ord q.p) n La F from ⟨HMM.out, hsq⟩)
  rw [← hsq] at r1 r2
  have HR1 := Lib.hid r1
  have HR2 := Lib.hid r2
  obtain ⟨X, hX⟩ : ∃ X, elM q F = X := ⟨_, rfl⟩
  rw [hX] at HR2
  have HX := Lib.hid hX
  clear r1 r2 hsq hX HMM
  go_wp2_with fail
  refine (ridentity26 b n hn2 _ hbw1).mono ?_
  rintro e w2 ⟨v, rfl, AI, cI, rfl, _, hmI, hb2⟩
  obtain ⟨Is, Ci, i1, i2⟩ := hmI
  have HI1 := Lib.hid i1
  have HI2 := Lib.hid (show ∀ r, r < n → Rd b w2 (i64s (ivs (dl (q := q)) r)) (Is r) n from fun r hr => (i2 r hr).congr (fun j _ => by simp only [i64s]; rw [idF_el (q := q)]))
  have HB2 := Lib.hid hb2
  have HBW2 := Lib.hid (below_tr HB1.out hb2)
  have hbw2 : b < w2.heap.size := Nat.lt_of_lt_of_le hbw1 hb2.size
  clear i1 i2 hb2 c1
  go_wp2_with fail
  go_loopw [10, 11] (fun s10 s11 wr => ∃ i : Nat, i ≤ n ∧ s11 = .int .i64 i ∧ MApC b w2 (ivs (aug n X dl)) (n + n) i s10 wr) (fun _ s11 _ => n - (intOf s11).toNat)
  case atStart => exact ⟨0, Nat.zero_le _, rfl, MApC.start _ _ _ _⟩
  case round =>
    obtain ⟨i, hin, rfl, happ⟩ := hrel
    have HAPP := Lib.hid happ
    have hsz := happ.1.size
    have HBI := Lib.hid happ.1
    clear happ
    by_cases hlt : i < n
    · obtain ⟨wi, hwi⟩ : ∃ wi, wi = wr := ⟨_, rfl⟩
      subst hwi
      obtain ⟨e1, he1, d1⟩ := (HR1.out.below (below_tr HB2.out HBI.out)).at_ hlt
      injection he1 with he1
      subst he1
      obtain ⟨a1, ha1, _⟩ := (HR2.out i hlt).at_ (show 0 < n by omega)
      simp only [slis] at d1
      rw [ha1] at d1
      have HS1 := Lib.hid (show Rd b (wi.alloc (.cells #[] TI)) (i64s (ivs X i)) (some a1) n from by
        have := ((HR2.out i hlt).below (below_tr HB2.out HBI.out)).below (below_alloc wi (.cells #[] TI))
        rwa [ha1] at this)
      have HO1 := Lib.hid (own_fresh0 wi wi.heap.size TI wi.heap.size rfl (Nat.le_refl _))
      have d1' := (below_alloc wi (.cells #[] TI)).cell (lt_of_cell d1)
      rw [d1] at d1'
      have hiI : ((i : Nat) : Int) < ((n : Nat) : Int) := by omega
      go_wp2_with (at_builtin; refine append_rd _ rfl _ _ TIs rfl wi.heap.size TI j0 (.int .i64 0) 8 underI hj hy0 hy1 hy2 rfl _ 0 _ rfl HO1.out b (i64s (ivs X i)) (some a1) n (Cs i) rfl (fun h => by cases h) HS1.out (fun _ => rfl) (by unfold maxLen; omega) (by omega) (by simp) ?_)
      intro v3 w3 hown3 hgr3
      have hb3 := below_grown (below_alloc wi (.cells #[] TI)) HO1.out hgr3
      have HO3 := Lib.hid hown3
      have HB3 := Lib.hid hb3
      clear hown3 hgr3 hb3 HS1 HO1 d1 d1' ha1
      obtain ⟨e2, rfl, d2⟩ := (HI1.out.below (below_tr HBI.out HB3.out)).at_ hlt
      obtain ⟨a2, ha2, _⟩ := (HI2.out i hlt).at_ (show 0 < n by omega)
      simp only [slis] at d2
      rw [ha2] at d2
      have HS2 := Lib.hid (show Rd b w3 (i64s (ivs (dl (q := q)) i)) (some a2) n from by
        have := (HI2.out i hlt).below (below_tr HBI.out HB3.out)
        rwa [ha2] at this)
      have hs3 := HB3.out.size
      go_wp2_with (at_builtin; refine append_rd _ rfl _ _ TIs rfl wi.heap.size TI j0 (.int .i64 0) 8 underI hj hy0 hy1 hy2 rfl _ n _ rfl HO3.out b (i64s (ivs (dl (q := q)) i)) (some a2) n (Ci i) rfl (fun h => by cases h) HS2.out (fun _ => rfl) (by unfold maxLen; omega) (by omega) hs3 ?_)
      intro v4 w4 hown4 hgr4
      rw [aug_list] at hown4
      have hA4 : App wi TI (i64s (ivs (aug n X dl) i)) (n + n) v4 w4 := ⟨hown4, below_grown HB3.out HO3.out hgr4⟩
      obtain ⟨A', c', rfl, hc', _⟩ := hA4.rd (show b < wi.heap.size by omega)
      obtain ⟨hb0, As0, Cs0, hown0, hrow0⟩ := HAPP.out.below hA4.2
      have hlo := HAPP.out.2
      have HRY := Lib.hid (show ∀ g, (g = b ∨ u10.ownBlock = some g) → Rd g w4 (i64s (ivs (aug n X dl) i)) A' (n + n) from fun g hgg => by
        have hgl : g < wi.heap.size := by
          rcases hgg with rfl | hgg
          · omega
          · obtain ⟨_, _, ho, _⟩ := hlo
            exact (ho.lt g hgg).2
        obtain ⟨A5, c5, e5, _, h5⟩ := hA4.rd hgl
        injection e5 with e5
        subst e5
        exact h5)
      have hs4 := hA4.2.size
      have HB0 := Lib.hid hb0
      have HOWN := Lib.hid hown0
      have HROW := Lib.hid hrow0
      clear hb0 hown0 hrow0 hlo hown4 hgr4 hA4 HS2 HO3 HB3 d2 ha2
      go_wp2_with (at_builtin; refine wpList_append_lies _ rfl _ _ TRI rfl w2.heap.size TIs i0 nilS 1 24 underRI hi hz0 hz1 hz2 rfl (by decide) _ i _ rfl (HOWN.out.alloc _) ⟨w4.heap.size, 0, none⟩ 1 1 [.slice A' (n + n) c'] rfl rfl (news_one rfl) (one_slice _ _ _) (by omega) (by unfold maxLen; omega) (by omega) (by simp; omega) _ rfl ?_)
      intro g' cap' w5 hown5 hgr5 hg5 _
      have HS := Lib.hid (MApC.step (F := ivs (aug n X dl)) HB0.out HOWN.out HROW.out HRY.out hc' hown5 hgr5 (by simpa using hg5))
      clear hown5 hgr5 hg5
      go_wp2_with fail
      exact ⟨⟨i + 1, hlt, by go_num, HS.out⟩, by simp [intOf]; omega⟩
    · obtain rfl : i = n := by omega
      obtain ⟨AW, cW, Ws, Cw, e, _, r1, r2⟩ := HAPP.out.rows hbw2
      subst e
      have R1 := Lib.hid r1
      have R2 := Lib.hid r2
      have hbwr : b < wr.heap.size := by omega
      clear r1 r2 HAPP
      go_wp2_with fail
      refine (reduced31 q b wd i (i + i) i hg (aug i X dl) AW cW hn1 hn2 (by omega) (by omega) _ hbwr Ws Cw R1.out (fun r hr => (R2.out r hr).2) True (fun _ r hr => (R2.out r hr).1)).mono ?_
      rintro e w3 ⟨A3, c3, rfl, _, ⟨Rs, Cr, s1, s2⟩, hb3⟩
      have hrk : (red i (aug i X dl) i).2 = rk i X i := rk_aug i X dl
      have hle := (rk_le i X i).1
      rw [hrk]
      have HB3 := Lib.hid (below_tr HBW2.out (below_tr HBI.out hb3))
      have hbw3 : b < w3.heap.size := Nat.lt_of_lt_of_le hbwr hb3.size
      have S1 := Lib.hid s1
      have S2 := Lib.hid s2
      clear hrk hb3 s1 s2 R1 R2
      by_cases hfull : rk i X i < i
      · have HE := Lib.hid (show RInvAny q b i La F w (.returned (.tuple #[nilS, .int .i64 2])) w3 from ⟨true, false, _, rfl, by simp [HSQ.out], fun _ => by rw [HX.out]; simp; omega, MTold.nil HB3.out⟩)
        go_wp2_with fail
        go_ret2
        exact HE.out
      have hfl : rk i X i = i := by omega
      have HFU := Lib.hid hfl
      rw [hfl]
      clear hfl hfull hle
      go_wp2_with fail
      go_loopw [15, 16] (fun s15 s16 wr => ∃ k : Nat, k ≤ i ∧ s16 = .int .i64 k ∧ MApp b w3 (ivs (ivm i X)) (fun _ => i) k s15 wr) (fun _ s16 _ => i - (intOf s16).toNat)
      case atStart => exact ⟨0, Nat.zero_le _, rfl, MApp.start _ _ _ _⟩
      case round =>
        obtain ⟨k, hk, rfl, happ⟩ := hrel
        have HAPP := Lib.hid happ
        have hszk := happ.1.size
        clear happ
        by_cases hlt2 : k < i
        · obtain ⟨e3, rfl, d1⟩ := (S1.out.below HAPP.out.1).at_ hlt2
          simp only [slis] at d1
          obtain ⟨a3, ha3, _⟩ := (S2.out k hlt2).1.at_ (show 0 < i + i by omega)
          have hck := (S2.out k hlt2).2 trivial
          have hcut := (S2.out k hlt2).1.cut (i := i) (cap := Cr k) (by omega) hck
          rw [if_neg (by omega), ha3, show i + i - i = i by omega] at hcut
          rw [ha3] at d1
          have hsl := run_fromIs (some a3) (i + i) (Cr k) i (by omega)
          have hsl2 := run_atIs (some a3) (i + i) (Cr k) i (by omega)
          rw [if_neg (show ¬ Cr k = i by omega), show i + i - i = i by omega] at hsl hsl2
          simp only [Option.map] at hsl hsl2 hcut
          obtain ⟨hb0, As0, Cs0, hown0, hrow0⟩ := HAPP.out
          have hlo := hown0.lt
          have HRY := Lib.hid (show ∀ g, (g = b ∨ u15.ownBlock = some g) → Rd g wr (i64s (ivs (ivm i X) k)) (some (a3.add i)) i from fun g hgg => by
            rcases hgg with rfl | hgg
            · exact hcut.below hb0
            · exact (hcut.other (hlo g hgg).1).below hb0)
          have HB0 := Lib.hid hb0
          have HOWN := Lib.hid hown0
          have HROW := Lib.hid hrow0
          have hkI : ((k : Nat) : Int) < ((i : Nat) : Int) := by omega
          clear hb0 hown0 hrow0 hlo hcut ha3
          go_wp2_with (at_builtin; refine wpList_append_lies _ rfl _ _ TRI rfl w3.heap.size TIs i0 nilS 1 24 underRI hi hz0 hz1 hz2 rfl (by decide) _ k _ rfl (HOWN.out.alloc _) ⟨wr.heap.size, 0, none⟩ 1 1 [.slice (some (a3.add i)) i (Cr k - i)] rfl rfl (news_one rfl) (one_slice _ _ _) (by omega) (by unfold maxLen; omega) (by omega) (by simp; omega) _ rfl ?_)
          intro g' cap' w5 hown5 hgr5 hg5 _
          have HS := Lib.hid (MApp.step (F := ivs (ivm i X)) (Ls := fun _ => i) HB0.out HOWN.out HROW.out rfl HRY.out hown5 hgr5 (by simpa using hg5))
          clear hown5 hgr5 hg5
          go_wp2_with fail
          exact ⟨⟨k + 1, hlt2, by go_num, HS.out⟩, by simp [intOf]; omega⟩
        · obtain rfl : k = i := by omega
          have HE := Lib.hid (show ∀ v, MApp b w3 (ivs (ivm k X)) (fun _ => k) k v wr → RInvAny q b k La F w (.returned (.tuple #[v, .int .i64 0])) wr from fun v h => ⟨true, true, v, rfl, by simp [HSQ.out], fun _ => by rw [HX.out]; simp [HFU.out], by rw [HX.out]; exact (h.told hbw3).from HB3.out⟩)
          go_wp2_with fail
          go_ret2
          exact HE.out _ HAPP.out

/-- what Solve of the document tells -/
def RSolAny (q : FP) (b n : Nat) (La : Nat → Nat) (F : Nat → Nat → Int) (m : Nat) (l : Nat → Int) (w : World) (e : Ending) (w' : World) : Prop :=
  ∃ s t v, e = .returned (.tuple #[v, .int .i64 (err2 s t)]) ∧ (s = true ↔ solP (M.ord q.p) n La F m l) ∧ (s = true → (t = true ↔ rk n (elM q F) n = n)) ∧ IntsTold b (cond (s && t) n 0) (fun r => ((mm n (ivm n (elM q F)) (colM q l) r 0).val : Int)) w v w'
theorem RSolAny.no {q : FP} {b n : Nat} {La : Nat → Nat} {F : Nat → Nat → Int} {m : Nat} {l : Nat → Int} {w w' : World} (h : ¬ solP (M.ord q.p) n La F m l) (hb : Below w.heap.size w w') : RSolAny q b n La F m l w (.returned (.tuple #[nilS, .int .i64 1])) w' :=
  ⟨false, false, _, rfl, by simp [h], (fun h => by cases h), none, 0, rfl, Nat.le_refl _, Rd.zero, hb⟩
end Go.Proofs.YtgdgimknnjbieaaGreatDoor
