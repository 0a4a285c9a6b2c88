/- The contract of gambrelref05's reduced. -/
import Derived.Test.YtmpamgnbbomoaaaGreatIvo
namespace Go.Proofs.YtmpamgnbbomoaaaGreat
open Go.RowKit

theorem rd_set {b g i : Nat} {w : World} {k : Nat → Value} {A : Option Addr} {n : Nat} {v : Value} (hg : Rd g w k A n) (hb : Rd b w k A n) : Rd b (w.setCell ⟨g, i, none⟩ v) k A n := fun hn => by
  obtain ⟨ad, rfl, h1, h2, h3⟩ := hg hn
  obtain ⟨ad', e', h4, _⟩ := hb hn
  injection e' with e'
  subst e'
  exact ⟨_, rfl, h4, by simpa [World.setCell] using h2, fun j hj => (World.cell?_of_block (by rw [block_of_add]; exact Below.heap_setCell _ _ _ _ h1)).trans (h3 j hj)⟩
theorem below_set {w wr : World} {g i : Nat} (h : Below w.heap.size w wr) (hg : w.heap.size ≤ g) (v : Value) : Below w.heap.size w (wr.setCell ⟨g, i, none⟩ v) :=
  ⟨h.os, h.tape, h.output, by simpa [World.setCell] using h.size, fun k hk => (Below.heap_setCell _ _ _ _ (by simp; omega)).trans (h.block k hk)⟩

section
variable {q : FP}
/-- rows that are changed for others, one by one: n slices at block g -/
structure ROut (K : Prop) (b n m g cap : Nat) (X : Nat → Nat → El q) (w wr : World) : Prop where
  below : Below w.heap.size w wr
  low : w.heap.size ≤ g
  out : ∃ (T : Nat → Value) (As : Nat → Option Addr) (Cs : Nat → Nat), wr.rowIs g TIs cap T ∧ (∀ r, r < n → T r = .slice (As r) m (Cs r)) ∧ ∀ r, r < n → ∀ h, (h = b ∨ h = g) → Rd h wr (i64s (ivs X r)) (As r) m ∧ (K → m ≤ Cs r)

variable {K : Prop} {b n m g cap : Nat} {X : Nat → Nat → El q} {w wr w' : World}
theorem ROut.lt (h : ROut K b n m g cap X w wr) : g < wr.heap.size := by
  obtain ⟨T, As, Cs, h1, _⟩ := h.out
  exact h1.lt
theorem ROut.next (h : ROut K b n m g cap X w wr) (hb : Below wr.heap.size wr w') : ROut K b n m g cap X w w' := by
  obtain ⟨T, As, Cs, h1, h2, h3⟩ := h.out
  exact ⟨below_tr h.below hb, h.low, T, As, Cs, h1.of_block (hb.block g h1.lt), h2, fun r hr k hk => ⟨(h3 r hr k hk).1.below hb, (h3 r hr k hk).2⟩⟩
theorem ROut.congr {X' : Nat → Nat → El q} (h : ROut K b n m g cap X w wr) (he : ∀ r, r < n → ∀ j, j < m → X r j = X' r j) : ROut K b n m g cap X' w wr := by
  obtain ⟨T, As, Cs, h1, h2, h3⟩ := h.out
  exact ⟨h.below, h.low, T, As, Cs, h1, h2, fun r hr k hk => ⟨(h3 r hr k hk).1.congr (fun j hj => by simp only [i64s, ivs]; rw [he r hr j hj]), (h3 r hr k hk).2⟩⟩
theorem ROut.cell (h : ROut K b n m g cap X w wr) (hc : n ≤ cap) {r : Nat} (hr : r < n) : ∃ A c, wr.cell? ⟨g, r, none⟩ = some (.slice A m c) ∧ wr.frozen? ⟨g, r, none⟩ = false ∧ (∀ h, (h = b ∨ h = g) → Rd h wr (i64s (ivs X r)) A m) ∧ (K → m ≤ c) := by
  obtain ⟨T, As, Cs, h1, h2, h3⟩ := h.out
  exact ⟨As r, Cs r, by rw [h1.cell (i := r) (by omega), h2 r hr], h1.frozen r, fun h hh => (h3 r hr h hh).1, (h3 r hr b (Or.inl rfl)).2⟩
theorem ROut.set (h : ROut K b n m g cap X w wr) (r : Nat) (x : Nat → El q) {A : Option Addr} {c : Nat} (hx : ∀ h, (h = b ∨ h = g) → Rd h wr (i64s (fun j => ((x j).val : Int))) A m) (hk : K → m ≤ c) :
    ROut K b n m g cap (fun r' j => if r' = r then x j else X r' j) w (wr.setCell ⟨g, r, none⟩ (.slice A m c)) := by
  obtain ⟨T, As, Cs, h1, h2, h3⟩ := h.out
  refine ⟨below_set h.below h.low _, h.low, fun i => if i = r then .slice A m c else T i, fun i => if i = r then A else As i, fun i => if i = r then c else Cs i, h1.set r _, fun i hi => ?_, fun i hi k hk' => ?_⟩
  · by_cases e : i = r
    · simp only [if_pos e]
    · simp only [if_neg e]
      exact h2 i hi
  · by_cases e : i = r
    · have e' : i64s (ivs (fun r' j => if r' = r then x j else X r' j) i) = i64s (fun j => ((x j).val : Int)) := by
        funext j
        show Value.int .i64 (((if i = r then x j else X i j).val : Nat) : Int) = _
        rw [if_pos e]
      rw [e']
      simp only [if_pos e]
      exact ⟨rd_set (hx g (Or.inr rfl)) (hx k hk'), hk⟩
    · have e' : i64s (ivs (fun r' j => if r' = r then x j else X r' j) i) = i64s (ivs X i) := by
        funext j
        show Value.int .i64 (((if i = r then x j else X i j).val : Nat) : Int) = _
        rw [if_neg e]
      rw [e']
      simp only [if_neg e]
      exact ⟨rd_set (h3 i hi g (Or.inr rfl)).1 (h3 i hi k hk').1, (h3 i hi k hk').2⟩
theorem ROut.start {v : Value} {As : Nat → Option Addr} {Cs : Nat → Nat} (ho : wr.ownsRow w.heap.size TIs 1 v n ((List.range n).map (slis As (fun _ => m) Cs))) (hn : 0 < n) (hb : Below w.heap.size w wr) (hr : ∀ r, r < n → Rd b w (i64s (ivs X r)) (As r) m) (hk0 : K → ∀ r, r < n → m ≤ Cs r) :
    ∃ g cap, v = .slice (some ⟨g, 0, none⟩) n cap ∧ n ≤ cap ∧ ROut K b n m g cap X w wr := by
  have hcells := fun g (hg : v.ownBlock = some g) => ho.cells (g := g) hg
  rcases ho.2 with ⟨rfl, hn0⟩ | ⟨g, cap, cur, rfl, hg, hh, hc, _, hs, ht⟩
  · omega
  · have hs' : cur.size = cap := by omega
    have hrow : wr.rowIs g TIs cap (fun i => (cur[i]?).getD undef) := ⟨cur, hh, hs', fun i hi => by
      show cur[i]? = some ((cur[i]?).getD undef)
      rw [Array.getElem?_eq_getElem (by omega)]
      rfl⟩
    refine ⟨g, cap, rfl, hc, hb, hg, _, As, Cs, hrow, fun r hr' => ?_, fun r hr' k hk => ?_⟩
    · have h1 := hrow.cell (i := r) (by omega)
      have h2 := hcells g rfl r (slis As (fun _ => m) Cs r) (by rw [List.getElem?_map, List.getElem?_range (by omega)]; rfl)
      have h3 : wr.cell? ⟨g, r, none⟩ = some (slis As (fun _ => m) Cs r) := by simpa [Addr.add_lit] using h2
      rw [h1] at h3
      injection h3
    · refine ⟨?_, fun h => hk0 h r hr'⟩
      rcases hk with rfl | rfl
      · exact (hr r hr').below hb
      · exact ((hr r hr').other hg).below hb
theorem ROut.rows (h : ROut K b n m g cap X w wr) (hc : n ≤ cap) (hb : b < w.heap.size) : ∃ As Cs, Rd b wr (slis As (fun _ => m) Cs) (some ⟨g, 0, none⟩) n ∧ ∀ r, r < n → Rd b wr (i64s (ivs X r)) (As r) m ∧ (K → m ≤ Cs r) := by
  obtain ⟨T, As, Cs, h1, h2, h3⟩ := h.out
  have := h.low
  exact ⟨As, Cs, (Rd.of_row (b := b) h1 (by omega) hc).congr (fun r hr => h2 r hr), fun r hr => h3 r hr b (Or.inl rfl)⟩
theorem ROut.mx (h : ROut K b n m g cap X w wr) (hc : n ≤ cap) (hb : b < w.heap.size) : Mx b wr (ivs X) (fun _ => m) (some ⟨g, 0, none⟩) n := by
  obtain ⟨As, Cs, h1, h2⟩ := h.rows hc hb
  exact ⟨As, Cs, h1, fun r hr => (h2 r hr).1⟩

/-- nothing is reduced any more when each row has a pivot -/
theorem red_stop {n c : Nat} {X : Nat → Nat → El q} (h : n ≤ (red n X c).2) : ∀ d, red n X (c + d) = red n X c
  | 0 => rfl
  | d + 1 => by
    show stp n (red n X (c + d)) (c + d) = _
    have hle : (red n X (c + d)).2 ≤ n := (rk_le n X (c + d)).1
    rw [red_stop h d] at hle ⊢
    exact stp_no hle (fun i h1 h2 => absurd h2 (by omega))
/-- the rows, of which i are cleared -/
def clrI (F : Nat → Nat → El q) (t j i r k : Nat) : El q := if r = t then (F t j).inv * F t k else if r < i then F r k + F r j * ((F t j).inv * F t k) else F r k
theorem clrI_all (F : Nat → Nat → El q) (t j : Nat) {i r : Nat} (hr : r < i) (k : Nat) : clrI F t j i r k = clr F t j r k := by
  unfold clrI clr
  rw [if_pos hr]
theorem clrI_row (F : Nat → Nat → El q) {t j i : Nat} (h : i ≠ t) (k : Nat) : clrI F t j i i k = F i k := by
  unfold clrI
  rw [if_neg h, if_neg (Nat.lt_irrefl i)]
theorem clrI_start {X1 : Nat → Nat → El q} {t P c : Nat} (r j : Nat) : (if r = t then (X1 P c).inv * X1 P j else if r = P then X1 t j else X1 r j) = clrI (fun r => X1 (sw t P r)) t c 0 r j := by
  unfold clrI
  have h1 : sw t P t = P := by unfold sw; rw [if_pos rfl]
  by_cases e : r = t
  · rw [if_pos e, if_pos e]
    dsimp only
    rw [h1]
  · rw [if_neg e, if_neg e, if_neg (Nat.not_lt_zero r)]
    dsimp only
    unfold sw
    rw [if_neg e]
    by_cases e2 : r = P
    · rw [if_pos e2, if_pos e2]
    · rw [if_neg e2, if_neg e2]
theorem clrI_skip (F : Nat → Nat → El q) {t j i : Nat} (h : i = t ∨ F i j = 0) (r k : Nat) : clrI F t j i r k = clrI F t j (i + 1) r k := by
  unfold clrI
  by_cases e : r = t
  · rw [if_pos e, if_pos e]
  · rw [if_neg e, if_neg e]
    by_cases e2 : r < i
    · rw [if_pos e2, if_pos (by omega)]
    · rw [if_neg e2]
      by_cases e3 : r = i
      · subst e3
        rcases h with h | h
        · exact absurd h e
        · rw [if_pos (by omega), h, El.zero_mul, El.add_zero]
      · rw [if_neg (by omega)]
theorem clrI_step (F : Nat → Nat → El q) {t j i : Nat} (h : i ≠ t) (r k : Nat) : (if r = i then F i k + ((F t j).inv * F t k) * F i j else clrI F t j i r k) = clrI F t j (i + 1) r k := by
  unfold clrI
  by_cases e3 : r = i
  · subst e3
    rw [if_pos rfl, if_neg h, if_pos (by omega), El.mul_comm (F r j)]
  · rw [if_neg e3]
    by_cases e : r = t
    · rw [if_pos e, if_pos e]
    · rw [if_neg e, if_neg e]
      by_cases e2 : r < i
      · rw [if_pos e2, if_pos (by omega)]
      · rw [if_neg e2, if_neg (by omega)]
end

/-- what reduced tells -/
def RRedSaid (q : FP) (K : Prop) (b n m : Nat) (X : Nat → Nat → El q) (c : Nat) (w : World) (e : Ending) (w' : World) : Prop :=
  ∃ A cp, e = .returned (.tuple #[.slice A n cp, .int .i64 ((red n X c).2 : Nat)]) ∧ n ≤ cp ∧ (∃ As Cs, Rd b w' (slis As (fun _ => m) Cs) A n ∧ ∀ r, r < n → Rd b w' (i64s (ivs (red n X c).1 r)) (As r) m ∧ (K → m ≤ Cs r)) ∧ Below w.heap.size w w'
/-- in its loops -/
def RRedAt (q : FP) (K : Prop) (b n m g cap : Nat) (X : Nat → Nat → El q) (cols : Nat) (w : World) (s11 s12 : Value) (wr : World) : Prop :=
  ∃ c : Nat, c ≤ cols ∧ s12 = .int .i64 c ∧ s11 = .int .i64 ((red n X c).2 : Nat) ∧ ROut K b n m g cap (red n X c).1 w wr
def RRedIn (q : FP) (K : Prop) (b n m g cap : Nat) (F : Nat → Nat → El q) (t j : Nat) (R : Option Addr) (w : World) (s17 : Value) (wr : World) : Prop :=
  ∃ i : Nat, i ≤ n ∧ s17 = .int .i64 i ∧ ROut K b n m g cap (clrI F t j i) w wr ∧ ∀ h, (h = b ∨ h = g) → Rd h wr (i64s (fun k => (((F t j).inv * F t k).val : Int))) R m

set_option maxRecDepth 100000 in
set_option maxHeartbeats 8000000 in
theorem reduced31 (q : FP) (b wd n m cols : Nat) (hg : Good q.p wd) (X : Nat → Nat → El q) (A : Option Addr) (ca : Nat) (hn1 : 1 ≤ n) (hn2 : n ≤ 20) (hm : m ≤ 100) (hcm : cols ≤ m) (w : World) (hbw : b < w.heap.size) (As : Nat → Option Addr) (Cs : Nat → Nat) (ra : Rd b w (slis As (fun _ => m) Cs) A n) (ra2 : ∀ r, r < n → Rd b w (i64s (ivs X r)) (As r) m) (K : Prop) (hk0 : K → ∀ r, r < n → m ≤ Cs r) :
    Calls Tryz.prog 46 #[.int .i64 wd, .int .u32 q.p, .slice A n ca, .int .i64 cols] w (RRedSaid q K b n m X cols w) := by
  obtain ⟨i0, hi, hz0, hz1, hz2⟩ := info_parts infoRow
  obtain ⟨ad, rfl, _⟩ := ra.at_ (show 0 < n by omega)
  have RA := Lib.hid (ra.below (below_alloc w (.cells #[] TIs)))
  have RA2 := Lib.hid ra2
  have HO := Lib.hid (own_fresh0 w w.heap.size TIs w.heap.size rfl (Nat.le_refl _))
  clear ra ra2
  go_enter Tryz.func46, Tryz.ntmps46
  go_wp2_with (at_builtin; refine append_rd _ rfl _ _ TRI rfl w.heap.size TIs i0 nilS 24 underRI hi hz0 hz1 hz2 rfl _ 0 _ rfl HO.out b (slis As (fun _ => m) Cs) (some ad) n ca rfl (fun h => by cases h) RA.out (one_slis _ _ _) (by unfold maxLen; omega) (by omega) (by simp) ?_)
  intro v1 w1 hown1 hgr1
  obtain ⟨g, cap, rfl, hc, hR⟩ := ROut.start (b := b) (X := X) hown1 (by omega) (below_grown (below_alloc w (.cells #[] TIs)) HO.out hgr1) RA2.out hk0
  have HR := Lib.hid (show ROut K b n m g cap (red n X 0).1 w w1 from hR)
  clear hown1 hgr1 RA RA2 HO hR
  go_wp2_with fail
  go_loopw [11, 12] (fun s11 s12 wr => RRedAt q K b n m g cap X cols w s11 s12 wr) (fun _ s12 _ => cols - (intOf s12).toNat)
  case atStart => exact ⟨0, Nat.zero_le _, rfl, rfl, HR.out⟩
  case round =>
    clear HR
    obtain ⟨c, hcc, rfl, rfl, hR⟩ := hrel
    have htle : (red n X c).2 ≤ n := (rk_le n X c).1
    obtain ⟨X1, hX1⟩ : ∃ X1, (red n X c).1 = X1 := ⟨_, rfl⟩
    obtain ⟨t, ht⟩ : ∃ t, (red n X c).2 = t := ⟨_, rfl⟩
    rw [hX1] at hR
    rw [ht] at htle ⊢
    have HS := Lib.hid (show red n X c = (X1, t) from Prod.ext hX1 ht)
    have HR := Lib.hid hR
    clear hR hX1 ht
    by_cases hlt : c < cols
    case neg =>
      obtain rfl : c = cols := by omega
      have HE := Lib.hid (show RRedSaid q K b n m X c w (.returned (.tuple #[.slice (some ⟨g, 0, none⟩) n cap, .int .i64 (t : Nat)])) wr from ⟨_, cap, by rw [HS.out], hc, by rw [HS.out]; exact HR.out.rows hc hbw, HR.out.below⟩)
      go_wp2_with fail
      go_ret2
      exact HE.out
    by_cases htn : t < n
    case neg =>
      obtain rfl : t = n := by omega
      have HE := Lib.hid (show RRedSaid q K b t m X cols w (.returned (.tuple #[.slice (some ⟨g, 0, none⟩) t cap, .int .i64 (t : Nat)])) wr from by
        have h1 := red_stop (X := X) (n := t) (c := c) (by rw [HS.out]; exact Nat.le_refl _) (cols - c)
        rw [show c + (cols - c) = cols by omega, HS.out] at h1
        exact ⟨_, cap, by rw [h1], hc, by rw [h1]; exact HR.out.rows hc hbw, HR.out.below⟩)
      have hd1 : decide (((c : Nat) : Int) < ((cols : Nat) : Int)) = true := by simp; omega
      go_wp2_with fail
      go_ret2
      exact HE.out
    have hcI : ((c : Nat) : Int) < ((cols : Nat) : Int) := by omega
    have htI : ((t : Nat) : Int) < ((n : Nat) : Int) := by omega
    go_wp2_with fail
    refine (pivot50 b X1 (some ⟨g, 0, none⟩) n m cap t c (by omega) (by omega) (by omega) wr (HR.out.mx hc hbw)).mono ?_
    rintro e w' ⟨rfl, rfl⟩
    have hred : red n X (c + 1) = stp n (X1, t) c := by
      show stp n (red n X c) c = _
      rw [HS.out]
    obtain ⟨f1, f2, f3, f4⟩ := fnd_spec X1 c (n - t) t
    unfold stp at hred
    dsimp only at hred
    obtain ⟨P, hP⟩ : ∃ P, fnd X1 c (n - t) t = P := ⟨_, rfl⟩
    rw [hP] at f1 f2 f3 f4 hred ⊢
    clear hP f3
    by_cases hPn : P < n
    case neg =>
      rw [if_neg hPn] at hred ⊢
      have HN := Lib.hid hred
      clear hred f4 f1 f2 hPn
      go_wp2_with fail
      exact ⟨⟨c + 1, hlt, by go_num, by rw [HN.out], by rw [HN.out]; exact HR.out⟩, by simp [intOf]; omega⟩
    rw [if_pos hPn] at hred ⊢
    have HN := Lib.hid hred
    have h0 : X1 P c ≠ 0 := f4 (by omega)
    obtain ⟨AP, cP, d1, _, hrP, _⟩ := HR.out.cell hc hPn
    obtain ⟨adP, rfl, d2⟩ := (hrP b (Or.inl rfl)).at_ (show c < m by omega)
    simp only [i64s, ivs] at d2
    have HRP := Lib.hid hrP
    have HI := Lib.hid (finv_el h0)
    have HCS := Lib.hid (fun r j => clrI_start (X1 := X1) (t := t) (P := P) (c := c) r j)
    obtain ⟨u, hu⟩ : ∃ u, (X1 P c).inv = u := ⟨_, rfl⟩
    rw [hu] at HI
    have HU := Lib.hid hu
    obtain ⟨x0, hx0⟩ : ∃ x0 : Nat, (X1 P c).val = x0 := ⟨_, rfl⟩
    rw [hx0] at d2 HI
    have hPI : ((P : Nat) : Int) < ((n : Nat) : Int) := by omega
    have hcmI : ((c : Nat) : Int) < ((m : Nat) : Int) := by omega
    have hgl := HR.out.lt
    have hblr : b < wr.heap.size := Nat.lt_of_lt_of_le hbw HR.out.below.size
    clear hred f4 h0 hrP hu hx0
    go_wp2_with fail
    refine (rinv19 q.p wd hg ((x0 : Nat) : Int) _).mono ?_
    rintro e w' ⟨rfl, rfl⟩
    rw [HI.out]
    go_wp2_with fail
    refine (scaled52 q.p b wd hg (ivs X1 P) ((u.val : Nat) : Int) (some adP) m cP (by omega) _ (HRP.out b (Or.inl rfl))).mono ?_
    rintro e w2 ⟨v2, rfl, happ⟩
    obtain ⟨A2, c2, rfl, hmc2, _⟩ := happ.rd hblr
    have HRW := Lib.hid (show ∀ h, (h = b ∨ h = g) → Rd h w2 (i64s (fun k => ((u * X1 P k).val : Int))) A2 m from fun h hh => by
      obtain ⟨A3, c3, e3, _, h3⟩ := happ.rd (show h < wr.heap.size by rcases hh with rfl | rfl <;> omega)
      injection e3 with e3
      subst e3
      exact h3.congr (fun j _ => by simp only [i64s, ivs]; rw [fmul_el, El.mul_comm]))
    have HR2 := Lib.hid (HR.out.next happ.2)
    clear happ HR HRP d1 d2 HI
    obtain ⟨At, ct, d3, _, hrt, hkt⟩ := HR2.out.cell hc htn
    obtain ⟨_, _, _, fz4, _⟩ := HR2.out.cell hc hPn
    have HR3 := Lib.hid (HR2.out.set P (X1 t) (c := ct) hrt hkt)
    obtain ⟨_, _, _, fz5, _⟩ := HR3.out.cell hc htn
    have HRW3 := Lib.hid (show ∀ h, (h = b ∨ h = g) → Rd h (w2.setCell ⟨g, P, none⟩ (.slice At m ct)) (i64s (fun k => ((u * X1 P k).val : Int))) A2 m from fun h hh => rd_set (HRW.out g (Or.inr rfl)) (HRW.out h hh))
    have HR4 := Lib.hid (HR3.out.set t (fun k => u * X1 P k) (c := c2) HRW3.out (fun _ => hmc2))
    have HRW4 := Lib.hid (show ∀ h, (h = b ∨ h = g) → Rd h ((w2.setCell ⟨g, P, none⟩ (.slice At m ct)).setCell ⟨g, t, none⟩ (.slice A2 m c2)) (i64s (fun k => ((u * X1 P k).val : Int))) A2 m from fun h hh => rd_set (HRW3.out g (Or.inr rfl)) (HRW3.out h hh))
    obtain ⟨F, hF⟩ : ∃ F : Nat → Nat → El q, (fun r => X1 (sw t P r)) = F := ⟨_, rfl⟩
    have hFt : ∀ k, F t k = X1 P k := fun k => by rw [← hF]; simp only [sw, if_pos]
    have HR5 := Lib.hid (HR4.out.congr (X' := clrI F t c 0) (fun r _ j _ => by rw [← hF, ← HCS.out r j, HU.out]))
    have HRW5 := Lib.hid (show ∀ h, (h = b ∨ h = g) → Rd h ((w2.setCell ⟨g, P, none⟩ (.slice At m ct)).setCell ⟨g, t, none⟩ (.slice A2 m c2)) (i64s (fun k => (((F t c).inv * F t k).val : Int))) A2 m from fun h hh => (HRW4.out h hh).congr (fun j _ => by simp only [i64s]; rw [hFt, hFt, HU.out]))
    have HNF := Lib.hid (show red n X (c + 1) = (clr F t c, t + 1) by rw [HN.out, hF])
    clear hrt hkt HR3 HR4 HRW HRW3 HRW4 HR2 HCS hF hFt HN
    go_wp2_with fail
    go_loopw [17] (fun s17 wr => RRedIn q K b n m g cap F t c A2 w s17 wr) (fun s17 _ => n - (intOf s17).toNat)
    case atStart => exact ⟨0, Nat.zero_le _, rfl, HR5.out, HRW5.out⟩
    case round =>
      clear HR5 HRW5 d3 fz4 fz5
      obtain ⟨i, hin, rfl, hR, hrw⟩ := hrel
      have HR := Lib.hid hR
      have HRW := Lib.hid hrw
      clear hR hrw
      by_cases hlt2 : i < n
      · by_cases hit : i = t
        · have HSK := Lib.hid (HR.out.congr (fun r _ j _ => clrI_skip F (Or.inl hit) r j))
          have hne : (((i : Nat) : Int) != ((t : Nat) : Int)) = false := by simp; omega
          clear hit
          go_wp2_with fail
          exact ⟨⟨i + 1, hlt2, by go_num, HSK.out, HRW.out⟩, by simp [intOf]; omega⟩
        have hne : (((i : Nat) : Int) != ((t : Nat) : Int)) = true := by simp; omega
        obtain ⟨Ai, ci, e1, fzi, hri, _⟩ := HR.out.cell hc hlt2
        obtain ⟨adi, rfl, e2⟩ := (hri b (Or.inl rfl)).at_ (show c < m by omega)
        simp only [i64s, ivs] at e2
        rw [clrI_row F hit] at e2
        have HRI := Lib.hid (show ∀ h, (h = b ∨ h = g) → Rd h wr (i64s (fun k => ((F i k).val : Int))) (some adi) m from fun h hh => (hri h hh).congr (fun j _ => by simp only [i64s, ivs]; rw [clrI_row F hit]))
        have hiI : ((i : Nat) : Int) < ((n : Nat) : Int) := by omega
        clear hri
        by_cases hz : F i c = 0
        · have HSK := Lib.hid (HR.out.congr (fun r _ j _ => clrI_skip F (Or.inr hz) r j))
          rw [hz, El.zero_val] at e2
          clear hit hz
          go_wp2_with fail
          exact ⟨⟨i + 1, hlt2, by go_num, HSK.out, HRW.out⟩, by simp [intOf]; omega⟩
        have hv0 : (F i c).val ≠ 0 := fun e => hz (El.eq_zero.2 e)
        obtain ⟨x, hx⟩ : ∃ x : Nat, (F i c).val = x := ⟨_, rfl⟩
        have HX := Lib.hid hx
        have HIT := Lib.hid hit
        rw [hx] at e2 hv0
        have hnz : (((x : Nat) : Int) != 0) = true := by simp; omega
        have hbi := lt_of_cell e2
        have hgi := lt_of_cell e1
        rw [block_of_add] at hbi
        have KEEP := Lib.hid (show ∀ w', Below wr.heap.size wr w' → w'.cell? ⟨g, i, none⟩ = some (.slice (some adi) m ci) ∧ w'.cell? (adi.add c) = some (.int .i64 (x : Nat)) ∧ w'.frozen? ⟨g, i, none⟩ = false from fun w' hb' =>
          ⟨(hb'.cell hgi).trans e1, (hb'.cell (by rw [block_of_add]; exact hbi)).trans e2, (World.frozen?_of_block (hb'.block g hgi)).trans fzi⟩)
        have hblw : b < wr.heap.size := Nat.lt_of_lt_of_le hbw HR.out.below.size
        clear hx hit hz hv0
        go_wp2_with fail
        go_region_with
          (first
            | (go_at_call 66; refine (scaled52 q.p b wd hg (fun k => (((F t c).inv * F t k).val : Int)) ((x : Nat) : Int) A2 m c2 (by omega) wr.drew (HRW.out b (Or.inl rfl)).drew).mono ?_; rintro e w5 ⟨v5, rfl, happ5⟩; obtain ⟨A5, c5, rfl, _, hr5⟩ := happ5.rd (show b < wr.drew.heap.size from hblw); have hB5 : Below wr.heap.size wr w5 := below_tr (Below.refl _ wr).drew happ5.2; obtain ⟨k1, k2, k3⟩ := KEEP.out _ hB5)
            | (go_at_call 67; refine (added53 b wd hg (F i) (fun k => ((F t c).inv * F t k) * F i c) (some adi) A5 m ci c5 (by omega) w5 ((HRI.out b (Or.inl rfl)).below hB5) (hr5.congr (fun j _ => by simp only [i64s]; rw [← HX.out, fmul_el]))).mono ?_; rintro e w6 ⟨v6, rfl, happ6⟩; obtain ⟨A6, c6, rfl, hmc6, _⟩ := happ6.rd (show b < w5.heap.size from Nat.lt_of_lt_of_le hblw hB5.size); have hB6 : Below wr.heap.size wr w6 := below_tr hB5 happ6.2; obtain ⟨k4, k5, k6⟩ := KEEP.out _ hB6))
        all_goals
          have HX6 := Lib.hid (show ∀ h, (h = b ∨ h = g) → Rd h w6 (i64s (fun k => ((F i k + ((F t c).inv * F t k) * F i c).val : Int))) A6 m from fun h hh => by
            have hs5 := hB5.size
            obtain ⟨A3, c3, e3, _, h3⟩ := happ6.rd (show h < w5.heap.size by rcases hh with rfl | rfl <;> omega)
            injection e3 with e3
            subst e3
            exact h3)
          have HR7 := Lib.hid (((HR.out.next hB6).set i (fun k => F i k + ((F t c).inv * F t k) * F i c) (c := c6) HX6.out (fun _ => hmc6)).congr (X' := clrI F t c (i + 1)) (fun r _ j _ => clrI_step F HIT.out r j))
          have HRW7 := Lib.hid (show ∀ h, (h = b ∨ h = g) → Rd h (w6.setCell ⟨g, i, none⟩ (.slice A6 m c6)) (i64s (fun k => (((F t c).inv * F t k).val : Int))) A2 m from fun h hh => rd_set ((HRW.out g (Or.inr rfl)).below hB6) ((HRW.out h hh).below hB6))
          clear happ5 happ6 hr5 hB5 hB6 KEEP HRI HX6 HR HRW hmc6 e1 e2 fzi k1 k2 k3 k4 k5 k6
          go_wp2_with fail
          exact ⟨⟨i + 1, hlt2, by go_num, HR7.out, HRW7.out⟩, by simp [intOf]; omega⟩
      · obtain rfl : i = n := by omega
        have HE := Lib.hid (HR.out.congr (X' := (red i X (c + 1)).1) (fun r hr j _ => by rw [HNF.out]; exact clrI_all F t c hr j))
        have HE2 := Lib.hid (show (red i X (c + 1)).2 = t + 1 by rw [HNF.out])
        clear HR HRW
        go_wp2_with fail
        exact ⟨⟨c + 1, hlt, by go_num, by rw [HE2.out]; go_num, HE.out⟩, by simp [intOf]; omega⟩
end Go.Proofs.YtmpamgnbbomoaaaGreat
