/- Layer 10: the contract of Split. -/
import Derived.Test.YtalallkpejlclaaDoorLye
namespace Go.Proofs.YtalallkpejlclaaDoor
open Go.RowKit Go.Shelf
attribute [local go_sem] Oper.semAt_some

/-- the shards: how many, and byte j of shard r -/
def splN (p k m n : Int) : Nat := if szE p k m n = 0 then k.toNat else 0
def splF (p : Int) (S n : Nat) (f : Nat → Nat) : Nat → Nat → Nat := fun r j => laidB (aheadL (layI p)) n f (r * S + j)
/-- what Split tells -/
def SplitSaid (p k m : Int) (n : Nat) (f : Nat → Nat) (w : World) (e : Ending) (w' : World) : Prop :=
  ∃ v, e = .returned (.tuple #[v, .int .i64 (szE p k m n)]) ∧ RowsTold (splN p k m n) (splF p (szN p k m n) n f) (fun _ => szN p k m n) w v w'

/-- while the shards are made -/
structure SplA (K S gd gb gs B0 : Nat) (w4 : World) (k : Nat) (W : World) : Prop where
  row : W.rowIs gd TBs K (fun r => if r < k then sl (B0 + r) S else nilS)
  rows : ∀ r, r < k → W.rowIs (B0 + r) TB S (fun _ => .int .u8 0)
  size : W.heap.size = B0 + k
  box : W.cell? ⟨gb, 0, none⟩ = some (sl gd K)
  sbox : W.cell? ⟨gs, 0, none⟩ = some (.int .i64 S)
  turned : Turned gd w4 W

theorem SplA.step {K S gd gb gs B0 : Nat} {w4 : World} {k : Nat} {W : World} (h : SplA K S gd gb gs B0 w4 k W) (hk : k < K) (hb : gb ≠ gd) (hs : gs ≠ gd) (hd : gd < B0) :
    SplA K S gd gb gs B0 w4 (k + 1) ((W.alloc (.cells (madeCells #[.int .u8 0] S) TB)).setCell ⟨gd, k, none⟩ (sl W.heap.size S)).drew := by
  have hz := h.size
  have hbl := below_alloc W (.cells (madeCells #[.int .u8 0] S) TB)
  refine ⟨World.rowIs.drew ((((h.row.alloc _).set k (sl W.heap.size S))).congr (fun r _ => ?_)), fun r hr => World.rowIs.drew ?_, ?_, ?_, ?_, Turned.drew (Turned.setCell (h.turned.trans (Turned.of_below hbl)) _ _)⟩
  · rcases Nat.lt_trichotomy r k with e | e | e
    · rw [if_neg (by omega), if_pos e, if_pos (by omega)]
    · subst e; rw [if_pos rfl, if_pos (by omega), hz]
    · rw [if_neg (by omega), if_neg (by omega), if_neg (by omega)]
  · by_cases e : r = k
    · subst e
      have := World.rowIs_made W (.int .u8 0) S TB
      rw [hz] at this
      exact this.setOther (by simp; omega) _
    · exact ((h.rows r (by omega)).alloc _).setOther (by simp; omega) _
  · simp [World.setCell, World.drew, hz]; omega
  · show (World.setCell _ _ _).cell? _ = _
    rw [World.cell?_setCell_other _ _ _ _ (by simp)]
    exact (hbl.cell (lt_of_cell h.box)).trans h.box
  · show (World.setCell _ _ _).cell? _ = _
    rw [World.cell?_setCell_other _ _ _ _ (by simp)]
    exact (hbl.cell (lt_of_cell h.sbox)).trans h.sbox

theorem row_unique {r c X Y S : Nat} (hc : c < S) (hY : Y < S) (h : r * S + c = X * S + Y) : r = X ∧ c = Y := by
  have h1 : (r * S + c) / S = r := by rw [Nat.mul_comm, Nat.mul_add_div (by omega), Nat.div_eq_of_lt hc, Nat.add_zero]
  have h2 : (X * S + Y) / S = X := by rw [Nat.mul_comm, Nat.mul_add_div (by omega), Nat.div_eq_of_lt hY, Nat.add_zero]
  have h3 : r = X := by rw [← h1, ← h2, h]
  subst h3
  exact ⟨rfl, by omega⟩

/-- while the bytes are laid -/
structure SplI (l : Int) (n : Nat) (f : Nat → Nat) (B : Option Addr) (cb K S gd gb gs B0 bl bb : Nat) (w w8 : World) (j : Nat) (W : World) : Prop where
  below : Below w.heap.size w W
  row : W.rowIs gd TBs K (fun r => sl (B0 + r) S)
  rows : ∀ r, r < K → W.rowIs (B0 + r) TB S (fun c => .int .u8 ((if r * S + c < j then laidB (aheadL l) n f (r * S + c) else 0 : Nat)))
  place : W.rowIs (B0 + K) TI 1 (fun _ => .int .i64 j)
  box : W.cell? ⟨gb, 0, none⟩ = some (sl gd K)
  sbox : W.cell? ⟨gs, 0, none⟩ = some (.int .i64 S)
  bb : W.cell? ⟨bb, 0, none⟩ = some (.slice B n cb)
  bl : W.cell? ⟨bl, 0, none⟩ = some (.int .u8 l)
  size : w8.heap.size ≤ W.heap.size
theorem SplI.soft {l : Int} {n : Nat} {f : Nat → Nat} {B : Option Addr} {cb K S gd gb gs B0 bl bb : Nat} {w w8 : World} {j : Nat} {A A' : World} (h : SplI l n f B cb K S gd gb gs B0 bl bb w w8 j A) (hb : Below w8.heap.size A A')
    (h0 : w.heap.size ≤ w8.heap.size) (h1 : gd < w8.heap.size) (h2 : B0 + K < w8.heap.size) (h3 : gb < w8.heap.size) (h4 : gs < w8.heap.size) (h5 : bl < w8.heap.size) (h6 : bb < w8.heap.size) : SplI l n f B cb K S gd gb gs B0 bl bb w w8 j A' :=
  ⟨h.below.trans (hb.mono h0), h.row.of_block (hb.block _ h1), fun r hr => (h.rows r hr).of_block (hb.block _ (by omega)), h.place.of_block (hb.block _ h2),
    (hb.cell (p := ⟨gb, 0, none⟩) h3).trans h.box, (hb.cell (p := ⟨gs, 0, none⟩) h4).trans h.sbox, (hb.cell (p := ⟨bb, 0, none⟩) h6).trans h.bb, (hb.cell (p := ⟨bl, 0, none⟩) h5).trans h.bl, Nat.le_trans h.size hb.size⟩
theorem SplI.told {l : Int} {n : Nat} {f : Nat → Nat} {B : Option Addr} {b cb K S gd gb gs B0 bl bb : Nat} {w w8 : World} {j : Nat} {A : World} (h : SplI l n f B cb K S gd gb gs B0 bl bb w w8 j A) (hr : Rd b w (u8s f) B n) : LaidT b bb bl l n B cb f A := ⟨h.bb, h.bl, hr.below h.below⟩
theorem SplI.step {l : Int} {n : Nat} {f : Nat → Nat} {B : Option Addr} {cb K S gd gb gs B0 bl bb : Nat} {w w8 : World} {X Y : Nat} {W : World} (h : SplI l n f B cb K S gd gb gs B0 bl bb w w8 (X * S + Y) W) (hX : X < K) (hY : Y < S)
    (h0 : w.heap.size ≤ B0) (h1 : gd < B0) (h2 : B0 + K < w8.heap.size) (h3 : gb < B0) (h4 : gs < B0) (h5 : B0 + K < bl) (h6 : B0 + K < bb) :
    SplI l n f B cb K S gd gb gs B0 bl bb w w8 (X * S + Y + 1) ((W.setCell ⟨B0 + X, Y, none⟩ (.int .u8 (laidB (aheadL l) n f (X * S + Y)))).setCell ⟨B0 + K, 0, none⟩ (.int .i64 (((X * S + Y : Nat) : Int) + 1))) ∧
      KeptFrom w8.heap.size W ((W.setCell ⟨B0 + X, Y, none⟩ (.int .u8 (laidB (aheadL l) n f (X * S + Y)))).setCell ⟨B0 + K, 0, none⟩ (.int .i64 (((X * S + Y : Nat) : Int) + 1))) := by
  refine ⟨⟨(h.below.setCell (p := ⟨B0 + X, Y, none⟩) (by simp; omega) _).setCell (p := ⟨B0 + K, 0, none⟩) (by simp; omega) _, (h.row.setOther (by simp; omega) _).setOther (by simp; omega) _, fun r hr => ?_, ((h.place.setOther (by simp; omega) _).set 0 _).congr (fun i hi => ?_), ?_, ?_, ?_, ?_, by simpa [World.setCell] using h.size⟩,
    (KeptFrom.setCell (KeptFrom.setCell (KeptFrom.refl _ _) (by omega) _) (by omega) _)⟩
  · refine World.rowIs.setOther ?_ (by simp; omega) _
    by_cases e : r = X
    · subst e
      refine ((h.rows r hr).set Y _).congr (fun c hc => ?_)
      by_cases e : c = Y
      · subst e
        rw [if_pos rfl, if_pos (by omega)]
      · rw [if_neg e]
        by_cases e2 : r * S + c < r * S + Y
        · rw [if_pos e2, if_pos (by omega)]
        · rw [if_neg e2, if_neg (by omega)]
    · refine ((h.rows r hr).setOther (by simp; omega) _).congr (fun c hc => ?_)
      by_cases e2 : r * S + c < X * S + Y
      · rw [if_pos e2, if_pos (by omega)]
      · rw [if_neg e2, if_neg (fun e3 => e (row_unique hc hY (by omega)).1)]
  · obtain rfl : i = 0 := by omega
    rw [if_pos rfl]
    congr 1
  · rw [World.cell?_setCell_other _ _ _ _ (by simp), World.cell?_setCell_other _ _ _ _ (by simp)]; exact h.box
  · rw [World.cell?_setCell_other _ _ _ _ (by simp), World.cell?_setCell_other _ _ _ _ (by simp)]; exact h.sbox
  · rw [World.cell?_setCell_other _ _ _ _ (by simp), World.cell?_setCell_other _ _ _ _ (by simp)]; exact h.bb
  · rw [World.cell?_setCell_other _ _ _ _ (by simp), World.cell?_setCell_other _ _ _ _ (by simp)]; exact h.bl

theorem SplI.drew {l : Int} {n : Nat} {f : Nat → Nat} {B : Option Addr} {cb K S gd gb gs B0 bl bb : Nat} {w w8 : World} {j : Nat} {A : World} (h : SplI l n f B cb K S gd gb gs B0 bl bb w w8 j A) : SplI l n f B cb K S gd gb gs B0 bl bb w w8 j A.drew :=
  ⟨h.below.drew, h.row.drew, fun r hr => (h.rows r hr).drew, h.place.drew, h.box, h.sbox, h.bb, h.bl, h.size⟩
/-- when all is laid -/
theorem SplI.rows_told {p l : Int} {n : Nat} {f : Nat → Nat} {B : Option Addr} {cb K S gd gb gs B0 bl bb : Nat} {w w8 : World} {A : World} (h : SplI l n f B cb K S gd gb gs B0 bl bb w w8 (aheadL l + n) A) (hl : layI p = l) (h1 : w.heap.size ≤ gd) (h2 : gd < B0) :
    RowsTold K (splF p S n f) (fun _ => S) w (.slice (some ⟨gd, 0, none⟩) K K) A := by
  refine ⟨_, _, rfl, Nat.le_refl _, fun b hb => ⟨fun r => some ⟨B0 + r, 0, none⟩, fun _ => S, Rd.of_row (h.row.congr (fun r _ => rfl)) (by omega) (Nat.le_refl _), fun r hr => Rd.of_row ((h.rows r hr).congr (fun c _ => ?_)) (by omega) (Nat.le_refl _)⟩, h.below⟩
  simp only [u8s, splF]
  rw [hl]
  split
  · rfl
  · rw [laidB_out (by omega)]

theorem splN_no {p k m n : Int} (h : szE p k m n ≠ 0) : splN p k m n = 0 := if_neg h

set_option maxRecDepth 100000 in
theorem split_no (p k m : Int) (f : Nat → Nat) (B : Option Addr) (n cb : Nat) (w : World) (hT : Tab w) (hE : szE p k m n ≠ 0) :
    Calls Tryd.prog 12 #[.agg (parA p k m), .slice B n cb] w (SplitSaid p k m n f w) := by
  obtain ⟨v, hv⟩ : ∃ v, w.alloc (.cells #[.int .i64 p, .int .i64 k, .int .i64 m] TPa) = v := ⟨_, rfl⟩
  obtain ⟨_, e0, hbv⟩ := one_box hv
  have E0 := Lib.hid e0
  have HV := Lib.hid hbv
  have HT := Lib.hid (hT.below hbv)
  have HE := Lib.hid (show ∀ w', Below w.heap.size w w' → SplitSaid p k m n f w (.returned (.tuple #[nilS, .int .i64 (szE p k m n)])) w' from fun w' h => ⟨_, rfl, by rw [splN_no hE]; exact RowsTold.nil h⟩)
  have HSZ := Lib.hid (size10 p k m n v HT.out)
  unfold SizeSaid at HSZ
  obtain ⟨x, hx⟩ : ∃ x, szE p k m n = x := ⟨_, rfl⟩
  rw [hx] at HE HSZ hE
  have hne : (x != 0) = true := by simp [hE]
  clear hx hE e0 hbv hT
  obtain ⟨d0, d1, d2⟩ := box_three E0.out
  go_enter Tryd.func12, Tryd.ntmps12
  go_wp2_with fail
  refine HSZ.out.mono ?_
  rintro e w1 ⟨rfl, hb1⟩
  have H1 := Lib.hid (below_tr (below_tr HV.out hb1) (below_alloc w1 (.cells #[.int .i64 (szN p k m n)] TI)))
  clear hb1 d0 d1 d2
  go_wp2_with fail
  go_ret2
  exact HE.out _ H1.out

theorem sz_ok {p k m : Int} {n : Nat} (hE : szE p k m n = 0) : ∃ K : Nat, k = (K : Int) ∧ 1 ≤ K ∧ K ≤ 8 ∧ n ≤ 4096 ∧ mayX p k m := by
  unfold szE at hE
  split at hE
  · rename_i h
    split at hE
    · exact ⟨k.toNat, by have := h.1.2.1; omega, by have := h.1.2.1; omega, by have := h.1.2.1; omega, by omega, h.1⟩
    · omega
  · omega

set_option maxRecDepth 100000 in
set_option maxHeartbeats 4000000 in
theorem split_yes (b : Nat) (p k m : Int) (f : Nat → Nat) (B : Option Addr) (n cb : Nat) (w : World) (hT : Tab w) (hr : Rd b w (u8s f) B n) (hE : szE p k m n = 0) :
    Calls Tryd.prog 12 #[.agg (parA p k m), .slice B n cb] w (SplitSaid p k m n f w) := by
  obtain ⟨K, rfl, k1, k8, hn, hmay⟩ := sz_ok hE
  obtain ⟨v, hv⟩ : ∃ v, w.alloc (.cells #[.int .i64 p, .int .i64 (K : Int), .int .i64 m] TPa) = v := ⟨_, rfl⟩
  obtain ⟨_, e0, hbv⟩ := one_box hv
  have E0 := Lib.hid e0
  have HV := Lib.hid hbv
  have HT := Lib.hid (hT.below hbv)
  have HR := Lib.hid hr
  have hS : szN p K m n = szU (unitL (layI p)) K (aheadL (layI p) + n) := (szE_ok hmay hn).1
  have hS1 := szU_ge (u := unitL (layI p)) (K := K) (m := aheadL (layI p) + n) (unitL_pos _).1 k1
  have hS2 := szU_le (u := unitL (layI p)) (K := K) (m := aheadL (layI p) + n) (unitL_pos _).1 k1
  have hu := unitL_pos (layI p)
  have ha4 := aheadL_le (layI p)
  rw [← hS] at hS1 hS2
  have hEE : splN p K m n = K := (if_pos hE).trans (Int.toNat_natCast K)
  have HE := Lib.hid (show ∀ A c w', RowsTold K (splF p (szN p K m n) n f) (fun _ => szN p K m n) w (.slice A K c) w' → SplitSaid p K m n f w (.returned (.tuple #[.slice A K c, .int .i64 0])) w' from fun A c w' h => ⟨_, by rw [hE], by rw [hEE]; exact h⟩)
  have HSZ := Lib.hid (size10 p K m n v HT.out)
  unfold SizeSaid at HSZ
  obtain ⟨S, hSS⟩ : ∃ S, szN p K m n = S := ⟨_, rfl⟩
  rw [hE, hSS] at HSZ
  rw [hSS] at HE hS1 hS2
  have s1 : 1 ≤ S := by omega
  have s2 : S ≤ 5000 := by omega
  have HKS := Lib.hid hS1.1
  obtain ⟨l, hl⟩ : ∃ l, layI p = l := ⟨_, rfl⟩
  have HL := Lib.hid hl
  rw [hl] at HKS ha4
  clear e0 hbv hT hr hS hS1 hS2 hu hEE hSS hmay hE hl
  have hmkD := run_make_row' (P := Tryd.prog) TRs TBs nilS 24 Tryd.underlying31 infoS rfl .i64 .i64 K (by omega) (by omega)
  have hmkB := run_make_row' (P := Tryd.prog) TBs TB (.int .u8 0) 1 Tryd.underlying24 infoB rfl .i64 .i64 S (by omega) (by omega)
  refine (callsIn_wide (n := 5)).1 ?_
  refine callsIn_of_wp_marks Tryd.func12 rfl trivial ?_ rfl
  simp only [Tryd.ntmps12, List.size_toArray, List.length_cons, List.length_nil, Nat.reduceAdd, Nat.reduceSub, Array.replicate_succ, Array.replicate_zero, List.push_toArray, List.append_toArray, List.nil_append, List.cons_append]
  obtain ⟨d0, d1, d2⟩ := box_three E0.out
  gi_wp2_with fail
  refine ⟨trivial, (callsIn_wide.2 HSZ.out).mono ?_⟩
  rintro e w1 ⟨rfl, hb1⟩
  have H1 := Lib.hid (below_tr HV.out hb1)
  have HT1 := Lib.hid (HT.out.below hb1)
  have E1 := Lib.hid (kept_box E0.out hb1)
  obtain ⟨w2, hw2⟩ : ∃ w2, w1.alloc (.cells #[.int .i64 S] TI) = w2 := ⟨_, rfl⟩
  have hb2 : Below w1.heap.size w1 w2 := by rw [← hw2]; exact below_alloc _ _
  have hs2 : w2.heap.size = w1.heap.size + 1 := by rw [← hw2]; simp
  have hsb : w2.cell? ⟨w1.heap.size, 0, none⟩ = some (.int .i64 S) := by rw [← hw2]; simp
  obtain ⟨g0, g1, g2⟩ := box_three (kept_box E1.out hb2)
  obtain ⟨w4, hw4⟩ : ∃ w4, (w2.alloc (.cells (madeCells #[nilS] K) TBs)).alloc (.cells #[.slice (some ⟨w2.heap.size, 0, none⟩) K K] TRs) = w4 := ⟨_, rfl⟩
  have hb4 : Below w2.heap.size w2 w4 := by rw [← hw4]; exact (below_alloc w2 _).alloc (by simp) _
  have hs4 : w4.heap.size = w2.heap.size + 2 := by rw [← hw4]; simp
  have HA0 := Lib.hid (show SplA K S w2.heap.size (w2.heap.size + 1) w1.heap.size w4.heap.size w4 0 w4 from by
    refine ⟨?_, fun r hr => absurd hr (by omega), rfl, ?_, (hb4.cell (lt_of_cell hsb)).trans hsb, Turned.refl _ _⟩
    · rw [← hw4]
      exact ((World.rowIs_made w2 nilS K TBs).alloc _).congr (fun r _ => by rw [if_neg (by omega)])
    · rw [← hw4]; simp)
  have H4 := Lib.hid (below_tr (below_tr H1.out hb2) hb4)
  have HT4 := Lib.hid (HT1.out.below (below_tr hb2 hb4))
  have E4 := Lib.hid (kept_box E1.out (below_tr hb2 hb4))
  have HS2 := Lib.hid hs2
  have HS4 := Lib.hid hs4
  have hgs : w1.heap.size ≠ w2.heap.size := by omega
  have hgs4 : w1.heap.size < w4.heap.size := by omega
  have hgd4 : w2.heap.size < w4.heap.size := by omega
  have hgb4 : w2.heap.size + 1 < w4.heap.size := by omega
  clear hb1 d0 d1 d2 HT HSZ hb2 hsb hs2 hb4 hs4
  obtain ⟨gd, hgd⟩ : ∃ gd, w2.heap.size = gd := ⟨_, rfl⟩
  obtain ⟨gs, hgs'⟩ : ∃ gs, w1.heap.size = gs := ⟨_, rfl⟩
  obtain ⟨B0, hB0⟩ : ∃ B0, w4.heap.size = B0 := ⟨_, rfl⟩
  rw [hgd, hgs', hB0] at HA0
  rw [hgd, hgs'] at hgs
  rw [hgs', hB0] at hgs4
  rw [hgd, hB0] at hgd4 hgb4
  rw [hgd] at hw4
  have HB0 := Lib.hid hB0
  clear hB0
  have b4 := HA0.out.box
  have hlo : w.heap.size < gd := by
    have h2 := HS2.out
    have h3 := lt_of_cell (box_three E1.out).1
    dsimp only at h3
    omega
  gi_wp2_with fail
  clear b4 g0 g1 g2 hw2 hw4 hgd hgs'
  gi_loopw [27] (fun s27 wr => ∃ r : Nat, r ≤ K ∧ s27 = .int .i64 r ∧ SplA K S gd (gd + 1) gs B0 w4 r wr) (fun s27 _ => K - (intOf s27).toNat)
  case atStart => exact ⟨0, Nat.zero_le _, rfl, HA0.out⟩
  case round =>
    clear HA0
    obtain ⟨r, hr, rfl, hA⟩ := hrel
    by_cases hlt : r < K
    · have c1 := hA.box
      have c2 := hA.sbox
      have c3 := hA.row.cell hlt
      rw [if_neg (by omega)] at c3
      have f3 := hA.row.frozen r
      have hbv := below_alloc wr (.cells (madeCells #[.int .u8 0] S) TB)
      have e1 := (hbv.cell (lt_of_cell c1)).trans c1
      have e2 := (hbv.cell (lt_of_cell c2)).trans c2
      have e3 := (hbv.cell (lt_of_cell c3)).trans c3
      have f4 := (hA.row.alloc (.cells (madeCells #[.int .u8 0] S) TB)).frozen r
      have HS := Lib.hid (hA.step hlt (by omega) (by omega) (by omega))
      clear hA hbv
      gi_wp2_with fail
      refine wpIn_wide.2 ?_
      go_region
      all_goals
        gi_wp2_with fail
        exact ⟨⟨r + 1, by omega, by go_num, HS.out⟩, by simp [intOf]; omega⟩
    · obtain rfl : K = r := by omega
      have hsz := hA.size
      have h5 := hA.turned
      have HA5 := Lib.hid hA
      have hb5 := below_alloc wr (.cells #[.int .i64 0] TI)
      have hwB : w.heap.size < B0 := by omega
      have e5 : (wr.alloc (.cells #[.int .i64 0] TI)).heap[w.heap.size]? = some (.cells (parA p K m) TPa (0, 0)) :=
        (hb5.block _ (by omega)).trans ((h5.block _ (by have := HB0.out; omega) (by omega)).trans E4.out)
      have HT5 := Lib.hid (show Tab (wr.alloc (.cells #[.int .i64 0] TI)) from by
        have h1 : Tab wr := by
          obtain ⟨t, fr, h⟩ := HT4.out
          exact ⟨t, fr, (h5.block 0 (by have := HB0.out; omega) (by omega)).trans h⟩
        exact h1.below hb5)
      have HW5 := Lib.hid (show Below w.heap.size w (wr.alloc (.cells #[.int .i64 0] TI)) from (H4.out.trans (h5.below (by omega) (by have := HB0.out; omega))).trans (hb5.mono (by omega)))
      obtain ⟨d0, d1, d2⟩ := box_three e5
      have hP5 : (wr.alloc (.cells #[.int .i64 0] TI)).rowIs (B0 + K) TI 1 (fun _ => .int .i64 ((0 : Nat) : Int)) := by
        rw [← hsz]
        exact World.rowIs_alloc wr #[.int .i64 0] TI _ (fun i hi => by simp at hi; subst hi; rfl)
      have HP5 := Lib.hid hP5
      have HS5 := Lib.hid hsz
      clear h5 hb5 e5 hP5
      have h5s : (wr.alloc (.cells #[.int .i64 0] TI)).heap.size = B0 + K + 1 := by rw [World.size_alloc, hsz]
      have HZ5 := Lib.hid h5s
      have HB5 := Lib.hid (below_alloc wr (.cells #[.int .i64 0] TI))
      gi_wp2_with fail
      refine ⟨trivial, (callsIn_wide.2 (layout22 p K m _ HT5.out)).mono ?_⟩
      rintro e w6 ⟨rfl, hb6⟩
      rw [HL.out]
      have HB6 := Lib.hid hb6
      have HW6 := Lib.hid (HW5.out.trans (hb6.mono HW5.out.size))
      have hs6 : B0 + K + 1 ≤ w6.heap.size := by have := hb6.size; rw [h5s] at this; exact this
      clear hb6 d0 d1 d2 HT5 HW5 hA h5s
      gi_wp2_with fail
      refine ⟨trivial, (callsIn_wide.2 (laid27 l B n cb w6)).mono ?_⟩
      rintro e w8 ⟨rfl, hw8⟩
      have hb8 : Below w6.heap.size w6 w8 := by rw [← hw8]; exact (below_alloc w6 _).alloc (by simp) _
      have hs8 : w8.heap.size = w6.heap.size + 2 := by rw [← hw8]; simp
      have hbl8 : w8.cell? ⟨w6.heap.size, 0, none⟩ = some (.int .u8 l) := by rw [← hw8]; simp
      have hbb8 : w8.cell? ⟨w6.heap.size + 1, 0, none⟩ = some (.slice B n cb) := by rw [← hw8]; simp
      have h58 := HB6.out.trans (hb8.mono HB6.out.size)
      have hr8 : Below wr.heap.size wr w8 := HB5.out.trans (h58.mono HB5.out.size)
      have HI := Lib.hid (show SplI l n f B cb K S gd (gd + 1) gs B0 w6.heap.size (w6.heap.size + 1) w w8 0 w8 from
        ⟨HW6.out.trans (hb8.mono HW6.out.size), (HA5.out.row.of_block (hr8.block _ HA5.out.row.lt)).congr (fun r hr => by rw [if_pos hr]),
          fun r hr => ((HA5.out.rows r hr).of_block (hr8.block _ (HA5.out.rows r hr).lt)).congr (fun c _ => by rw [if_neg (by omega)]; rfl),
          HP5.out.of_block (h58.block _ HP5.out.lt), (hr8.cell (lt_of_cell HA5.out.box)).trans HA5.out.box, (hr8.cell (lt_of_cell HA5.out.sbox)).trans HA5.out.sbox, hbb8, hbl8, Nat.le_refl _⟩)
      have h08 : w.heap.size ≤ w8.heap.size := by omega
      have hB8 : B0 + K < w8.heap.size := by omega
      obtain ⟨bl, hbl⟩ : ∃ bl, w6.heap.size = bl := ⟨_, rfl⟩
      rw [hbl] at HI hs6 hs8
      have hsz8 := Nat.le_of_eq hs8.symm
      clear hw8 hb8 hbl8 hbb8 h58 hr8 HW6 HB6 HA5 HP5 hs8
      gi_wp2_with fail
      clear hbl
      refine' range_keep (by omega) (gf := 36) (lb := #[.pointer (some ⟨bl + 1, 0, none⟩), .pointer (some ⟨bl, 0, none⟩)]) rfl (enters_of Tryd.func36 (by kernel_rfl) rfl)
        (encs := fun x : Nat => #[.int .u8 x]) (fun _ => rfl) (laid_hand 4 b (bl + 1) bl l n B cb f (by omega) (by omega))
        (fun j W => SplI l n f B cb K S gd (gd + 1) gs B0 bl (bl + 1) w w8 j W) (fun j W h => h.told HR.out) (fun j X Y h hb => h.soft hb h08 (by omega) hB8 (by omega) (by omega) (by omega) (by omega)) (fun j x X r o o' h ho hc => h) HI.out _ ?assign ?body ?done
      case assign =>
        intro lp x W k hK
        gi_wp2_with fail
        exact hK
      case body =>
        intro lp j x W hI hj hX hsz
        obtain ⟨hX1, hY1⟩ := row_lt (show j < K * S by have := HKS.out; omega)
        obtain ⟨X, Y, hXY, hXK, hYS⟩ : ∃ X Y, X * S + Y = j ∧ X < K ∧ Y < S := ⟨j / S, j % S, by rw [Nat.mul_comm, Nat.div_add_mod], hX1, hY1⟩
        obtain rfl : x = laidB (aheadL l) n f j := hX
        have c1 := hI.box
        have c2 := hI.sbox
        have c3 := hI.place.cell (i := 0) (by omega)
        have c4 := hI.row.cell hXK
        have c5 := (hI.rows X hXK).cell hYS
        have f5 := (hI.rows X hXK).frozen Y
        have hpl := hI.place.setOther (a := ⟨B0 + X, Y, none⟩) (by simp; omega) (.int .u8 (laidB (aheadL l) n f j))
        have c6 := hpl.cell (i := 0) (by omega)
        have f6 := hpl.frozen 0
        have hst := SplI.step (X := X) (Y := Y) (by rw [hXY]; exact hI) hXK hYS (by omega) (by omega) hB8 (by omega) (by omega) (by omega) (by omega)
        rw [hXY] at hst
        have HS := Lib.hid hst
        obtain ⟨z, hz⟩ : ∃ z, laidB (aheadL l) n f j = z := ⟨_, rfl⟩
        rw [hz] at HS hpl c6 f6 ⊢
        have hj2 : j ≤ 100000 := by
          have : K * S ≤ 8 * 5000 := Nat.mul_le_mul k8 s2
          have := HKS.out
          omega
        have hdiv : IntKind.i64.wrap ((j : Int) / (S : Int)) = (X : Int) := by
          have e : j / S = X := by rw [← hXY, Nat.mul_comm, Nat.mul_add_div (by omega), Nat.div_eq_of_lt hYS, Nat.add_zero]
          rw [← Int.natCast_ediv, e, IntKind.wrap_i64]
          omega
        have hmod : (j : Int).tmod (S : Int) = (Y : Int) := by
          have e : j % S = Y := by rw [← hXY, Nat.mul_comm, Nat.mul_add_mod, Nat.mod_eq_of_lt hYS]
          rw [← Int.ofNat_tmod, e]
        have hS0 : ¬ S = 0 := by omega
        have hS : W.drew.cell? ⟨gd + 1, 0, none⟩ = some (sl gd K) ∧ W.drew.cell? ⟨gs, 0, none⟩ = some (.int .i64 S) ∧ W.drew.cell? ⟨B0 + K, 0, none⟩ = some (.int .i64 (j : Int)) ∧ W.drew.cell? ⟨gd, X, none⟩ = some (sl (B0 + X) S) := ⟨c1, c2, c3, c4⟩
        have hS2 : (W.setCell ⟨B0 + X, Y, none⟩ (.int .u8 z)).drew.cell? ⟨gd + 1, 0, none⟩ = some (sl gd K) ∧ (W.setCell ⟨B0 + X, Y, none⟩ (.int .u8 z)).drew.cell? ⟨gs, 0, none⟩ = some (.int .i64 S) ∧ (W.setCell ⟨B0 + X, Y, none⟩ (.int .u8 z)).drew.cell? ⟨B0 + K, 0, none⟩ = some (.int .i64 (j : Int)) ∧ (W.setCell ⟨B0 + X, Y, none⟩ (.int .u8 z)).drew.cell? ⟨gd, X, none⟩ = some (sl (B0 + X) S) :=
          ⟨(World.cell?_setCell_other _ _ _ _ (by intro h; injection h; omega)).trans c1, (World.cell?_setCell_other _ _ _ _ (by intro h; injection h; omega)).trans c2, c6, (World.cell?_setCell_other _ _ _ _ (by intro h; injection h; omega)).trans c4⟩
        clear hI hj hX1 hY1 hXY hz hpl hst
        try dsimp only
        gi_wp2_with fail
        refine region_in_round (fun w' => w'.cell? ⟨gd + 1, 0, none⟩ = some (sl gd K) ∧ w'.cell? ⟨gs, 0, none⟩ = some (.int .i64 S) ∧ w'.cell? ⟨B0 + K, 0, none⟩ = some (.int .i64 (j : Int)) ∧ w'.cell? ⟨gd, X, none⟩ = some (sl (B0 + X) S)) 12 rfl (by kernel_rfl) (by kernel_rfl) ?_
        refine takeL (i := 0) (v := sl gd K) rfl (by kernel_rfl) (by kernel_rfl) (by kernel_rfl) rfl (fun w' hSw => ?tk0) hS ?_
        case tk0 =>
          obtain ⟨q1, q2, q3, q4⟩ := hSw
          go_simp
        try simp only [Act.put, List.setIfInBounds_toArray, List.set_cons_zero, List.set_cons_succ]
        refine takeL (i := 1) (v := .int .i64 (j : Int)) rfl (by kernel_rfl) (by kernel_rfl) (by kernel_rfl) rfl (fun w' hSw => ?tk1) hS ?_
        case tk1 =>
          obtain ⟨q1, q2, q3, q4⟩ := hSw
          go_simp
        try simp only [Act.put, List.setIfInBounds_toArray, List.set_cons_zero, List.set_cons_succ]
        refine takeL (i := 2) (v := .int .i64 S) rfl (by kernel_rfl) (by kernel_rfl) (by kernel_rfl) rfl (fun w' hSw => ?tk2) hS ?_
        case tk2 =>
          obtain ⟨q1, q2, q3, q4⟩ := hSw
          go_simp
        try simp only [Act.put, List.setIfInBounds_toArray, List.set_cons_zero, List.set_cons_succ]
        refine takeL (i := 3) (v := .int .i64 (X : Int)) rfl (by kernel_rfl) (by kernel_rfl) (by kernel_rfl) rfl (fun w' hSw => ?tk3) hS ?_
        case tk3 =>
          obtain ⟨q1, q2, q3, q4⟩ := hSw
          go_simp
        try simp only [Act.put, List.setIfInBounds_toArray, List.set_cons_zero, List.set_cons_succ]
        refine takeL (i := 4) (v := .pointer (some ⟨gd, X, none⟩)) rfl (by kernel_rfl) (by kernel_rfl) (by kernel_rfl) rfl (fun w' hSw => ?tk4) hS ?_
        case tk4 =>
          obtain ⟨q1, q2, q3, q4⟩ := hSw
          go_simp
        try simp only [Act.put, List.setIfInBounds_toArray, List.set_cons_zero, List.set_cons_succ]
        refine takeL (i := 5) (v := sl (B0 + X) S) rfl (by kernel_rfl) (by kernel_rfl) (by kernel_rfl) rfl (fun w' hSw => ?tk5) hS ?_
        case tk5 =>
          obtain ⟨q1, q2, q3, q4⟩ := hSw
          go_simp
        try simp only [Act.put, List.setIfInBounds_toArray, List.set_cons_zero, List.set_cons_succ]
        refine takeL (i := 6) (v := .int .i64 (j : Int)) rfl (by kernel_rfl) (by kernel_rfl) (by kernel_rfl) rfl (fun w' hSw => ?tk6) hS ?_
        case tk6 =>
          obtain ⟨q1, q2, q3, q4⟩ := hSw
          go_simp
        try simp only [Act.put, List.setIfInBounds_toArray, List.set_cons_zero, List.set_cons_succ]
        refine takeL (i := 7) (v := .int .i64 S) rfl (by kernel_rfl) (by kernel_rfl) (by kernel_rfl) rfl (fun w' hSw => ?tk7) hS ?_
        case tk7 =>
          obtain ⟨q1, q2, q3, q4⟩ := hSw
          go_simp
        try simp only [Act.put, List.setIfInBounds_toArray, List.set_cons_zero, List.set_cons_succ]
        refine takeL (i := 8) (v := .int .i64 (Y : Int)) rfl (by kernel_rfl) (by kernel_rfl) (by kernel_rfl) rfl (fun w' hSw => ?tk8) hS ?_
        case tk8 =>
          obtain ⟨q1, q2, q3, q4⟩ := hSw
          go_simp
        try simp only [Act.put, List.setIfInBounds_toArray, List.set_cons_zero, List.set_cons_succ]
        refine takeL (i := 9) (v := .int .u8 (z : Int)) rfl (by kernel_rfl) (by kernel_rfl) (by kernel_rfl) rfl (fun w' hSw => ?tk9) hS ?_
        case tk9 =>
          obtain ⟨q1, q2, q3, q4⟩ := hSw
          go_simp
        try simp only [Act.put, List.setIfInBounds_toArray, List.set_cons_zero, List.set_cons_succ]
        refine takeL (i := 10) (v := .pointer (some ⟨B0 + X, Y, none⟩)) rfl (by kernel_rfl) (by kernel_rfl) (by kernel_rfl) rfl (fun w' hSw => ?tk10) hS ?_
        case tk10 =>
          obtain ⟨q1, q2, q3, q4⟩ := hSw
          go_simp
        try simp only [Act.put, List.setIfInBounds_toArray, List.set_cons_zero, List.set_cons_succ]
        refine stepL (i := 11) (by kernel_rfl) rfl rfl (fun k hK => ?_)
        go_simp
        refine hK _ _ hS2 ?_
        clear hK k
        try simp only [Act.put, List.setIfInBounds_toArray, List.set_cons_zero, List.set_cons_succ]
        refine wpAnyH_done (by kernel_rfl) ?_ _
        dsimp only [OnlyN]
        gi_wp2_with fail
        exact ⟨HS.out.2.drew, HS.out.1.drew⟩
      case done =>
        rintro D W hD hI hK
        have c1 := hI.box
        have HQ := Lib.hid (HE.out _ _ _ ((hI.soft (below_put hD (.deferred none)) h08 (by omega) hB8 (by omega) (by omega) (by omega) (by omega)).rows_told HL.out (by omega) hgd4))
        clear hI
        gi_wp2_with fail
        refine ⟨by simp, .inl ⟨_, _, rfl, run_takeDeferred hK, ?_⟩⟩
        exact ⟨_, results_tmp2 (t := 4) (u := 5) rfl _ _ _, HQ.out⟩

theorem split12 (b : Nat) (p k m : Int) (f : Nat → Nat) (B : Option Addr) (n cb : Nat) (w : World) (hT : Tab w) (hr : Rd b w (u8s f) B n) :
    Calls Tryd.prog 12 #[.agg (parA p k m), .slice B n cb] w (SplitSaid p k m n f w) := by
  by_cases hE : szE p k m n = 0
  · exact split_yes b p k m f B n cb w hT hr hE
  · exact split_no p k m f B n cb w hT hE
end Go.Proofs.YtalallkpejlclaaDoor
