/- Layer 10: contracts of the document's laid and Split. -/
import Derived.Test.YtalallkpejlclaaDoorLyf
namespace Go.Proofs.YtalallkpejlclaaDoor
open Go.RowKit

theorem rd_grownH {H g' : Nat} {wr w1 : World} {o : Obj} {own : Option Nat} {k : Nat → Value} {A : Option Addr} {n : Nat} (h0 : 0 < H) (hr : ∀ g, (g < H ∨ own = some g) → Rd g wr k A n) (hgr : (wr.alloc o).grownBy w1 own) (hg : own = some g' ∨ g' = (wr.alloc o).heap.size) :
    ∀ g, (g < H ∨ some g' = some g) → Rd g w1 k A n := fun g hgg hn => by
  obtain ⟨ad, rfl, h1, h2, h3⟩ := hr 0 (Or.inl h0) hn
  have hno : own ≠ some ad.block := fun e => by
    obtain ⟨ad', e', h4, _⟩ := hr ad.block (Or.inr e) hn
    injection e' with e'
    subst e'
    exact h4 rfl
  have hbl : w1.heap[ad.block]? = wr.heap[ad.block]? := (hgr.block ad.block (by simp; omega) (fun e => hno e.symm)).trans (Below.heap_alloc wr o _ h2)
  refine ⟨ad, rfl, ?_, Nat.lt_of_lt_of_le h2 (Nat.le_trans (by simp) hgr.size), fun j hj => (World.cell?_of_block (by rw [block_of_add]; exact hbl)).trans (h3 j hj)⟩
  rcases hgg with hgg | hgg
  · obtain ⟨ad', e', h4, _⟩ := hr g (Or.inl hgg) hn
    injection e' with e'
    subst e'
    exact h4
  · injection hgg with hgg
    subst hgg
    rcases hg with hg | hg
    · exact fun e => hno (e ▸ hg)
    · simp at hg
      omega

/-- rows of bytes that are appended, one by one -/
def BApp (w : World) (F : Nat → Nat → Nat) (Ls : Nat → Nat) (k : Nat) (v : Value) (wr : World) : Prop :=
  Below w.heap.size w wr ∧ ∃ (As : Nat → Option Addr) (Cs : Nat → Nat), wr.ownsRow w.heap.size TBs 1 v k ((List.range k).map (slis As Ls Cs)) ∧ ∀ r, r < k → ∀ g, (g < w.heap.size ∨ v.ownBlock = some g) → Rd g wr (u8s (F r)) (As r) (Ls r)
theorem own_below' {w w' : World} {base e n : Nat} {v : Value} {xs : List Value} (h : w.ownsRow base e 1 v n xs) (hb : Below w.heap.size w w') : w'.ownsRow base e 1 v n xs :=
  h.kept (row := none) ⟨hb.os, hb.tape, hb.output, hb.size, fun k hk _ => hb.block k hk⟩ (Classical.em _)
theorem BApp.start (w : World) (F : Nat → Nat → Nat) (Ls : Nat → Nat) : BApp w F Ls 0 nilS w := ⟨Below.refl _ _, fun _ => none, fun _ => 0, World.ownsRow_nil _ _ _ _, fun r hr => absurd hr (by omega)⟩
theorem BApp.below {w : World} {F : Nat → Nat → Nat} {Ls : Nat → Nat} {k : Nat} {v : Value} {wr w' : World} (h : BApp w F Ls k v wr) (hb : Below wr.heap.size wr w') : BApp w F Ls k v w' := by
  obtain ⟨h1, As, Cs, h2, h3⟩ := h
  exact ⟨below_tr h1 hb, As, Cs, own_below' h2 hb, fun r hr g hg => (h3 r hr g hg).below hb⟩
theorem BApp.step {w : World} {F : Nat → Nat → Nat} {Ls : Nat → Nat} {k : Nat} {v : Value} {wr w1 : World} {o : Obj} {As : Nat → Option Addr} {Cs : Nat → Nat} {A' : Option Addr} {n' c' g' cap : Nat} (h0 : 0 < w.heap.size) (h1 : Below w.heap.size w wr) (h2 : wr.ownsRow w.heap.size TBs 1 v k ((List.range k).map (slis As Ls Cs)))
    (h3 : ∀ r, r < k → ∀ g, (g < w.heap.size ∨ v.ownBlock = some g) → Rd g wr (u8s (F r)) (As r) (Ls r)) (hn : Ls k = n') (hr : ∀ g, (g < w.heap.size ∨ v.ownBlock = some g) → Rd g wr (u8s (F k)) A' n')
    (hown : w1.ownsRow w.heap.size TBs 1 (.slice (some ⟨g', 0, none⟩) (k + 1) cap) (k + 1) ((List.range k).map (slis As Ls Cs) ++ [.slice A' n' c'])) (hgr : (wr.alloc o).grownBy w1 v.ownBlock) (hg : v.ownBlock = some g' ∨ g' = wr.heap.size + 1) :
    BApp w F Ls (k + 1) (.slice (some ⟨g', 0, none⟩) (k + 1) cap) w1 := by
  subst hn
  have hg : v.ownBlock = some g' ∨ g' = (wr.alloc o).heap.size := by rw [World.size_alloc]; exact hg
  refine ⟨(h1.alloc h1.size o).grown hgr (by simp; have := h1.size; omega) (fun q hq => (h2.lt q hq).1), fun r => if r = k then A' else As r, fun r => if r = k then c' else Cs r, ?_, fun r hr' g hgg => ?_⟩
  · rw [range_snoc]
    have e1 : (List.range k).map (slis (fun r => if r = k then A' else As r) Ls (fun r => if r = k then c' else Cs r)) = (List.range k).map (slis As Ls Cs) := range_congr (fun j hj => by
      simp only [slis]
      rw [if_neg (by omega), if_neg (by omega)])
    rw [e1]
    simp only [slis, if_pos]
    exact hown
  · by_cases e : r = k
    · subst e
      dsimp only
      rw [if_pos rfl]
      exact rd_grownH h0 hr hgr hg g hgg
    · dsimp only
      rw [if_neg e]
      exact rd_grownH h0 (h3 r (by omega)) hgr hg g hgg
theorem BApp.told {w : World} {F : Nat → Nat → Nat} {Ls : Nat → Nat} {k : Nat} {v : Value} {wr : World} (h : BApp w F Ls k v wr) (h0 : 0 < w.heap.size) : RowsTold k F Ls w v wr := by
  obtain ⟨h1, As, Cs, h2, h3⟩ := h
  obtain ⟨A, c, e, hc, _⟩ := Rd.of_own h2 h0
  refine ⟨A, c, e, hc, fun b hb => ⟨As, Cs, ?_, fun r hr => h3 r hr b (Or.inl hb)⟩, h1⟩
  obtain ⟨A2, c2, e2, _, h5⟩ := Rd.of_own h2 hb
  rw [e] at e2
  injection e2 with e2
  subst e2
  exact h5
theorem one_slice' (A : Option Addr) (n c : Nat) : ∀ u ∈ [Value.slice A n c], u.oneCell' = true := by intro u hu; simp at hu; subst hu; rfl

/-- the four bytes ahead -/
theorem news_four {w : World} {t a b c d : Nat} {f : Nat → Nat} (ha : a = f 0) (hb : b = f 1) (hc : c = f 2) (hd : d = f 3) :
    Rd w.heap.size.succ (w.alloc (.cells #[.int .u8 a, .int .u8 b, .int .u8 c, .int .u8 d] t)) (u8s f) (some ⟨w.heap.size, 0, none⟩) 4 := by
  subst ha hb hc hd
  refine Rd.of_row (World.rowIs_alloc w _ t (u8s f) (fun i hi => ?_)) (by omega) (by simp)
  simp at hi
  match i, hi with
  | 0, _ => rfl
  | 1, _ => rfl
  | 2, _ => rfl
  | 3, _ => rfl

/-- what the document's laid tells -/
def RLaidSaid (l : Int) (n : Nat) (f : Nat → Nat) (w : World) (e : Ending) (w' : World) : Prop := ∃ v, e = .returned v ∧ App w TB (u8s (laidB (aheadL l) n f)) (aheadL l + n) v w'

set_option maxRecDepth 100000 in
set_option maxHeartbeats 2000000 in
theorem rlaid28 (b : Nat) (p k m : Int) (f : Nat → Nat) (B : Option Addr) (n cb : Nat) (hn : n ≤ 4096) (hc : B = none → cb = 0) (w : World) (hr : Rd b w (u8s f) B n) :
    Calls Tryd.prog 28 #[.agg (parA p k m), .slice B n cb] w (RLaidSaid (layI p) n f w) := by
  obtain ⟨i0, hi, hz0, hz1, hz2⟩ := info_parts infoB
  obtain ⟨v, hv⟩ : ∃ v, w.alloc (.cells #[.int .i64 p, .int .i64 k, .int .i64 m] TPa) = v := ⟨_, rfl⟩
  obtain ⟨_, e0, hbv⟩ := one_box hv
  have E0 := Lib.hid e0
  have HV := Lib.hid hbv
  have HR := Lib.hid hr
  have HC := Lib.hid hc
  have HL := Lib.hid (rlayout25 p k m v)
  obtain ⟨l, hl⟩ : ∃ l, layI p = l := ⟨_, rfl⟩
  rw [hl] at HL ⊢
  have HE := Lib.hid (fun v w' (h : App w TB (u8s (laidB (aheadL l) n f)) (aheadL l + n) v w') => show RLaidSaid l n f w (.returned v) w' from ⟨v, rfl, h⟩)
  clear e0 hbv hr hc hl
  obtain ⟨d0, d1, d2⟩ := box_three E0.out
  go_enter Tryd.func28, Tryd.ntmps28
  go_wp2_with fail
  refine HL.out.mono ?_
  rintro e w1 ⟨rfl, hb1⟩
  have H1 := Lib.hid (below_tr HV.out hb1)
  have hsz := H1.out.size
  clear hb1 d0 d1 d2
  by_cases h98 : l = 98
  · have h98' : (l == 98) = true := by simp [h98]
    have ha : aheadL l = 4 := by unfold aheadL; rw [if_pos h98]
    rw [ha] at HE
    clear ha h98
    obtain ⟨e0, e1, e2, e3⟩ := laidB_head (n := n) (f := f)
    obtain ⟨x0, hx0⟩ : ∃ x, n / 16777216 % 256 = x := ⟨_, rfl⟩
    obtain ⟨x1, hx1⟩ : ∃ x, n / 65536 % 256 = x := ⟨_, rfl⟩
    obtain ⟨x2, hx2⟩ : ∃ x, n / 256 % 256 = x := ⟨_, rfl⟩
    obtain ⟨x3, hx3⟩ : ∃ x, n % 256 = x := ⟨_, rfl⟩
    have hw0 : (n : Int) / 16777216 % 256 = (x0 : Int) := by omega
    have hw1 : (n : Int) / 65536 % 256 = (x1 : Int) := by omega
    have hw2 : (n : Int) / 256 % 256 = (x2 : Int) := by omega
    have hw3 : (n : Int) % 256 = (x3 : Int) := by omega
    have hb0 : x0 < 256 := by omega
    have hb1 : x1 < 256 := by omega
    have hb2 : x2 < 256 := by omega
    have hb3 : x3 < 256 := by omega
    rw [hx0] at e0
    rw [hx1] at e1
    rw [hx2] at e2
    rw [hx3] at e3
    have HN := Lib.hid (news_four (w := w1) (t := TB) e0.symm e1.symm e2.symm e3.symm)
    clear e0 e1 e2 e3 hx0 hx1 hx2 hx3
    go_wp2_with (at_builtin; refine append_rd _ rfl (.tmp 12) (.tmp 28) TBs rfl w.heap.size TB i0 (.int .u8 0) 1 underB hi hz0 hz1 hz2 rfl nilS 0 [] rfl (World.ownsRow_nil _ _ _ _) w1.heap.size.succ _ _ 4 4 rfl (fun h => by cases h) HN.out (one_u8s _) (by unfold maxLen; omega) (by omega) (by simp; omega) ?_)
    intro v2 w2 hown hgr
    have hB2 : Below w.heap.size w w2 := (H1.out.alloc hsz _).grown hgr (by simp; omega) (fun q hq => by simp [Value.ownBlock] at hq)
    have hsz2 := hB2.size
    have HOWN := Lib.hid hown
    have HB2 := Lib.hid hB2
    clear hown hgr hB2
    go_wp2_with (at_builtin; refine append_rd _ rfl _ _ TBs rfl w.heap.size TB i0 (.int .u8 0) 1 underB hi hz0 hz1 hz2 rfl v2 (0 + 4) _ rfl HOWN.out b _ _ _ _ rfl HC.out (HR.out.below HB2.out) (one_u8s _) (by unfold maxLen; omega) (by omega) hsz2 ?_)
    intro v3 w3 hown hgr
    have HQ := Lib.hid (HE.out v3 w3 ⟨by
      rw [range_cat, range_congr (k := fun j => u8s (laidB 4 n f) (4 + j)) (k' := u8s f) (fun j hj => by simp only [u8s]; rw [laidB_at hj])]
      exact hown, HB2.out.grown hgr hsz2 (fun q hq => (HOWN.out.lt q hq).1)⟩)
    clear hown hgr
    go_wp2_with fail
    go_ret
    exact HQ.out
  · have h98' : (l == 98) = false := by simp [h98]
    have ha : aheadL l = 0 := by unfold aheadL; rw [if_neg h98]
    rw [ha, Nat.zero_add] at HE
    clear ha h98
    go_wp2_with (at_builtin; refine append_rd _ rfl _ _ TBs rfl w.heap.size TB i0 (.int .u8 0) 1 underB hi hz0 hz1 hz2 rfl nilS 0 [] rfl (World.ownsRow_nil _ _ _ _) b _ _ _ _ rfl HC.out (HR.out.below H1.out) (one_u8s _) (by unfold maxLen; omega) (by omega) hsz ?_)
    intro v2 w2 hown hgr
    have HQ := Lib.hid (HE.out v2 w2 (App.congr ⟨hown, H1.out.grown hgr hsz (fun q hq => by simp [Value.ownBlock] at hq)⟩ (fun j hj => by
      simp only [u8s]
      have := laidB_at (a := 0) (n := n) (f := f) (i := j) hj
      rw [Nat.zero_add] at this
      rw [this])))
    clear hown hgr
    go_wp2_with fail
    go_ret
    exact HQ.out

set_option maxRecDepth 100000 in
theorem rsplit_no (p k m : Int) (f : Nat → Nat) (B : Option Addr) (n cb : Nat) (w : World) (hE : szE p k m n ≠ 0) :
    Calls Tryd.prog 13 #[.agg (parA p k m), .slice B n cb] w (SplitSaid p k m n f w) := by
  obtain ⟨v, hv⟩ : ∃ v, w.alloc (.cells #[.int .i64 p, .int .i64 k, .int .i64 m] TPa) = v := ⟨_, rfl⟩
  obtain ⟨_, e0, hbv⟩ := one_box hv
  have E0 := Lib.hid e0
  have HV := Lib.hid hbv
  have HE := Lib.hid (show ∀ w', Below w.heap.size w w' → SplitSaid p k m n f w (.returned (.tuple #[nilS, .int .i64 (szE p k m n)])) w' from fun w' h => ⟨_, rfl, by rw [splN_no hE]; exact RowsTold.nil h⟩)
  have HSZ := Lib.hid (rsize11 p k m n v)
  unfold SizeSaid at HSZ
  obtain ⟨x, hx⟩ : ∃ x, szE p k m n = x := ⟨_, rfl⟩
  rw [hx] at HE HSZ hE
  have hne : (x != 0) = true := by simp [hE]
  clear hx hE e0 hbv
  obtain ⟨d0, d1, d2⟩ := box_three E0.out
  go_enter Tryd.func13, Tryd.ntmps13
  go_wp2_with fail
  refine HSZ.out.mono ?_
  rintro e w1 ⟨rfl, hb1⟩
  have H1 := Lib.hid (below_tr HV.out hb1)
  clear hb1 d0 d1 d2
  go_wp2_with fail
  go_ret2
  exact HE.out _ H1.out

/-- in the inner loop of the document's Split -/
def RSplIn (S i : Nat) (G : Nat → Nat) (wi : World) (s11 s12 : Value) (wr : World) : Prop := ∃ j : Nat, j ≤ S ∧ s12 = .int .i64 j ∧ App wi TB (u8s fun j => G (i * S + j)) j s11 wr

set_option maxRecDepth 100000 in
set_option maxHeartbeats 4000000 in
theorem rsplit_yes (b : Nat) (p k m : Int) (f : Nat → Nat) (hf : ∀ j, f j < 256) (B : Option Addr) (n cb : Nat) (hc : B = none → cb = 0) (w : World) (h0 : 0 < w.heap.size) (hr : Rd b w (u8s f) B n) (hE : szE p k m n = 0) :
    Calls Tryd.prog 13 #[.agg (parA p k m), .slice B n cb] w (SplitSaid p k m n f w) := by
  obtain ⟨K, rfl, k1, k8, hn, hmay⟩ := sz_ok hE
  obtain ⟨i0, hi, hz0, hz1, hz2⟩ := info_parts infoS
  obtain ⟨j0, hj, hy0, hy1, hy2⟩ := info_parts infoB
  obtain ⟨v, hv⟩ : ∃ v, w.alloc (.cells #[.int .i64 p, .int .i64 (K : Int), .int .i64 m] TPa) = v := ⟨_, rfl⟩
  obtain ⟨_, e0, hbv⟩ := one_box hv
  have E0 := Lib.hid e0
  have HV := Lib.hid hbv
  have HR := Lib.hid hr
  have HC := Lib.hid hc
  have hS : szN p K m n = szU (unitL (layI p)) K (aheadL (layI p) + n) := (szE_ok hmay hn).1
  have hS2 := szU_le (u := unitL (layI p)) (K := K) (m := aheadL (layI p) + n) (unitL_pos _).1 k1
  have hu := unitL_pos (layI p)
  have ha4 := aheadL_le (layI p)
  rw [← hS] at hS2
  have hEE : splN p K m n = K := (if_pos hE).trans (Int.toNat_natCast K)
  have HE := Lib.hid (show ∀ v w', RowsTold K (splF p (szN p K m n) n f) (fun _ => szN p K m n) w v w' → SplitSaid p K m n f w (.returned (.tuple #[v, .int .i64 0])) w' from fun v w' h => ⟨_, by rw [hE], by rw [hEE]; exact h⟩)
  have HSZ := Lib.hid (rsize11 p K m n v)
  unfold SizeSaid at HSZ
  obtain ⟨S, hSS⟩ : ∃ S, szN p K m n = S := ⟨_, rfl⟩
  rw [hE, hSS] at HSZ
  rw [hSS] at HE hS2
  have s2 : S ≤ 5000 := by omega
  obtain ⟨L, hL⟩ : ∃ L, aheadL (layI p) + n = L := ⟨_, rfl⟩
  obtain ⟨G, hG⟩ : ∃ G, laidB (aheadL (layI p)) n f = G := ⟨_, rfl⟩
  have hL2 : L ≤ 5000 := by omega
  have HG0 := Lib.hid (show ∀ i, L ≤ i → G i = 0 from fun i h => by rw [← hG]; exact laidB_out (by omega))
  have HGL := Lib.hid (show ∀ i, G i < 256 from fun i => by rw [← hG]; exact laidB_lt hf i)
  have HLD := Lib.hid (fun w1 hr => rlaid28 b p K m f B n cb hn hc w1 hr)
  have HFG := Lib.hid (show splF p S n f = fun r j => G (r * S + j) by rw [← hG]; rfl)
  unfold RLaidSaid at HLD
  rw [hL, hG] at HLD
  clear e0 hbv hr hc hS hS2 hu hEE hSS hmay hE hL hG ha4 hf
  obtain ⟨d0, d1, d2⟩ := box_three E0.out
  go_enter Tryd.func13, Tryd.ntmps13
  go_wp2_with fail
  refine HSZ.out.mono ?_
  rintro e w1 ⟨rfl, hb1⟩
  have H1 := Lib.hid (below_tr HV.out hb1)
  have E1 := Lib.hid (kept_box E0.out hb1)
  clear hb1 d0 d1 d2 HSZ
  obtain ⟨d0, d1, d2⟩ := box_three E1.out
  go_wp2_with fail
  refine (HLD.out w1 (HR.out.below H1.out)).mono ?_
  rintro e w2 ⟨A, rfl, happ⟩
  have H2 := Lib.hid (below_tr H1.out happ.2)
  have E2 := Lib.hid (kept_box E1.out happ.2)
  have hp1 : 0 < w1.heap.size := Nat.lt_of_lt_of_le h0 H1.out.size
  obtain ⟨A, c, rfl, _, hrd⟩ := happ.rd hp1
  have HRD := Lib.hid hrd
  have hp2 : 0 < w2.heap.size := Nat.lt_of_lt_of_le h0 H2.out.size
  clear happ hrd d0 d1 d2 HLD HR HC hp1
  go_wp2_with fail
  go_loopw [9, 10] (fun s9 s10 wr => ∃ i : Nat, i ≤ K ∧ s10 = .int .i64 i ∧ BApp w2 (fun r j => G (r * S + j)) (fun _ => S) i s9 wr) (fun _ s10 _ => K - (intOf s10).toNat)
  case atStart => exact ⟨0, Nat.zero_le _, rfl, BApp.start _ _ _⟩
  case round =>
    obtain ⟨i, hiK, rfl, happ⟩ := hrel
    obtain ⟨wi, hwi⟩ : ∃ wi, wi = wr := ⟨_, rfl⟩
    subst hwi
    have HAPP := Lib.hid happ
    have HBI := Lib.hid happ.1
    obtain ⟨d0, d1, d2⟩ := box_three (kept_box E2.out happ.1)
    have hsz := happ.1.size
    clear happ
    by_cases hlt : i < K
    · obtain ⟨x, hx⟩ : ∃ x, i * S = x := ⟨_, rfl⟩
      have HX := Lib.hid hx
      have hx4 : x ≤ 40000 := by rw [← hx]; exact Nat.le_trans (Nat.mul_le_mul (show i ≤ 8 by omega) s2) (by omega)
      have HWX := Lib.hid (show wrap64 ((i : Int) * (S : Int)) = (x : Int) by
        rw [← Int.natCast_mul, hx]
        exact wrap64_n _ (by omega))
      clear hx
      go_wp2_with fail
      go_loopw [11, 12] (fun s11 s12 wr => RSplIn S i G wi s11 s12 wr) (fun _ s12 _ => S - (intOf s12).toNat)
      case atStart => exact ⟨0, Nat.zero_le _, rfl, App.start _ _ _⟩
      case round =>
        obtain ⟨j, hjS, rfl, ha⟩ := hrel
        have HAJ := Lib.hid ha
        have hsz2 := ha.2.size
        by_cases hlt2 : j < S
        · obtain ⟨q, hq⟩ : ∃ q, x + j = q := ⟨_, rfl⟩
          have hwq : wrap64 (wrap64 ((i : Int) * (S : Int)) + (j : Int)) = (q : Int) := by
            rw [HWX.out, ← Int.natCast_add, hq]
            exact wrap64_n _ (by omega)
          have HQ := Lib.hid hq
          clear hq
          by_cases hin : q < L
          · obtain ⟨ad, rfl, hcell⟩ := (HRD.out.below (below_tr HBI.out ha.2)).at_ hin
            simp only [u8s] at hcell
            have hy := HGL.out q
            have HXJ := Lib.hid (show (u8s fun j => G (i * S + j)) j = .int .u8 ((G q : Nat) : Int) by simp only [u8s]; rw [HX.out, HQ.out])
            obtain ⟨y, hyy⟩ : ∃ y, G q = y := ⟨_, rfl⟩
            rw [hyy] at hcell hy HXJ
            clear hyy ha
            go_wp2_with (at_builtin; refine wpList_append_own _ rfl (.tmp 54) (.tmp 56) TBs rfl wi.heap.size TB j0 (.int .u8 0) 1 1 Tryd.underlying24 hj hy0 hy1 hy2 rfl (by decide) _ _ _ rfl (HAJ.out.1.alloc _) ⟨wr.heap.size, 0, none⟩ 1 1 [(u8s fun j => G (i * S + j)) j] rfl rfl (news_one HXJ.out.symm) (one_u8 _) (by unfold maxLen; omega) (by omega) (by simp; omega) ?_)
            intro v' w3 hown' hgrow _
            have HS := Lib.hid (show RSplIn S i G wi v' (.int .i64 ((j : Int) + 1)) w3 from ⟨j + 1, hlt2, rfl, HAJ.out.step hown' hgrow⟩)
            clear hown' hgrow
            go_wp2_with fail
            exact ⟨HS.out, by simp [intOf]; omega⟩
          · have HXJ := Lib.hid (show (u8s fun j => G (i * S + j)) j = .int .u8 0 by simp only [u8s]; rw [HX.out, HQ.out, HG0.out _ (by omega)]; rfl)
            clear ha
            go_wp2_with (at_builtin; refine wpList_append_own _ rfl (.tmp 54) (.tmp 56) TBs rfl wi.heap.size TB j0 (.int .u8 0) 1 1 Tryd.underlying24 hj hy0 hy1 hy2 rfl (by decide) _ _ _ rfl (HAJ.out.1.alloc _) ⟨wr.heap.size, 0, none⟩ 1 1 [(u8s fun j => G (i * S + j)) j] rfl rfl (news_one HXJ.out.symm) (one_u8 _) (by unfold maxLen; omega) (by omega) (by simp; omega) ?_)
            intro v' w3 hown' hgrow _
            have HS := Lib.hid (show RSplIn S i G wi v' (.int .i64 ((j : Int) + 1)) w3 from ⟨j + 1, hlt2, rfl, HAJ.out.step hown' hgrow⟩)
            clear hown' hgrow
            go_wp2_with fail
            exact ⟨HS.out, by simp [intOf]; omega⟩
        · obtain rfl : S = j := by omega
          obtain ⟨hb0, As0, Cs0, hown0, hrow0⟩ := HAPP.out.below ha.2
          obtain ⟨_, _, _, hlo, _⟩ := HAPP.out
          obtain ⟨A', c', e', _, _⟩ := ha.rd (show 0 < wi.heap.size by omega)
          subst e'
          have HRY := Lib.hid (show ∀ g, (g < w2.heap.size ∨ u9.ownBlock = some g) → Rd g wr (u8s fun j => G (i * S + j)) A' S from fun g hg' => by
            have hgl : g < wi.heap.size := by
              rcases hg' with hg' | hg'
              · omega
              · exact (hlo.lt g hg').2
            obtain ⟨A2, c2, e2, _, h2⟩ := ha.rd hgl
            injection e2 with e2
            subst e2
            exact h2)
          have HBB := Lib.hid hb0
          have HOWN := Lib.hid hown0
          have HROW := Lib.hid hrow0
          have hsz3 := hb0.size
          clear hb0 hown0 hrow0 hlo ha
          go_wp2_with (at_builtin; refine wpList_append_lies _ rfl _ _ TRs rfl w2.heap.size TBs i0 nilS 1 24 Tryd.underlying31 hi hz0 hz1 hz2 rfl (by decide) _ i _ rfl (HOWN.out.alloc _) ⟨wr.heap.size, 0, none⟩ 1 1 [.slice A' S c'] rfl rfl (news_one rfl) (one_slice' _ _ _) (by omega) (by unfold maxLen; omega) (by omega) (by simp; omega) _ rfl ?_)
          intro g' cap' w3 hown2 hgr2 hg2 _
          have HS := Lib.hid (BApp.step (F := fun r j => G (r * S + j)) (Ls := fun _ => S) hp2 HBB.out HOWN.out HROW.out rfl HRY.out hown2 hgr2 hg2)
          clear hown2 hgr2 hg2
          go_wp2_with fail
          exact ⟨⟨i + 1, hlt, by go_num, HS.out⟩, by simp [intOf]; omega⟩
    · obtain rfl : K = i := by omega
      have HQ := Lib.hid (fun v (h : BApp w2 (fun r j => G (r * S + j)) (fun _ => S) K v wi) => HE.out v wi (by rw [HFG.out]; exact (h.told hp2).from H2.out))
      go_wp2_with fail
      go_ret2
      exact HQ.out _ HAPP.out

theorem rsplit13 (b : Nat) (p k m : Int) (f : Nat → Nat) (hf : ∀ j, f j < 256) (B : Option Addr) (n cb : Nat) (hc : B = none → cb = 0) (w : World) (h0 : 0 < w.heap.size) (hr : Rd b w (u8s f) B n) :
    Calls Tryd.prog 13 #[.agg (parA p k m), .slice B n cb] w (SplitSaid p k m n f w) := by
  by_cases hE : szE p k m n = 0
  · exact rsplit_yes b p k m f hf B n cb hc w h0 hr hE
  · exact rsplit_no p k m f B n cb w hE
end Go.Proofs.YtalallkpejlclaaDoor
