/- Contracts of package matrix: rows joined, and a column multiplied. -/
import Derived.Test.YtmpamgnbbomoaaaMtg
import Derived.Lib.AppendZeros
import Derived.Deep.RegionHeld3
namespace Go.Proofs.Ytmpamgnbbomoaaa
open Go.RowKit

abbrev TMs : Nat := 86

set_option maxRecDepth 100000 in
set_option maxHeartbeats 1000000 in
/-- Grow, of nothing -/
theorem grow39 (N : Nat) (h0 : 0 < N) (hN : N ≤ 1000) (w : World) :
    Calls Try.prog 47 #[nilS, .int .i64 N] w fun e w' => ∃ v, e = .returned v ∧ w'.ownsRow w.heap.size TIs 1 v 0 [] ∧ Below w.heap.size w w' := by
  obtain ⟨i0, hi, hz0, hz1, hz2⟩ := info_parts infoRow
  have hrun := Lib.run_append_nil_zeros (P := Try.prog) w TM TI TM TIs i0 nilS .i64 .i64 underM' Try.underlying3 hi hz0 N h0 (by omega) (by omega) (by rw [hz2]; omega)
  have hge := grownCap_ge w N 0 TIs
  have hle := grownCap_le_maxLen w N 0 TIs (by unfold maxLen; omega)
  obtain ⟨c, hc⟩ : ∃ c, grownCap w N 0 TIs = c := ⟨_, rfl⟩
  obtain ⟨cur, hcur⟩ : ∃ cur, Builtin.zeroCells nilS.cells N ++ Builtin.zeroCells nilS.cells (grownCap w N 0 TIs - N) = cur := ⟨_, rfl⟩
  have hsz : cur.size = c := by
    rw [← hcur, ← hc, Array.size_append, size_zeroCells, size_zeroCells]
    simp [Value.cells]
    omega
  rw [hcur, hc] at hrun
  rw [hc] at hge hle
  have HE : Hid ((w.drew.alloc (.cells cur TIs)).ownsRow w.heap.size TIs 1 (.slice (some ⟨w.heap.size, 0, none⟩) 0 c) 0 [] ∧ Below w.heap.size w (w.drew.alloc (.cells cur TIs))) :=
    Lib.hid ⟨⟨rfl, Or.inr ⟨w.heap.size, c, cur, rfl, Nat.le_refl _, World.alloc_heap_new w.drew _, Nat.zero_le _, hle, by rw [hsz, Nat.mul_one], rfl⟩⟩, (Below.refl _ w).drew.alloc (Nat.le_refl _) _⟩
  clear hcur hc
  have HRUN := Lib.hid hrun
  clear hrun
  go_enter Try.func47, Try.ntmps47
  go_wp2_with (at_builtin; refine Lib.wpList_append_run _ rfl _ _ _ _ rfl _ _ rfl rfl _ _ HRUN.out ?_)
  go_ret
  exact ⟨_, rfl, HE.out⟩

/-- two rows of values, one behind the other -/
def joinV (n : Nat) (K L : Nat → Value) (r : Nat) : Value := if r < n then K r else L (r - n)
theorem joinV_all (n m : Nat) (K L : Nat → Value) : (List.range (n + m)).map (joinV n K L) = (List.range n).map K ++ (List.range m).map L := by
  rw [List.range_add, List.map_append, List.map_map]
  congr 1
  · exact List.map_congr_left (fun r hr => by simp only [joinV]; rw [if_pos (List.mem_range.1 hr)])
  · exact List.map_congr_left (fun r _ => by simp only [joinV, Function.comp]; rw [if_neg (by omega), Nat.add_sub_cancel_left])
theorem one_slis (As : Nat → Option Addr) (Ls Cs : Nat → Nat) (j : Nat) : (slis As Ls Cs j).oneCell' = true := rfl

/-- in Concat's second loop -/
def CatAt (n k : Nat) (K L : Nat → Value) (w0 : World) (s6 s27 : Value) (wr : World) : Prop :=
  Below w0.heap.size w0 wr ∧ ((s27 = .int .i64 0 ∧ wr.ownsRow w0.heap.size TIs 1 s6 0 []) ∨ (s27 = .int .i64 1 ∧ wr.ownsRow w0.heap.size TIs 1 s6 n ((List.range n).map K)) ∨ (s27 = .int .i64 2 ∧ wr.ownsRow w0.heap.size TIs 1 s6 (n + k) ((List.range n).map K ++ (List.range k).map L)))

set_option maxRecDepth 100000 in
set_option maxHeartbeats 2000000 in
theorem concat30 (b : Nat) (As Bs : Nat → Option Addr) (La Ca Lb Cb : Nat → Nat) (ad ad' : Addr) (n k ca cb g : Nat) (hn : n ≤ 100) (hk : k ≤ 100) (hnk : 0 < n + k) (w : World) (hb : b < w.heap.size) (h1 : Rd b w (slis As La Ca) (some ad) n) (h2 : Rd b w (slis Bs Lb Cb) (some ad') k)
    (c0 : w.cell? ⟨g, 0, none⟩ = some (.slice (some ad) n ca)) (c1 : w.cell? ⟨g, 1, none⟩ = some (.slice (some ad') k cb)) :
    Calls Try.prog 31 #[.slice (some ⟨g, 0, none⟩) 2 2] w fun e w' => ∃ A c, e = .returned (.slice A (n + k) c) ∧ Rd b w' (joinV n (slis As La Ca) (slis Bs Lb Cb)) A (n + k) ∧ Below w.heap.size w w' := by
  obtain ⟨i0, hi, hz0, hz1, hz2⟩ := info_parts infoRow
  have H1 := Lib.hid h1
  have H2 := Lib.hid h2
  have hgl := World.block_lt_of_cell? w _ c0
  clear h1 h2
  go_enter Try.func31, Try.ntmps31
  go_wp2_with fail
  go_loop [3, 11] (fun s3 s11 => (s11 = .int .i64 0 ∧ s3 = .int .i64 0) ∨ (s11 = .int .i64 1 ∧ s3 = .int .i64 n) ∨ (s11 = .int .i64 2 ∧ s3 = .int .i64 (n + k : Nat))) (fun _ s11 => 2 - (intOf s11).toNat)
  case atStart => exact Or.inl ⟨rfl, rfl⟩
  case round =>
    rcases hrel with ⟨rfl, rfl⟩ | ⟨rfl, rfl⟩ | ⟨rfl, rfl⟩
    · have hd : decide ((n : Int) < 0) = false := by simp
      go_wp2_with fail
      exact ⟨Or.inr (Or.inl ⟨by go_num, by go_num⟩), by simp [intOf]⟩
    · have hd : decide ((n : Int) + (k : Int) < 0) = false := by simp; omega
      go_wp2_with fail
      exact ⟨Or.inr (Or.inr ⟨by go_num, by go_num⟩), by simp [intOf]⟩
    · go_wp2_with fail
      refine (grow39 (n + k) hnk (by omega) _).mono ?_
      rintro e w1 ⟨v, rfl, hown, hb1⟩
      have HST := Lib.hid (show CatAt n k (slis As La Ca) (slis Bs Lb Cb) w v (.int .i64 0) w1 from ⟨hb1, Or.inl ⟨rfl, hown⟩⟩)
      clear hown hb1
      go_wp2_with fail
      go_loopw [6, 27] (fun s6 s27 wr => CatAt n k (slis As La Ca) (slis Bs Lb Cb) w s6 s27 wr) (fun _ s27 _ => 2 - (intOf s27).toNat)
      case atStart => exact HST.out
      case round =>
        clear HST
        obtain ⟨hbel, hrel⟩ := hrel
        have HBEL := Lib.hid hbel
        have d0 : wr.cell? ⟨g, 0, none⟩ = some (.slice (some ad) n ca) := (hbel.cell hgl).trans c0
        have d1 : wr.cell? ⟨g, 1, none⟩ = some (.slice (some ad') k cb) := (hbel.cell hgl).trans c1
        have hsz := hbel.size
        clear hbel
        rcases hrel with ⟨rfl, hown⟩ | ⟨rfl, hown⟩ | ⟨rfl, hown⟩
        · have HO := Lib.hid hown
          clear hown
          go_wp2_with (at_builtin; refine append_rd _ rfl _ _ TM rfl w.heap.size TIs i0 nilS 24 underM' hi hz0 hz1 hz2 rfl _ _ _ rfl HO.out b _ _ _ _ rfl (fun h => by cases h) (H1.out.below HBEL.out) (one_slis _ _ _) (by unfold maxLen; omega) (by omega) hsz ?_)
          intro v' w2 hown2 hgr
          have HS := Lib.hid (show CatAt n k (slis As La Ca) (slis Bs Lb Cb) w v' (.int .i64 1) w2 from ⟨HBEL.out.grown hgr hsz (fun q hq => (HO.out.lt q hq).1), Or.inr (Or.inl ⟨rfl, hown2⟩)⟩)
          clear hown2 hgr
          go_wp2_with fail
          exact ⟨HS.out, by simp [intOf]⟩
        · have HO := Lib.hid hown
          clear hown
          go_wp2_with (at_builtin; refine append_rd _ rfl _ _ TM rfl w.heap.size TIs i0 nilS 24 underM' hi hz0 hz1 hz2 rfl _ _ _ rfl HO.out b _ _ _ _ rfl (fun h => by cases h) (H2.out.below HBEL.out) (one_slis _ _ _) (by unfold maxLen; omega) (by omega) hsz ?_)
          intro v' w2 hown2 hgr
          have HS := Lib.hid (show CatAt n k (slis As La Ca) (slis Bs Lb Cb) w v' (.int .i64 2) w2 from ⟨HBEL.out.grown hgr hsz (fun q hq => (HO.out.lt q hq).1), Or.inr (Or.inr ⟨rfl, hown2⟩)⟩)
          clear hown2 hgr
          go_wp2_with fail
          exact ⟨HS.out, by simp [intOf]⟩
        · rw [← joinV_all] at hown
          obtain ⟨A', c', rfl, _, hrd⟩ := Rd.of_own hown hb
          have HRD := Lib.hid hrd
          clear hown hrd
          go_wp2_with fail
          go_ret
          exact ⟨A', c', rfl, HRD.out, HBEL.out⟩

theorem may_yes (b wd c : Nat) (hk : Kind wd c) (F : Nat → Nat → Int) (Ls : Nat → Nat) (A : Option Addr) (n cap : Nat) (w : World) (hc : w.cell? ⟨b, 0, none⟩ = some (.int .i64 wd)) (hr : Mx b w F Ls A n) (h : mayP c n Ls F) :
    Calls Try.prog 22 #[.pointer (some ⟨b, 0, none⟩), .slice A n cap] w fun e w' => e = .returned (.bool true) ∧ w = w' :=
  (may16 b wd c hk F Ls A n cap w hc hr).mono fun e w' ⟨t, he, ht, hw⟩ => ⟨by rw [he, ht.2 h], hw⟩
theorem may_no (b wd c : Nat) (hk : Kind wd c) (F : Nat → Nat → Int) (Ls : Nat → Nat) (A : Option Addr) (n cap : Nat) (w : World) (hc : w.cell? ⟨b, 0, none⟩ = some (.int .i64 wd)) (hr : Mx b w F Ls A n) (h : ¬ mayP c n Ls F) :
    Calls Try.prog 22 #[.pointer (some ⟨b, 0, none⟩), .slice A n cap] w fun e w' => e = .returned (.bool false) ∧ w = w' :=
  (may16 b wd c hk F Ls A n cap w hc hr).mono fun e w' ⟨t, he, ht, hw⟩ => ⟨by
    cases t
    · exact he
    · exact absurd (ht.1 rfl) h, hw⟩

/-- rows may be joined -/
def joinP (c n : Nat) (La : Nat → Nat) (F : Nat → Nat → Int) (k : Nat) (Lb : Nat → Nat) (G : Nat → Nat → Int) : Prop := mayP c n La F ∧ mayP c k Lb G ∧ La 0 = Lb 0 ∧ n + k ≤ 20
/-- two matrices' rows, one behind the other -/
def joinF (n : Nat) (F G : Nat → Nat → Int) (r : Nat) : Nat → Int := if r < n then F r else G (r - n)
def joinL (n : Nat) (La Lb : Nat → Nat) (r : Nat) : Nat := if r < n then La r else Lb (r - n)
/-- what Join tells -/
def JoinAny (c n : Nat) (La : Nat → Nat) (F : Nat → Nat → Int) (k : Nat) (Lb : Nat → Nat) (G : Nat → Nat → Int) (w : World) (e : Ending) (w' : World) : Prop :=
  ∃ t v, e = .returned (.tuple #[v, .int .i64 (errOf t)]) ∧ (t = true ↔ joinP c n La F k Lb G) ∧ MatTold (cond t (n + k) 0) (joinF n F G) (joinL n La Lb) w v w'
theorem JoinAny.no {c n : Nat} {La : Nat → Nat} {F : Nat → Nat → Int} {k : Nat} {Lb : Nat → Nat} {G : Nat → Nat → Int} {w w' : World} (h : ¬ joinP c n La F k Lb G) (hb : Below w.heap.size w w') : JoinAny c n La F k Lb G w (.returned (.tuple #[nilS, .int .i64 1])) w' :=
  ⟨false, _, rfl, by simp [h], MatTold.nil hb⟩

theorem side_yes (n : Nat) (h : side n) (w : World) : Calls Try.prog 23 #[.int .i64 n] w fun e w' => e = .returned (.bool true) ∧ w = w' :=
  (side28 n w).mono fun e w' ⟨t, he, ht, hw⟩ => ⟨by rw [he, ht.2 h], hw⟩
theorem side_no (n : Nat) (h : ¬ side n) (w : World) : Calls Try.prog 23 #[.int .i64 n] w fun e w' => e = .returned (.bool false) ∧ w = w' :=
  (side28 n w).mono fun e w' ⟨t, he, ht, hw⟩ => ⟨by
    cases t
    · exact he
    · exact absurd (ht.1 rfl) h, hw⟩

set_option maxRecDepth 100000 in
set_option maxHeartbeats 4000000 in
theorem join14 (b wd c : Nat) (hk : Kind wd c) (F G : Nat → Nat → Int) (La Lb : Nat → Nat) (A B : Option Addr) (n k ca cb : Nat) (w : World) (hc : w.cell? ⟨b, 0, none⟩ = some (.int .i64 wd)) (ha : Mx b w F La A n) (hb : Mx b w G Lb B k) :
    Calls Try.prog 17 #[.pointer (some ⟨b, 0, none⟩), .slice A n ca, .slice B k cb] w (JoinAny c n La F k Lb G w) := by
  have hbw : b < w.heap.size := World.block_lt_of_cell? w _ hc
  have HA := Lib.hid ha
  have HB := Lib.hid hb
  by_cases h1 : mayP c n La F
  · by_cases h2 : mayP c k Lb G
    · have hn1 := h1.1.1
      have hn2 := h1.1.2
      have hk1 := h2.1.1
      have hk2 := h2.1.2
      have H1 := Lib.hid h1
      have H2 := Lib.hid h2
      obtain ⟨As, Ca, ra, ra2⟩ := ha
      obtain ⟨Bs, Cb, rb, rb2⟩ := hb
      obtain ⟨ad, rfl, hc1⟩ := ra.at_ (show 0 < n by omega)
      obtain ⟨ad', rfl, hc2⟩ := rb.at_ (show 0 < k by omega)
      rw [show ad.add 0 = ad by simp [Addr.add]] at hc1
      rw [show ad'.add 0 = ad' by simp [Addr.add]] at hc2
      simp only [slis] at hc1 hc2
      have RA := Lib.hid ra
      have RA2 := Lib.hid ra2
      have RB := Lib.hid rb
      have RB2 := Lib.hid rb2
      have hn0 : (0 : Int) < (n : Int) := by omega
      have hk0 : (0 : Int) < (k : Int) := by omega
      clear ra ra2 rb rb2
      by_cases h3 : La 0 = Lb 0
      · have hne : (((La 0 : Nat) : Int) != ((Lb 0 : Nat) : Int)) = false := by simp [h3]
        have H3 := Lib.hid h3
        by_cases h4 : n + k ≤ 20
        · have H4 := Lib.hid (show side (n + k) from ⟨by omega, h4⟩)
          clear h1 h2 h3
          go_enter Try.func17, Try.ntmps17
          go_wp2_with fail
          go_quiet (first
            | (go_at_call_of 22 (Value.slice (some ad) n ca); exact quiet_same (may_yes b wd c hk F La (some ad) n ca _ hc (HA.out.below (below_drewN' _ _)) H1.out))
            | (go_at_call_of 22 (Value.slice (some ad') k cb); exact quiet_same (may_yes b wd c hk G Lb (some ad') k cb _ hc (HB.out.below (below_drewN' _ _)) H2.out))
            | (go_at_call 23; exact quiet_same (side_yes (n + k) H4.out _)))
          have HBQ := Lib.hid (below_drewN' w nq)
          generalize w.drewN nq = w1 at *
          clear HA HB
          have hrow := World.rowIs_alloc w1 #[.slice (some ad) n ca, .slice (some ad') k cb] TM (fun j => if j = 0 then .slice (some ad) n ca else .slice (some ad') k cb) (fun i hi => by
            simp at hi
            match i, hi with
            | 0, _ => rfl
            | 1, _ => rfl)
          have e0 : (w1.alloc (.cells #[.slice (some ad) n ca, .slice (some ad') k cb] TM)).cell? ⟨w1.heap.size, 0, none⟩ = some (.slice (some ad) n ca) := hrow.cell (i := 0) (by simp)
          have e1 : (w1.alloc (.cells #[.slice (some ad) n ca, .slice (some ad') k cb] TM)).cell? ⟨w1.heap.size, 1, none⟩ = some (.slice (some ad') k cb) := hrow.cell (i := 1) (by simp)
          have HB2 := Lib.hid (below_tr HBQ.out (below_alloc w1 (.cells #[.slice (some ad) n ca, .slice (some ad') k cb] TM)))
          clear hrow
          go_wp2_with fail
          refine (concat30 b As Bs La Ca Lb Cb ad ad' n k ca cb w1.heap.size (by omega) (by omega) (by omega) _ (Nat.lt_of_lt_of_le hbw HB2.out.size) (RA.out.below HB2.out) (RB.out.below HB2.out) e0 e1).mono ?_
          rintro e w2 ⟨A', c', rfl, hrd, hb2⟩
          have hB3 := below_tr HB2.out hb2
          have HB3 := Lib.hid hB3
          have HMX : Hid (Mx b w2 (joinF n F G) (joinL n La Lb) A' (n + k)) := Lib.hid ⟨fun r => if r < n then As r else Bs (r - n), fun r => if r < n then Ca r else Cb (r - n), hrd.congr (fun r _ => by
              simp only [joinV, slis, joinL]
              split <;> rfl), fun r hr => by
              simp only [joinF, joinL]
              by_cases hrn : r < n
              · rw [if_pos hrn, if_pos hrn, if_pos hrn]; exact (RA2.out r hrn).below hB3
              · rw [if_neg hrn, if_neg hrn, if_neg hrn]; exact (RB2.out (r - n) (by omega)).below hB3⟩
          clear hrd hb2 hB3 e0 e1
          go_wp2_with fail
          refine (copied29 b _ _ A' (n + k) c' (by omega) (fun r hr => ?_) _ HMX.out).mono ?_
          · have g1 := H1.out
            have g2 := H2.out
            simp only [joinL]
            split
            · rename_i hrn
              have := (g1.2.2 r hrn).1
              have := g1.2.1.2
              omega
            · have := (g2.2.2 (r - n) (by omega)).1
              have := g2.2.1.2
              omega
          rintro e w3 ⟨v, rfl, hv⟩
          have HE := Lib.hid (show JoinAny c n La F k Lb G w (.returned (.tuple #[v, .int .i64 0])) w3 from ⟨true, v, rfl, by simp [joinP, H1.out, H2.out, H3.out, h4], hv.from HB3.out⟩)
          clear hv
          go_wp2_with fail
          go_ret2
          exact HE.out
        · have HE := Lib.hid (fun q => JoinAny.no (c := c) (n := n) (La := La) (F := F) (k := k) (Lb := Lb) (G := G) (w := w) (w' := w.drewN q) (fun h => h4 h.2.2.2) (below_drewN' _ _))
          have H4 := Lib.hid (show ¬ side (n + k) from fun h => h4 h.2)
          clear h1 h2 h3
          go_enter Try.func17, Try.ntmps17
          go_wp2_with fail
          go_quiet (first
            | (go_at_call_of 22 (Value.slice (some ad) n ca); exact quiet_same (may_yes b wd c hk F La (some ad) n ca _ hc (HA.out.below (below_drewN' _ _)) H1.out))
            | (go_at_call_of 22 (Value.slice (some ad') k cb); exact quiet_same (may_yes b wd c hk G Lb (some ad') k cb _ hc (HB.out.below (below_drewN' _ _)) H2.out))
            | (go_at_call 23; exact quiet_same (side_no (n + k) H4.out _)))
          go_wp2_with fail
          go_ret2
          exact HE.out _
      · have HE := Lib.hid (fun q => JoinAny.no (c := c) (n := n) (La := La) (F := F) (k := k) (Lb := Lb) (G := G) (w := w) (w' := w.drewN q) (fun h => h3 h.2.2.1) (below_drewN' _ _))
        have hne : (((La 0 : Nat) : Int) != ((Lb 0 : Nat) : Int)) = true := by simp; omega
        clear h1 h2 h3
        go_enter Try.func17, Try.ntmps17
        go_wp2_with fail
        go_quiet (first
          | (go_at_call_of 22 (Value.slice (some ad) n ca); exact quiet_same (may_yes b wd c hk F La (some ad) n ca _ hc (HA.out.below (below_drewN' _ _)) H1.out))
          | (go_at_call_of 22 (Value.slice (some ad') k cb); exact quiet_same (may_yes b wd c hk G Lb (some ad') k cb _ hc (HB.out.below (below_drewN' _ _)) H2.out)))
        go_wp2_with fail
        go_ret2
        exact HE.out _
    · have HE := Lib.hid (fun q => JoinAny.no (c := c) (n := n) (La := La) (F := F) (k := k) (Lb := Lb) (G := G) (w := w) (w' := w.drewN q) (fun h => h2 h.2.1) (below_drewN' _ _))
      have H1 := Lib.hid h1
      have H2 := Lib.hid h2
      clear ha hb h1 h2
      go_enter Try.func17, Try.ntmps17
      go_wp2_with fail
      go_quiet (first
        | (go_at_call_of 22 (Value.slice A n ca); exact quiet_same (may_yes b wd c hk F La A n ca _ hc (HA.out.below (below_drewN' _ _)) H1.out))
        | (go_at_call_of 22 (Value.slice B k cb); exact quiet_same (may_no b wd c hk G Lb B k cb _ hc (HB.out.below (below_drewN' _ _)) H2.out)))
      go_wp2_with fail
      go_ret2
      exact HE.out _
  · have HE := Lib.hid (fun q => JoinAny.no (c := c) (n := n) (La := La) (F := F) (k := k) (Lb := Lb) (G := G) (w := w) (w' := w.drewN q) (fun h => h1 h.1) (below_drewN' _ _))
    have H1 := Lib.hid h1
    clear ha hb h1
    go_enter Try.func17, Try.ntmps17
    go_wp2_with fail
    go_quiet ((go_at_call 22; exact quiet_same (may_no b wd c hk F La A n ca _ hc (HA.out.below (below_drewN' _ _)) H1.out)))
    go_wp2_with fail
    go_ret2
    exact HE.out _

/-- what Apply tells -/
def AppAny (p b wd n : Nat) (La : Nat → Nat) (F : Nat → Nat → Int) (m : Nat) (l : Nat → Int) (w : World) (e : Ending) (w' : World) : Prop :=
  ∃ t A c, e = .returned (.tuple #[.slice A (cond t n 0) c, .int .i64 (errOf t)]) ∧ (t = true ↔ mayP (M.ord p) n La F ∧ La 0 = m ∧ allIn (M.ord p) l m) ∧ Rd b w' (i64s (fun r => (dotN p (F r) l m : Nat))) A (cond t n 0) ∧ Fld p b wd w' ∧ Turned b w w'
theorem AppAny.no {p b wd n : Nat} {La : Nat → Nat} {F : Nat → Nat → Int} {m : Nat} {l : Nat → Int} {w : World} (hf : Fld p b wd w) (h : ¬ (mayP (M.ord p) n La F ∧ La 0 = m ∧ allIn (M.ord p) l m)) : AppAny p b wd n La F m l w (.returned (.tuple #[nilS, .int .i64 1])) w :=
  ⟨false, none, 0, rfl, by simp [h], Rd.zero, hf, Turned.refl _ _⟩
/-- in Apply's loop -/
def AppAt (p b wd n : Nat) (F : Nat → Nat → Int) (m : Nat) (l : Nat → Int) (w : World) (s35 : Value) (wr : World) : Prop :=
  ∃ k : Nat, k ≤ n ∧ s35 = .int .i64 k ∧ wr.rowIs w.heap.size TI n (fun r => .int .i64 (if r < k then (dotN p (F r) l m : Nat) else 0)) ∧ Fld p b wd wr ∧ Turned b w wr

theorem rowIs_kind {w : World} {g t t' n n' : Nat} {k k' : Nat → Value} (h : w.rowIs g t n k) (h' : w.rowIs g t' n' k') : t = t' := by
  obtain ⟨c, h1, _⟩ := h
  obtain ⟨c', h2, _⟩ := h'
  rw [h1] at h2
  injection h2 with h2
  injection h2
/-- a store into a row of another kind leaves the field -/
theorem Fld.setRow {p b wd g m i : Nat} {w : World} {k : Nat → Value} {t : Nat} (h : Fld p b wd w) (hr : w.rowIs g t m k) (h1 : t ≠ TF) (h2 : t ≠ T16) (v : Value) : Fld p b wd (w.setCell ⟨g, i, none⟩ v) := by
  refine ⟨h.1, ?_⟩
  rcases h.2 with h | ⟨x, y, g1, g2, r1, r2, r3⟩
  · refine Or.inl (World.rowIs.setOther h (a := ⟨g, i, none⟩) ?_ v)
    rintro rfl
    exact h1 (rowIs_kind hr h)
  · refine Or.inr ⟨x, y, g1, g2, r1.setOther (a := ⟨g, i, none⟩) ?_ v, r2.setOther (a := ⟨g, i, none⟩) ?_ v, r3.setOther (a := ⟨g, i, none⟩) ?_ v⟩
    · rintro rfl
      exact h1 (rowIs_kind hr r1)
    · rintro rfl
      exact h2 (rowIs_kind hr r2)
    · rintro rfl
      exact h2 (rowIs_kind hr r3)
theorem Turned.set_new {b g i : Nat} {w w' : World} (h : Turned b w w') (hg : w.heap.size ≤ g) (v : Value) : Turned b w (w'.setCell ⟨g, i, none⟩ v) :=
  ⟨h.os, h.tape, h.output, by simpa [World.setCell] using h.size, fun k hk hb => (Below.heap_setCell _ _ _ _ (by simp; omega)).trans (h.block k hk hb)⟩

theorem appAt_step {p b wd n : Nat} {F : Nat → Nat → Int} {m : Nat} {l : Nat → Int} {w wr : World} {k : Nat} (hk : k < n) (hrow : wr.rowIs w.heap.size TI n (fun r => .int .i64 (if r < k then (dotN p (F r) l m : Nat) else 0))) (hf : Fld p b wd wr) (ht : Turned b w wr) :
    AppAt p b wd n F m l w (.int .i64 (k + 1 : Nat)) (wr.setCell ⟨w.heap.size, k, none⟩ (.int .i64 (dotN p (F k) l m : Nat))) := by
  refine ⟨k + 1, hk, rfl, (hrow.set k _).congr (fun r _ => ?_), hf.setRow hrow (by decide) (by decide) _, ht.set_new (Nat.le_refl _) _⟩
  rcases Nat.lt_trichotomy r k with h | h | h
  · rw [if_neg (by omega), if_pos h, if_pos (by omega)]
  · subst h; rw [if_pos rfl, if_pos (by omega)]
  · rw [if_neg (by omega), if_neg (by omega), if_neg (by omega)]
end Go.Proofs.Ytmpamgnbbomoaaa
