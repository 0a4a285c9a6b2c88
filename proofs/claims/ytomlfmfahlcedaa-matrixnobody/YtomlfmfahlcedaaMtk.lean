/- Contracts of gambrelref04: Join, the identity, Mul and Apply. -/
import Derived.Test.YtomlfmfahlcedaaMtj
import Derived.Test.YtomlfmfahlcedaaXor
namespace Go.Proofs.Ytomlfmfahlcedaa
open Go.RowKit

theorem rmay_yes (b wd c : Nat) (hk : Kind wd c) (F : Nat → Nat → Int) (Ls : Nat → Nat) (A : Option Addr) (n cap : Nat) (w : World) (hr : Mx b w F Ls A n) (h : mayP c n Ls F) :
    Calls Try.prog 17 #[.int .i64 wd, .slice A n cap] w fun e w' => e = .returned (.bool true) ∧ ∃ m, w' = w.drewN m :=
  (rmay17 b wd c hk F Ls A n cap w hr).mono fun e w' ⟨t, he, ht, hw⟩ => ⟨by rw [he, ht.2 h], hw⟩
theorem rmay_no (b wd c : Nat) (hk : Kind wd c) (F : Nat → Nat → Int) (Ls : Nat → Nat) (A : Option Addr) (n cap : Nat) (w : World) (hr : Mx b w F Ls A n) (h : ¬ mayP c n Ls F) :
    Calls Try.prog 17 #[.int .i64 wd, .slice A n cap] w fun e w' => e = .returned (.bool false) ∧ ∃ m, w' = w.drewN m :=
  (rmay17 b wd c hk F Ls A n cap w hr).mono fun e w' ⟨t, he, ht, hw⟩ => ⟨by
    cases t
    · exact he
    · exact absurd (ht.1 rfl) h, hw⟩

/-- what Join of the document tells -/
def RJoinAny (b c n : Nat) (La : Nat → Nat) (F : Nat → Nat → Int) (k : Nat) (Lb : Nat → Nat) (G : Nat → Nat → Int) (w : World) (e : Ending) (w' : World) : Prop :=
  ∃ t v, e = .returned (.tuple #[v, .bool t]) ∧ (t = true ↔ joinP c n La F k Lb G) ∧ MTold b (cond t (n + k) 0) (joinF n F G) (joinL n La Lb) w v w'
theorem RJoinAny.no {b c n : Nat} {La : Nat → Nat} {F : Nat → Nat → Int} {k : Nat} {Lb : Nat → Nat} {G : Nat → Nat → Int} {w w' : World} (h : ¬ joinP c n La F k Lb G) (hb : Below w.heap.size w w') : RJoinAny b c n La F k Lb G w (.returned (.tuple #[nilS, .bool false])) w' :=
  ⟨false, _, rfl, by simp [h], MTold.nil hb⟩

set_option maxRecDepth 100000 in
set_option maxHeartbeats 4000000 in
theorem rjoin15 (b wd c : Nat) (hk : Kind wd c) (F G : Nat → Nat → Int) (La Lb : Nat → Nat) (A B : Option Addr) (n k ca cb : Nat) (w : World) (hbw : b < w.heap.size) (ha : Mx b w F La A n) (hb : Mx b w G Lb B k) :
    Calls Try.prog 15 #[.int .i64 wd, .slice A n ca, .slice B k cb] w (RJoinAny b c n La F k Lb G w) := by
  obtain ⟨i0, hi, hz0, hz1, hz2⟩ := info_parts infoRow
  have HA := Lib.hid ha
  have HB := Lib.hid hb
  by_cases h1 : mayP c n La F
  · by_cases h2 : mayP c k Lb G
    · have hn1 := h1.1.1
      have hn2 := h1.1.2
      have hk1 := h2.1.1
      have hk2 := h2.1.2
      have H1 := Lib.hid h1
      have H2 := Lib.hid h2
      obtain ⟨As, Ca, ra, ra2⟩ := ha
      obtain ⟨Bs, Cb, rb, rb2⟩ := hb
      obtain ⟨ad, rfl, hc1⟩ := ra.at_ (show 0 < n by omega)
      obtain ⟨ad', rfl, hc2⟩ := rb.at_ (show 0 < k by omega)
      rw [show ad.add 0 = ad by simp [Addr.add]] at hc1
      rw [show ad'.add 0 = ad' by simp [Addr.add]] at hc2
      simp only [slis] at hc1 hc2
      have RA := Lib.hid ra
      have RA2 := Lib.hid ra2
      have RB := Lib.hid rb
      have RB2 := Lib.hid rb2
      have hn0 : (0 : Int) < (n : Int) := by omega
      have hk0 : (0 : Int) < (k : Int) := by omega
      clear ra ra2 rb rb2
      by_cases h3 : La 0 = Lb 0
      · have hne : (((La 0 : Nat) : Int) != ((Lb 0 : Nat) : Int)) = false := by simp [h3]
        have H3 := Lib.hid h3
        by_cases h4 : n + k ≤ 20
        · have hd4 : decide ((20 : Int) < (n : Int) + (k : Int)) = false := by simp; omega
          clear h1 h2 h3
          go_enter Try.func15, Try.ntmps15
          go_wp2_with fail
          go_quiet (first
            | (go_at_call_of 17 (Value.slice (some ad) n ca); exact Calls.quiet_of (rmay_yes b wd c hk F La (some ad) n ca _ (HA.out.below (below_drewN' _ _)) H1.out))
            | (go_at_call_of 17 (Value.slice (some ad') k cb); exact Calls.quiet_of (rmay_yes b wd c hk G Lb (some ad') k cb _ (HB.out.below (below_drewN' _ _)) H2.out)))
          have HBQ := Lib.hid (below_drewN' w nq)
          generalize w.drewN nq = w1 at *
          clear HA HB
          have hbw1 : b < w1.heap.size := Nat.lt_of_lt_of_le hbw HBQ.out.size
          go_wp2_with (at_builtin; refine append_rd _ rfl (.tmp 38) (.tmp 39) TRI rfl w1.heap.size TIs i0 nilS 24 underRI hi hz0 hz1 hz2 rfl _ 0 [] rfl (World.ownsRow_lit w1 #[] 0 (Nat.le_refl _) (Nat.zero_le _) rfl) b _ _ _ _ rfl (fun h => by cases h) ((RA.out.below HBQ.out).below (below_alloc _ _)) (one_slis _ _ _) (by unfold maxLen; omega) (by omega) (by simp) ?_)
          intro v2 w2 hown2 hgr2
          have hb2 : Below w1.heap.size w1 w2 := (below_alloc w1 _).grown hgr2 (by simp) (fun q h => by simp [Value.ownBlock] at h; omega)
          have HB2 := Lib.hid hb2
          have HB02 := Lib.hid (below_tr HBQ.out hb2)
          have HO2 := Lib.hid hown2
          have hsz2 := hb2.size
          clear hown2 hgr2 hb2
          go_wp2_with (at_builtin; refine append_rd _ rfl (.tmp 41) (.tmp 42) TRI rfl w1.heap.size TIs i0 nilS 24 underRI hi hz0 hz1 hz2 rfl _ _ _ rfl HO2.out b _ _ _ _ rfl (fun h => by cases h) (RB.out.below HB02.out) (one_slis _ _ _) (by unfold maxLen; omega) (by omega) (by omega) ?_)
          intro v3 w3 hown3 hgr3
          have hb3 : Below w1.heap.size w1 w3 := HB2.out.grown hgr3 (by omega) (fun q h => (HO2.out.lt q h).1)
          have hB03 := below_tr HBQ.out hb3
          rw [← joinV_all] at hown3
          obtain ⟨A', c', rfl, hcc, hrd⟩ := Rd.of_own hown3 hbw1
          have HE := Lib.hid (show RJoinAny b c n La F k Lb G w (.returned (.tuple #[.slice A' (n + k) c', .bool true])) w3 from ⟨true, _, rfl, by simp [joinP, H1.out, H2.out, H3.out, h4], A', c', rfl, hcc,
            ⟨fun r => if r < n then As r else Bs (r - n), fun r => if r < n then Ca r else Cb (r - n), hrd.congr (fun r _ => by
              simp only [joinV, slis, joinL]
              split <;> rfl), fun r hr => by
              simp only [joinF, joinL]
              by_cases hrn : r < n
              · rw [if_pos hrn, if_pos hrn, if_pos hrn]; exact (RA2.out r hrn).below hB03
              · rw [if_neg hrn, if_neg hrn, if_neg hrn]; exact (RB2.out (r - n) (by simp at hr; omega)).below hB03⟩, hB03⟩)
          clear hown3 hgr3 hb3 hB03 hrd
          go_wp2_with fail
          go_ret2
          exact HE.out
        · have HE := Lib.hid (fun q => RJoinAny.no (b := b) (c := c) (n := n) (La := La) (F := F) (k := k) (Lb := Lb) (G := G) (w := w) (w' := w.drewN q) (fun h => h4 h.2.2.2) (below_drewN' _ _))
          have hd4 : decide ((20 : Int) < (n : Int) + (k : Int)) = true := by simp; omega
          clear h1 h2 h3
          go_enter Try.func15, Try.ntmps15
          go_wp2_with fail
          go_quiet (first
            | (go_at_call_of 17 (Value.slice (some ad) n ca); exact Calls.quiet_of (rmay_yes b wd c hk F La (some ad) n ca _ (HA.out.below (below_drewN' _ _)) H1.out))
            | (go_at_call_of 17 (Value.slice (some ad') k cb); exact Calls.quiet_of (rmay_yes b wd c hk G Lb (some ad') k cb _ (HB.out.below (below_drewN' _ _)) H2.out)))
          go_wp2_with fail
          go_ret2
          exact HE.out _
      · have HE := Lib.hid (fun q => RJoinAny.no (b := b) (c := c) (n := n) (La := La) (F := F) (k := k) (Lb := Lb) (G := G) (w := w) (w' := w.drewN q) (fun h => h3 h.2.2.1) (below_drewN' _ _))
        have hne : (((La 0 : Nat) : Int) != ((Lb 0 : Nat) : Int)) = true := by simp; omega
        clear h1 h2 h3
        go_enter Try.func15, Try.ntmps15
        go_wp2_with fail
        go_quiet (first
          | (go_at_call_of 17 (Value.slice (some ad) n ca); exact Calls.quiet_of (rmay_yes b wd c hk F La (some ad) n ca _ (HA.out.below (below_drewN' _ _)) H1.out))
          | (go_at_call_of 17 (Value.slice (some ad') k cb); exact Calls.quiet_of (rmay_yes b wd c hk G Lb (some ad') k cb _ (HB.out.below (below_drewN' _ _)) H2.out)))
        go_wp2_with fail
        go_ret2
        exact HE.out _
    · have HE := Lib.hid (fun q => RJoinAny.no (b := b) (c := c) (n := n) (La := La) (F := F) (k := k) (Lb := Lb) (G := G) (w := w) (w' := w.drewN q) (fun h => h2 h.2.1) (below_drewN' _ _))
      have H1 := Lib.hid h1
      have H2 := Lib.hid h2
      clear ha hb h1 h2
      go_enter Try.func15, Try.ntmps15
      go_wp2_with fail
      go_quiet (first
        | (go_at_call_of 17 (Value.slice A n ca); exact Calls.quiet_of (rmay_yes b wd c hk F La A n ca _ (HA.out.below (below_drewN' _ _)) H1.out))
        | (go_at_call_of 17 (Value.slice B k cb); exact Calls.quiet_of (rmay_no b wd c hk G Lb B k cb _ (HB.out.below (below_drewN' _ _)) H2.out)))
      go_wp2_with fail
      go_ret2
      exact HE.out _
  · have HE := Lib.hid (fun q => RJoinAny.no (b := b) (c := c) (n := n) (La := La) (F := F) (k := k) (Lb := Lb) (G := G) (w := w) (w' := w.drewN q) (fun h => h1 h.1) (below_drewN' _ _))
    have H1 := Lib.hid h1
    clear ha hb h1
    go_enter Try.func15, Try.ntmps15
    go_wp2_with fail
    go_quiet ((go_at_call 17; exact Calls.quiet_of (rmay_no b wd c hk F La A n ca _ (HA.out.below (below_drewN' _ _)) H1.out)))
    go_wp2_with fail
    go_ret2
    exact HE.out _

/-- in Identity's inner loop -/
def RIdIn (n i : Nat) (wi : World) (s5 s6 : Value) (wr : World) : Prop := ∃ j : Nat, j ≤ n ∧ s6 = .int .i64 j ∧ App wi TI (i64s (idF i)) j s5 wr

set_option maxRecDepth 100000 in
set_option maxHeartbeats 2000000 in
theorem ridentity26 (b n : Nat) (hn : n ≤ 20) (w : World) (hbw : b < w.heap.size) :
    Calls Try.prog 26 #[.int .i64 n] w fun e w' => ∃ v, e = .returned v ∧ MTold b n idF (fun _ => n) w v w' := by
  obtain ⟨i0, hi, hz0, hz1, hz2⟩ := info_parts infoRow
  obtain ⟨j0, hj, hy0, hy1, hy2⟩ := info_parts infoI
  have hd20 : decide ((n : Int) ≤ 20) = true := by simp; omega
  go_enter Try.func26, Try.ntmps26
  go_wp2_with fail
  go_loopw [3, 4] (fun s3 s4 wr => ∃ i : Nat, i ≤ n ∧ s4 = .int .i64 i ∧ MApp b w idF (fun _ => n) i s3 wr) (fun _ s4 _ => n - (intOf s4).toNat)
  case atStart => exact ⟨0, Nat.zero_le _, rfl, MApp.start _ _ _ _⟩
  case round =>
    obtain ⟨i, hin, rfl, happ⟩ := hrel
    obtain ⟨wi, hwi⟩ : ∃ wi, wi = wr := ⟨_, rfl⟩
    subst hwi
    have HAPP := Lib.hid happ
    have hsz := happ.1.size
    clear happ
    by_cases hlt : i < n
    · go_wp2_with fail
      go_loopw [5, 6] (fun s5 s6 wr => RIdIn n i wi s5 s6 wr) (fun _ s6 _ => n - (intOf s6).toNat)
      case atStart => exact ⟨0, Nat.zero_le _, rfl, App.start _ _ _⟩
      case round =>
        obtain ⟨j, hjn, rfl, ha⟩ := hrel
        have HA := Lib.hid ha
        have hsz2 := ha.2.size
        clear ha
        by_cases hlt2 : j < n
        · by_cases hij : i = j
          · have hb : (((i : Nat) : Int) == ((j : Nat) : Int)) = true := by simp [hij]
            have HV := Lib.hid (show i64s (idF i) j = .int .i64 1 by simp [i64s, idF, hij])
            clear hij
            go_wp2_with (at_builtin; refine wpList_append_own _ rfl _ _ TIs rfl wi.heap.size TI j0 (.int .i64 0) 1 8 underI hj hy0 hy1 hy2 rfl (by decide) _ _ _ rfl (HA.out.1.alloc _) ⟨wr.heap.size, 0, none⟩ 1 1 [i64s (idF i) j] rfl rfl (news_one HV.out.symm) (one_i64 _) (by unfold maxLen; omega) (by omega) (by simp; omega) ?_)
            intro v' w1 hown' hgrow _
            have HS := Lib.hid (HA.out.step hown' hgrow)
            clear hown' hgrow
            go_wp2_with fail
            exact ⟨⟨j + 1, hlt2, by go_num, HS.out⟩, by simp [intOf]; omega⟩
          · have hb : (((i : Nat) : Int) == ((j : Nat) : Int)) = false := by simp; omega
            have HV := Lib.hid (show i64s (idF i) j = .int .i64 0 by simp [i64s, idF, hij])
            clear hij
            go_wp2_with (at_builtin; refine wpList_append_own _ rfl _ _ TIs rfl wi.heap.size TI j0 (.int .i64 0) 1 8 underI hj hy0 hy1 hy2 rfl (by decide) _ _ _ rfl (HA.out.1.alloc _) ⟨wr.heap.size, 0, none⟩ 1 1 [i64s (idF i) j] rfl rfl (news_one HV.out.symm) (one_i64 _) (by unfold maxLen; omega) (by omega) (by simp; omega) ?_)
            intro v' w1 hown' hgrow _
            have HS := Lib.hid (HA.out.step hown' hgrow)
            clear hown' hgrow
            go_wp2_with fail
            exact ⟨⟨j + 1, hlt2, by go_num, HS.out⟩, by simp [intOf]; omega⟩
        · obtain rfl : j = n := by omega
          obtain ⟨hb0, As0, Cs0, hown0, hrow0⟩ := HAPP.out.below HA.out.2
          have hlo := HAPP.out.2
          obtain ⟨A', c', e', _, _⟩ := HA.out.rd (show b < wi.heap.size by omega)
          subst e'
          have HRY := Lib.hid (show ∀ g, (g = b ∨ u3.ownBlock = some g) → Rd g wr (i64s (idF i)) A' j from fun g hg => by
            have hgl : g < wi.heap.size := by
              rcases hg with rfl | hg
              · omega
              · obtain ⟨_, _, ho, _⟩ := hlo
                exact (ho.lt g hg).2
            obtain ⟨A2, c2, e2, _, h2⟩ := HA.out.rd hgl
            injection e2 with e2
            subst e2
            exact h2)
          have HB0 := Lib.hid hb0
          have HOWN := Lib.hid hown0
          have HROW := Lib.hid hrow0
          have hsz3 := hb0.size
          clear hb0 hown0 hrow0 hlo
          go_wp2_with (at_builtin; refine wpList_append_lies _ rfl _ _ TRI rfl w.heap.size TIs i0 nilS 1 24 underRI hi hz0 hz1 hz2 rfl (by decide) _ i _ rfl (HOWN.out.alloc _) ⟨wr.heap.size, 0, none⟩ 1 1 [.slice A' j c'] rfl rfl (news_one rfl) (one_slice _ _ _) (by omega) (by unfold maxLen; omega) (by omega) (by simp; omega) _ rfl ?_)
          intro g' cap' w2 hown2 hgr2 hg2 _
          have HS := Lib.hid (MApp.step (F := idF) (Ls := fun _ => j) HB0.out HOWN.out HROW.out rfl HRY.out hown2 hgr2 hg2)
          clear hown2 hgr2 hg2
          go_wp2_with fail
          exact ⟨⟨i + 1, hlt, by go_num, HS.out⟩, by simp [intOf]; omega⟩
    · obtain rfl : i = n := by omega
      go_wp2_with fail
      go_ret
      exact ⟨_, rfl, HAPP.out.told hbw⟩

set_option maxRecDepth 100000 in
theorem ridentity_big (n : Nat) (hn : 20 < n) (w : World) :
    Calls Try.prog 26 #[.int .i64 n] w fun e w' => e = .returned nilS ∧ w = w' := by
  have hd20 : decide ((n : Int) ≤ 20) = false := by simp; omega
  have hn0 : (0 : Int) < (n : Int) := by omega
  go_enter Try.func26, Try.ntmps26
  go_wp2_with fail
  refine wp_loop_rounds 1 ?_
  rw [rounds_succ]
  go_wp2_with fail
  go_ret
  exact ⟨rfl, rfl⟩
end Go.Proofs.Ytomlfmfahlcedaa
