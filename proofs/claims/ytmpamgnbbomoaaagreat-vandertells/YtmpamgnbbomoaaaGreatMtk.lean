/- Contracts of gambrelref04: Join, the identity, Mul and Apply. -/
import Derived.Test.YtmpamgnbbomoaaaGreatMtj
import Derived.Test.YtmpamgnbbomoaaaGreatXor
namespace Go.Proofs.YtmpamgnbbomoaaaGreat
open Go.RowKit

theorem rmay_yes (b wd c : Nat) (hk : Kind wd c) (F : Nat → Nat → Int) (Ls : Nat → Nat) (A : Option Addr) (n cap : Nat) (w : World) (hr : Mx b w F Ls A n) (h : mayP c n Ls F) :
    Calls Tryz.prog 44 #[.int .i64 wd, .slice A n cap] w fun e w' => e = .returned (.bool true) ∧ ∃ m, w' = w.drewN m :=
  (rmay17 b wd c hk F Ls A n cap w hr).mono fun e w' ⟨t, he, ht, hw⟩ => ⟨by rw [he, ht.2 h], hw⟩
theorem rmay_no (b wd c : Nat) (hk : Kind wd c) (F : Nat → Nat → Int) (Ls : Nat → Nat) (A : Option Addr) (n cap : Nat) (w : World) (hr : Mx b w F Ls A n) (h : ¬ mayP c n Ls F) :
    Calls Tryz.prog 44 #[.int .i64 wd, .slice A n cap] w fun e w' => e = .returned (.bool false) ∧ ∃ m, w' = w.drewN m :=
  (rmay17 b wd c hk F Ls A n cap w hr).mono fun e w' ⟨t, he, ht, hw⟩ => ⟨by
    cases t
    · exact he
    · exact absurd (ht.1 rfl) h, hw⟩

/-- what Join of the document tells -/
def RJoinAny (b c n : Nat) (La : Nat → Nat) (F : Nat → Nat → Int) (k : Nat) (Lb : Nat → Nat) (G : Nat → Nat → Int) (w : World) (e : Ending) (w' : World) : Prop :=
  ∃ t v, e = .returned (.tuple #[v, .bool t]) ∧ (t = true ↔ joinP c n La F k Lb G) ∧ MTold b (cond t (n + k) 0) (joinF n F G) (joinL n La Lb) w v w'
theorem RJoinAny.no {b c n : Nat} {La : Nat → Nat} {F : Nat → Nat → Int} {k : Nat} {Lb : Nat → Nat} {G : Nat → Nat → Int} {w w' : World} (h : ¬ joinP c n La F k Lb G) (hb : Below w.heap.size w w') : RJoinAny b c n La F k Lb G w (.returned (.tuple #[nilS, .bool false])) w' :=
  ⟨false, _, rfl, by simp [h], MTold.nil hb⟩

/-- in Identity's inner loop -/
def RIdIn (n i : Nat) (wi : World) (s5 s6 : Value) (wr : World) : Prop := ∃ j : Nat, j ≤ n ∧ s6 = .int .i64 j ∧ App wi TI (i64s (idF i)) j s5 wr

set_option maxRecDepth 100000 in
set_option maxHeartbeats 2000000 in
theorem ridentity26 (b n : Nat) (hn : n ≤ 20) (w : World) (hbw : b < w.heap.size) :
    Calls Tryz.prog 45 #[.int .i64 n] w fun e w' => ∃ v, e = .returned v ∧ MTold b n idF (fun _ => n) w v w' := by
  obtain ⟨i0, hi, hz0, hz1, hz2⟩ := info_parts infoRow
  obtain ⟨j0, hj, hy0, hy1, hy2⟩ := info_parts infoI
  have hd20 : decide ((n : Int) ≤ 20) = true := by simp; omega
  go_enter Tryz.func45, Tryz.ntmps45
  go_wp2_with fail
  go_loopw [3, 4] (fun s3 s4 wr => ∃ i : Nat, i ≤ n ∧ s4 = .int .i64 i ∧ MApp b w idF (fun _ => n) i s3 wr) (fun _ s4 _ => n - (intOf s4).toNat)
  case atStart => exact ⟨0, Nat.zero_le _, rfl, MApp.start _ _ _ _⟩
  case round =>
    obtain ⟨i, hin, rfl, happ⟩ := hrel
    obtain ⟨wi, hwi⟩ : ∃ wi, wi = wr := ⟨_, rfl⟩
    subst hwi
    have HAPP := Lib.hid happ
    have hsz := happ.1.size
    clear happ
    by_cases hlt : i < n
    · go_wp2_with fail
      go_loopw [5, 6] (fun s5 s6 wr => RIdIn n i wi s5 s6 wr) (fun _ s6 _ => n - (intOf s6).toNat)
      case atStart => exact ⟨0, Nat.zero_le _, rfl, App.start _ _ _⟩
      case round =>
        obtain ⟨j, hjn, rfl, ha⟩ := hrel
        have HA := Lib.hid ha
        have hsz2 := ha.2.size
        clear ha
        by_cases hlt2 : j < n
        · by_cases hij : i = j
          · have hb : (((i : Nat) : Int) == ((j : Nat) : Int)) = true := by simp [hij]
            have HV := Lib.hid (show i64s (idF i) j = .int .i64 1 by simp [i64s, idF, hij])
            clear hij
            go_wp2_with (at_builtin; refine wpList_append_own _ rfl _ _ TIs rfl wi.heap.size TI j0 (.int .i64 0) 1 8 underI hj hy0 hy1 hy2 rfl (by decide) _ _ _ rfl (HA.out.1.alloc _) ⟨wr.heap.size, 0, none⟩ 1 1 [i64s (idF i) j] rfl rfl (news_one HV.out.symm) (one_i64 _) (by unfold maxLen; omega) (by omega) (by simp; omega) ?_)
            intro v' w1 hown' hgrow _
            have HS := Lib.hid (HA.out.step hown' hgrow)
            clear hown' hgrow
            go_wp2_with fail
            exact ⟨⟨j + 1, hlt2, by go_num, HS.out⟩, by simp [intOf]; omega⟩
          · have hb : (((i : Nat) : Int) == ((j : Nat) : Int)) = false := by simp; omega
            have HV := Lib.hid (show i64s (idF i) j = .int .i64 0 by simp [i64s, idF, hij])
            clear hij
            go_wp2_with (at_builtin; refine wpList_append_own _ rfl _ _ TIs rfl wi.heap.size TI j0 (.int .i64 0) 1 8 underI hj hy0 hy1 hy2 rfl (by decide) _ _ _ rfl (HA.out.1.alloc _) ⟨wr.heap.size, 0, none⟩ 1 1 [i64s (idF i) j] rfl rfl (news_one HV.out.symm) (one_i64 _) (by unfold maxLen; omega) (by omega) (by simp; omega) ?_)
            intro v' w1 hown' hgrow _
            have HS := Lib.hid (HA.out.step hown' hgrow)
            clear hown' hgrow
            go_wp2_with fail
            exact ⟨⟨j + 1, hlt2, by go_num, HS.out⟩, by simp [intOf]; omega⟩
        · obtain rfl : j = n := by omega
          obtain ⟨hb0, As0, Cs0, hown0, hrow0⟩ := HAPP.out.below HA.out.2
          have hlo := HAPP.out.2
          obtain ⟨A', c', e', _, _⟩ := HA.out.rd (show b < wi.heap.size by omega)
          subst e'
          have HRY := Lib.hid (show ∀ g, (g = b ∨ u3.ownBlock = some g) → Rd g wr (i64s (idF i)) A' j from fun g hg => by
            have hgl : g < wi.heap.size := by
              rcases hg with rfl | hg
              · omega
              · obtain ⟨_, _, ho, _⟩ := hlo
                exact (ho.lt g hg).2
            obtain ⟨A2, c2, e2, _, h2⟩ := HA.out.rd hgl
            injection e2 with e2
            subst e2
            exact h2)
          have HB0 := Lib.hid hb0
          have HOWN := Lib.hid hown0
          have HROW := Lib.hid hrow0
          have hsz3 := hb0.size
          clear hb0 hown0 hrow0 hlo
          go_wp2_with (at_builtin; refine wpList_append_lies _ rfl _ _ TRI rfl w.heap.size TIs i0 nilS 1 24 underRI hi hz0 hz1 hz2 rfl (by decide) _ i _ rfl (HOWN.out.alloc _) ⟨wr.heap.size, 0, none⟩ 1 1 [.slice A' j c'] rfl rfl (news_one rfl) (one_slice _ _ _) (by omega) (by unfold maxLen; omega) (by omega) (by simp; omega) _ rfl ?_)
          intro g' cap' w2 hown2 hgr2 hg2 _
          have HS := Lib.hid (MApp.step (F := idF) (Ls := fun _ => j) HB0.out HOWN.out HROW.out rfl HRY.out hown2 hgr2 hg2)
          clear hown2 hgr2 hg2
          go_wp2_with fail
          exact ⟨⟨i + 1, hlt, by go_num, HS.out⟩, by simp [intOf]; omega⟩
    · obtain rfl : i = n := by omega
      go_wp2_with fail
      go_ret
      exact ⟨_, rfl, HAPP.out.told hbw⟩

set_option maxRecDepth 100000 in
theorem ridentity_big (n : Nat) (hn : 20 < n) (w : World) :
    Calls Tryz.prog 45 #[.int .i64 n] w fun e w' => e = .returned nilS ∧ w = w' := by
  have hd20 : decide ((n : Int) ≤ 20) = false := by simp; omega
  have hn0 : (0 : Int) < (n : Int) := by omega
  go_enter Tryz.func45, Tryz.ntmps45
  go_wp2_with fail
  refine wp_loop_rounds 1 ?_
  rw [rounds_succ]
  go_wp2_with fail
  go_ret
  exact ⟨rfl, rfl⟩
end Go.Proofs.YtmpamgnbbomoaaaGreat
