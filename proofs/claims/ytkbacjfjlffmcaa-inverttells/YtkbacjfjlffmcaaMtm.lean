/- The contract of gambrelref04's Apply; layer 4's own first test, how its laws choose a field, was it an error. -/
import Derived.Test.YtkbacjfjlffmcaaMtl
import Derived.Test.YtkbacjfjlffmcaaMte
import Derived.Test.YtkbacjfjlffmcaaGaw
namespace Go.Proofs.Ytkbacjfjlffmcaa
open Go.RowKit

/-- what Apply of the document tells -/
def RAppAny (p b n : Nat) (La : Nat → Nat) (F : Nat → Nat → Int) (m : Nat) (l : Nat → Int) (w : World) (e : Ending) (w' : World) : Prop :=
  ∃ t v, e = .returned (.tuple #[v, .bool t]) ∧ (t = true ↔ mayP (M.ord p) n La F ∧ La 0 = m ∧ allIn (M.ord p) l m) ∧ IntsTold b (cond t n 0) (fun r => (dotN p (F r) l m : Nat)) w v w'

theorem col_may {p n m : Nat} {La : Nat → Nat} {F : Nat → Nat → Int} {l : Nat → Int} : (mayP (M.ord p) n La F ∧ mayP (M.ord p) m (fun _ => 1) (fun r _ => l r) ∧ La 0 = m) ↔ (mayP (M.ord p) n La F ∧ La 0 = m ∧ allIn (M.ord p) l m) := by
  constructor
  · rintro ⟨h1, h2, h3⟩
    exact ⟨h1, h3, fun j hj => (h2.2.2 j hj).2 0 Nat.zero_lt_one⟩
  · rintro ⟨h1, h2, h3⟩
    refine ⟨h1, ⟨by rw [← h2]; exact h1.2.1, ⟨Nat.le_refl _, (by decide : 1 ≤ 20)⟩, fun r hr => ⟨rfl, fun j _ => h3 r hr⟩⟩, h2⟩

set_option maxRecDepth 100000 in
set_option maxHeartbeats 4000000 in
theorem rapply23 (p b wd : Nat) (hg : Good p wd) (F : Nat → Nat → Int) (La : Nat → Nat) (A B : Option Addr) (n m ca cb : Nat) (hm : m ≤ 1000) (l : Nat → Int) (w : World) (hbw : b < w.heap.size) (ha : Mx b w F La A n) (hl : Rd b w (i64s l) B m) :
    Calls Try.prog 37 #[.int .i64 wd, .int .u32 p, .slice A n ca, .slice B m cb] w (RAppAny p b n La F m l w) := by
  obtain ⟨i0, hi, hz0, hz1, hz2⟩ := info_parts infoRow
  obtain ⟨j0, hj, hy0, hy1, hy2⟩ := info_parts infoI
  have HA := Lib.hid ha
  have HL := Lib.hid hl
  clear ha hl
  go_enter Try.func37, Try.ntmps37
  go_wp2_with fail
  go_loopw [10, 11] (fun s10 s11 wr => ∃ k : Nat, k ≤ m ∧ s11 = .int .i64 k ∧ MApp b w (fun r _ => l r) (fun _ => 1) k s10 wr) (fun _ s11 _ => m - (intOf s11).toNat)
  case atStart => exact ⟨0, Nat.zero_le _, rfl, MApp.start _ _ _ _⟩
  case round =>
    obtain ⟨k, hkm, rfl, happ⟩ := hrel
    have HAPP := Lib.hid happ
    have hsz := happ.1.size
    have hb0 := happ.1
    clear happ
    by_cases hlt : k < m
    · obtain ⟨ad, rfl, hcell⟩ := (HL.out.below hb0).at_ hlt
      simp only [i64s] at hcell
      obtain ⟨x, hx⟩ : ∃ x, l k = x := ⟨_, rfl⟩
      rw [hx] at hcell
      obtain ⟨hb1, As0, Cs0, hown0, hrow0⟩ := HAPP.out.below (below_alloc wr (.cells #[.int .i64 x] TI))
      have hnew := World.rowIs_alloc wr #[.int .i64 x] TI (i64s (fun _ => l k)) (fun i hi => by
        simp at hi
        subst hi
        simp [i64s, hx])
      have hlo := HAPP.out.2
      have HRY := Lib.hid (show ∀ g, (g = b ∨ u10.ownBlock = some g) → Rd g (wr.alloc (.cells #[.int .i64 x] TI)) (i64s (fun _ => l k)) (some ⟨wr.heap.size, 0, none⟩) 1 from fun g hg' => by
        have hgl : g < wr.heap.size := by
          rcases hg' with rfl | hg'
          · omega
          · obtain ⟨_, _, ho, _⟩ := hlo
            exact (ho.lt g hg').2
        exact Rd.of_row hnew (by omega) (by simp))
      have HBB := Lib.hid hb1
      have HOWN := Lib.hid hown0
      have HROW := Lib.hid hrow0
      clear hb0 hb1 hown0 hrow0 hlo hnew hx
      go_wp2_with (at_builtin; refine wpList_append_lies _ rfl _ _ TRI rfl w.heap.size TIs i0 nilS 1 24 underRI hi hz0 hz1 hz2 rfl (by decide) _ k _ rfl (HOWN.out.alloc _) ⟨wr.heap.size + 1, 0, none⟩ 1 1 [.slice (some ⟨wr.heap.size, 0, none⟩) 1 1] rfl rfl (by have := news_one (w := wr.alloc (.cells #[.int .i64 x] TI)) (t := TIs) (v := .slice (some ⟨wr.heap.size, 0, none⟩) 1 1) rfl; rwa [World.size_alloc] at this) (one_slice _ _ _) (by omega) (by unfold maxLen; omega) (by omega) (by simp; omega) _ rfl ?_)
      intro g' cap' w2 hown2 hgr2 hg2 _
      have HS := Lib.hid (MApp.step (F := fun r _ => l r) (Ls := fun _ => 1) HBB.out HOWN.out HROW.out rfl HRY.out hown2 hgr2 (by rw [World.size_alloc]; exact hg2))
      clear hown2 hgr2 hg2
      go_wp2_with fail
      exact ⟨⟨k + 1, hlt, by go_num, HS.out⟩, by simp [intOf]; omega⟩
    · obtain rfl : k = m := by omega
      obtain ⟨A1, c1, rfl, _, hmx, hb1⟩ := HAPP.out.told hbw
      have HB1 := Lib.hid hb1
      have HMX := Lib.hid hmx
      have hbw1 : b < wr.heap.size := by omega
      obtain ⟨w1, hw1⟩ : ∃ w1, w1 = wr := ⟨_, rfl⟩
      subst hw1
      clear hb0 hb1 hmx HAPP
      go_wp2_with fail
      refine (rmmul21 p b wd hg F (fun r _ => l r) La (fun _ => 1) A A1 n k ca c1 w1 hbw1 (HA.out.below HB1.out) HMX.out).mono ?_
      rintro e w2 ⟨t, v, rfl, ht, A2, c2, rfl, _, hmx2, hb2⟩
      have HB2 := Lib.hid (below_tr HB1.out hb2)
      have HT := Lib.hid (ht.trans col_may)
      obtain ⟨As2, Cs2, r1, r2⟩ := hmx2
      have R1 := Lib.hid r1
      have R2 := Lib.hid r2
      have hbw2 : b < w2.heap.size := Nat.lt_of_lt_of_le hbw1 hb2.size
      have hN : (cond t n 0) ≤ 20 := by
        cases t
        · exact Nat.zero_le _
        · exact (HT.out.1 rfl).1.1.2
      obtain ⟨N, hNN⟩ : ∃ N, cond t n 0 = N := ⟨_, rfl⟩
      rw [hNN] at hN R1 R2 ⊢
      have HNN := Lib.hid hNN
      clear hb2 r1 r2 ht hNN
      go_wp2_with fail
      go_loopw [14, 15] (fun s14 s15 wr => ∃ i : Nat, i ≤ N ∧ s15 = .int .i64 i ∧ App w2 TI (i64s (fun r => (dotN p (F r) l k : Nat))) i s14 wr) (fun _ s15 _ => N - (intOf s15).toNat)
      case atStart => exact ⟨0, Nat.zero_le _, rfl, App.start _ _ _⟩
      case round =>
        obtain ⟨i, hiN, rfl, ha⟩ := hrel
        have HAI := Lib.hid ha
        have hsz2 := ha.2.size
        clear ha
        by_cases hlt2 : i < N
        · obtain ⟨ad, rfl, d1⟩ := (R1.out.below HAI.out.2).at_ hlt2
          simp only [slis] at d1
          obtain ⟨ad2, hA2, d2⟩ := ((R2.out i hlt2).below HAI.out.2).at_ (show 0 < 1 by omega)
          rw [show ad2.add 0 = ad2 by simp [Addr.add]] at d2
          simp only [i64s, mulF] at d2
          rw [hA2] at d1
          clear hA2
          go_wp2_with (at_builtin; refine wpList_append_own _ rfl _ _ TIs rfl w2.heap.size TI j0 (.int .i64 0) 1 8 underI hj hy0 hy1 hy2 rfl (by decide) _ _ _ rfl (HAI.out.1.alloc _) ⟨wr.heap.size, 0, none⟩ 1 1 [i64s (fun r => (dotN p (F r) l k : Nat)) i] rfl rfl (news_one rfl) (one_i64 _) (by unfold maxLen; omega) (by omega) (by simp; omega) ?_)
          intro v' w3 hown' hgrow _
          have HS := Lib.hid (HAI.out.step hown' hgrow)
          clear hown' hgrow
          go_wp2_with fail
          exact ⟨⟨i + 1, hlt2, by go_num, HS.out⟩, by simp [intOf]; omega⟩
        · obtain rfl : i = N := by omega
          have HE := Lib.hid (show ∀ v, App w2 TI (i64s (fun r => (dotN p (F r) l k : Nat))) i v wr → RAppAny p b n La F k l w (.returned (.tuple #[v, .bool t])) wr from fun v h => ⟨t, v, rfl, HT.out, by
            rw [HNN.out]
            obtain ⟨A', c', e1, e2, e3, e4⟩ := IntsTold.of h hbw2
            exact ⟨A', c', e1, e2, e3, below_tr HB2.out e4⟩⟩)
          go_wp2_with fail
          go_ret2
          exact HE.out _ HAI.out
end Go.Proofs.Ytkbacjfjlffmcaa
