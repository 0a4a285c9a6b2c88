/- The contracts of gambrelref07's over and Extended. -/
import Derived.Test.YtgdgimknnjbieaaGreatDoorGxr
import Derived.Test.YtgdgimknnjbieaaGreatDoorGxq
import Derived.Laws.OwnMore
namespace Go.Proofs.YtgdgimknnjbieaaGreatDoor
open Go.RowKit

set_option maxRecDepth 100000 in
theorem over25 (q : FP) (wd : Nat) (hg : Good q.p wd) (x y : El q) (hy : y ≠ 0) (w : World) :
    Calls Tryz.prog 107 #[.int .i64 wd, .int .u32 q.p, .int .i64 (x.val : Nat), .int .i64 (y.val : Nat)] w fun e w' => e = .returned (.int .i64 ((x * y.inv).val : Nat)) ∧ w = w' := by
  have HD := Lib.hid (fdiv_el (a := x) hy)
  go_enter Tryz.func107, Tryz.ntmps107
  go_wp2_with fail
  refine (rdiv17 q.p wd hg _ _ _).mono ?_
  rintro e w' ⟨rfl, rfl⟩
  rw [HD.out]
  go_wp2_with fail
  go_ret
  exact ⟨rfl, rfl⟩

/-- the last row is another one -/
theorem own_store {b : Nat} {w : World} {n k g c c' base : Nat} {F F' : Nat → Nat → Int} {As : Nat → Option Addr} {Cs : Nat → Nat} {A' : Option Addr} (hb : b < base)
    (ho : w.ownsRow base TIs 1 (.slice (some ⟨g, 0, none⟩) (n + 1) c) (n + 1) ((List.range (n + 1)).map (slis As (fun _ => k) Cs)))
    (hr : ∀ r, r < n + 1 → ∀ x, (x = b ∨ (Value.slice (some ⟨g, 0, none⟩) (n + 1) c).ownBlock = some x) → Rd x w (i64s (F r)) (As r) k) (hl : ∀ x, (x = b ∨ x = g) → Rd x w (i64s (F' n)) A' k) (hF : ∀ r, r < n → ∀ j, F r j = F' r j) :
    Mx b (w.setCell ⟨g, n, none⟩ (.slice A' k c')) F' (fun _ => k) (some ⟨g, 0, none⟩) (n + 1) := by
  have h1 := (ho.stored n (.slice A' k c')).1
  have e1 : ((List.range (n + 1)).map (slis As (fun _ => k) Cs)).set n (.slice A' k c') = (List.range (n + 1)).map (slis (fun r => if r = n then A' else As r) (fun _ => k) (fun r => if r = n then c' else Cs r)) := by
    apply List.ext_getElem?
    intro j
    rw [List.getElem?_set]
    by_cases e : n = j
    · subst e
      rw [if_pos rfl, List.getElem?_map, List.getElem?_range (by omega)]
      simp
    · rw [if_neg e, List.getElem?_map, List.getElem?_map]
      rcases Nat.lt_or_ge j (n + 1) with h | h
      · rw [List.getElem?_range h]
        simp only [Option.map, slis]
        rw [if_neg (fun h => e h.symm), if_neg (fun h => e h.symm)]
      · rw [List.getElem?_eq_none (by simpa using h)]
        rfl
  rw [e1] at h1
  obtain ⟨A, c2, e, _, hrd⟩ := Rd.of_own h1 hb
  injection e with e
  subst e
  refine ⟨_, _, hrd, fun r hr' => ?_⟩
  by_cases e : r = n
  · subst e
    dsimp only
    rw [if_pos rfl]
    exact (hl b (Or.inl rfl)).set_other (hl g (Or.inr rfl)) _
  · dsimp only
    rw [if_neg e]
    exact ((hr r hr' b (Or.inl rfl)).set_other (hr r hr' g (Or.inr rfl)) _).congr (fun j _ => by simp only [i64s]; rw [hF r (by omega) j])

set_option maxRecDepth 100000 in
set_option maxHeartbeats 2000000 in
theorem rext_yes (q : FP) (b wd k m : Nat) (hg : Good q.p wd) (hk : side k) (hm : side m) (hkm : k + m ≤ 20) (w : World) (hbw : b < w.heap.size) :
    Calls Tryz.prog 105 #[.int .i64 wd, .int .u32 q.p, .int .i64 k, .int .i64 m] w (RVSaid q b (k + m) k (extE q k (k + m)) w) := by
  obtain ⟨j0, hj, hy0, hy1, hy2⟩ := info_parts infoI
  have hkb := hg.kind.bounds
  have hn1 := hk.1
  have hn2 := hk.2
  have hm1 := hm.1
  have hm2 := hm.2
  obtain ⟨n, hn⟩ : ∃ n, k + m = n + 1 := ⟨k + m - 1, by omega⟩
  obtain ⟨k1, hk1⟩ : ∃ k1, k = k1 + 1 := ⟨k - 1, by omega⟩
  have hnI : (k : Int) + (m : Int) = (n : Int) + 1 := by omega
  have hkI : (k : Int) - 1 = (k1 : Int) := by omega
  have HN := Lib.hid (show fitsI (k : Int) (m : Int) from ⟨⟨by omega, by omega⟩, ⟨by omega, by omega⟩, by omega⟩)
  have HR := Lib.hid (rraw_app q b wd (n + 1) k hg ⟨by omega, by omega⟩ hk w hbw)
  rw [show (((n + 1 : Nat) : Int)) = (n : Int) + 1 by omega] at HR
  have HF := Lib.hid (show ∀ r, r < n → ∀ j, ivs (rawE q) r j = ivs (extE q k (k + m)) r j from fun r hr j => by
    simp only [ivs]
    rw [ext_raw (by omega)])
  have HL := Lib.hid (show ∀ j, i64s (idF k1) j = i64s (ivs (extE q k (k + m)) n) j from fun j => by
    simp only [i64s, ivs]
    rw [ext_last (by omega), show k - 1 = k1 by omega, idF_el (q := q)])
  rw [hn] at HF HL
  rw [hn]
  have hn19 : n ≤ 19 := by omega
  have hk1k : k1 < k := by omega
  clear hk hm hn hk1 hkm
  go_enter Tryz.func105, Tryz.ntmps105
  go_wp2_with fail
  refine (rfits24 k m _).mono ?_
  rintro e w' ⟨t, rfl, ht, rfl⟩
  obtain rfl : t = true := ht.2 HN.out
  clear ht HN
  go_wp2_with fail
  refine HR.out.mono ?_
  rintro e w2 ⟨v2, rfl, hA⟩
  have hsz2 := hA.1.size
  have HA := Lib.hid hA
  obtain ⟨_, As, Cs, ho, hrow⟩ := hA
  obtain ⟨g, c, rfl, hgl⟩ := ho.form (by omega)
  clear ho hrow HR
  go_wp2_with fail
  go_loopw [12, 13] (fun s12 s13 wr => RowIn k (idF k1) w2 s12 s13 wr) (fun _ s13 _ => k - (intOf s13).toNat)
  case atStart => exact ⟨0, Nat.zero_le _, rfl, App.start _ _ _⟩
  case round =>
    obtain ⟨j, hjk, rfl, ha⟩ := hrel
    have HP := Lib.hid ha
    have hsz := ha.2.size
    clear ha
    by_cases hlt : j < k
    · by_cases he : j = k1
      · have d1 : ((j : Int) == (k1 : Int)) = true := by simp; omega
        have HV := Lib.hid (show i64s (idF k1) j = .int .i64 1 from by simp only [i64s, idF]; rw [if_pos he.symm])
        clear he
        go_wp2_with (at_builtin; refine wpList_append_own _ rfl _ _ TIs rfl w2.heap.size TI j0 (.int .i64 0) 1 8 underI hj hy0 hy1 hy2 rfl (by decide) _ _ _ rfl (HP.out.1.alloc _) ⟨wr.heap.size, 0, none⟩ 1 1 [i64s (idF k1) j] rfl rfl (news_one HV.out.symm) (one_i64 _) (by unfold maxLen; omega) (by omega) (by simp; omega) ?_)
        intro v' w3 hown' hgrow _
        have HS := Lib.hid (HP.out.step hown' hgrow)
        clear hown' hgrow
        go_wp2_with fail
        exact ⟨⟨j + 1, hlt, by go_num, HS.out⟩, by simp [intOf]; omega⟩
      · have d1 : ((j : Int) == (k1 : Int)) = false := by simp; omega
        have HV := Lib.hid (show i64s (idF k1) j = .int .i64 0 from by simp only [i64s, idF]; rw [if_neg (fun h => he h.symm)])
        clear he
        go_wp2_with (at_builtin; refine wpList_append_own _ rfl _ _ TIs rfl w2.heap.size TI j0 (.int .i64 0) 1 8 underI hj hy0 hy1 hy2 rfl (by decide) _ _ _ rfl (HP.out.1.alloc _) ⟨wr.heap.size, 0, none⟩ 1 1 [i64s (idF k1) j] rfl rfl (news_one HV.out.symm) (one_i64 _) (by unfold maxLen; omega) (by omega) (by simp; omega) ?_)
        intro v' w3 hown' hgrow _
        have HS := Lib.hid (HP.out.step hown' hgrow)
        clear hown' hgrow
        go_wp2_with fail
        exact ⟨⟨j + 1, hlt, by go_num, HS.out⟩, by simp [intOf]; omega⟩
    · obtain rfl : j = k := by omega
      obtain ⟨A', c', rfl, _, _⟩ := HP.out.rd (show b < w2.heap.size by omega)
      have hlast : ∀ x, (x = b ∨ x = g) → Rd x wr (i64s (ivs (extE q j (n + 1)) n)) A' j := fun x hx => by
        have hxl : x < w2.heap.size := by
          rcases hx with rfl | rfl
          · omega
          · exact hgl.2
        obtain ⟨A2, c2, e2, _, h2⟩ := HP.out.rd hxl
        injection e2 with e2
        subst e2
        exact h2.congr (fun x _ => HL.out x)
      obtain ⟨hb3, As3, Cs3, ho3, hr3⟩ := HA.out.below HP.out.2
      have c1 := ho3.cellAt n (by omega)
      have f1 := ho3.frozenAt n
      rw [List.getElem?_map, List.getElem?_range (by omega)] at c1
      simp only [Option.map] at c1
      have HE := Lib.hid (show RVSaid q b (n + 1) j (extE q j (n + 1)) w (.returned (.tuple #[.slice (some ⟨g, 0, none⟩) (n + 1) c, .bool true])) (wr.setCell ⟨g, n, none⟩ (.slice A' j c')) from
        ⟨_, rfl, _, _, rfl, (by
          rcases ho3.2 with ⟨e, _⟩ | ⟨_, _, _, e, _, _, h, _⟩
          · cases e
          · injection e with _ _ e
            rw [e]
            exact h), own_store (F := ivs (rawE q)) hbw ho3 hr3 hlast HF.out, hb3.setCell (p := ⟨g, n, none⟩) hgl.1 _⟩)
      clear hlast hb3 ho3 hr3 HP HA
      go_wp2_with fail
      go_ret2
      exact HE.out

end Go.Proofs.YtgdgimknnjbieaaGreatDoor
