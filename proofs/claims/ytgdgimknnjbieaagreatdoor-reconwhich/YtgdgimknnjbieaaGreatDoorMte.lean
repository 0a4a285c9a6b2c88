/- The contract of package matrix's Mul. -/
import Derived.Test.YtgdgimknnjbieaaGreatDoorGxi
import Derived.Deep.AppendLies
namespace Go.Proofs.YtgdgimknnjbieaaGreatDoor
open Go.RowKit Go.Shelf
attribute [local go_sem] Oper.semAt_some

theorem underM : Tryz.prog.underlying TM = some (.slice TIs) := Tryz.underlying57

theorem cell_newest (W : World) (v : Value) (t : TypeId) : (W.alloc (.cells #[v] t)).cell? ⟨W.heap.size, 0, none⟩ = some v := (World.rowIs_alloc W #[v] t (fun _ => v) (fun i hi => by
  simp at hi
  subst hi
  rfl)).cell (i := 0) (by simp)

/-- what lies there when the columns begin -/
theorem mid_start {p b wd n k : Nat} {A B : Option Addr} {ca cb : Nat} {F G : Nat → Nat → Int} {w w2 w5 : World} (hf : Fld p b wd w) (hb2 : Below w.heap.size w w2) (hs2 : w2.heap.size = w.heap.size + 2)
    (hx1 : w2.cell? ⟨w.heap.size, 0, none⟩ = some (.pointer (some ⟨b, 0, none⟩))) (hx2 : w2.cell? ⟨w.heap.size + 1, 0, none⟩ = some (.slice A n ca))
    (hw5 : ((w2.alloc (.cells (madeCells #[nilS] n) TIs)).alloc (.cells #[.slice (some ⟨w.heap.size + 2, 0, none⟩) n n] TM)).alloc (.cells #[.slice B k cb] TM) = w5) :
    Mid p b wd n k A B ca cb F G w (fun _ => 0) w5 := by
  have hb5 : Below w2.heap.size w2 w5 := by rw [← hw5]; exact (((Below.refl _ w2).alloc (Nat.le_refl _) _).alloc (by simp) _).alloc (by simp; omega) _
  have hB : Below w.heap.size w w5 := below_tr hb2 hb5
  refine ⟨fun _ => nilS, hf.of_below hB, Turned.of_below hB, by rw [← hw5]; simp [hs2], (hb5.cell (by simp [hs2])).trans hx1, (hb5.cell (by simp [hs2])).trans hx2, ?_, ?_, ?_, fun r _ => World.ownsRow_nil _ _ _ _, fun _ _ _ _ _ => Or.inl rfl⟩
  · rw [← hw5]
    have h := cell_newest (w2.alloc (.cells (madeCells #[nilS] n) TIs)) (.slice (some ⟨w.heap.size + 2, 0, none⟩) n n) TM
    rw [World.size_alloc, hs2] at h
    exact ((below_alloc _ _).cell (World.block_lt_of_cell? _ _ h)).trans h
  · rw [← hw5]
    have h := cell_newest ((w2.alloc (.cells (madeCells #[nilS] n) TIs)).alloc (.cells #[.slice (some ⟨w.heap.size + 2, 0, none⟩) n n] TM)) (.slice B k cb) TM
    rw [World.size_alloc, World.size_alloc, hs2] at h
    exact h
  · rw [← hw5]
    have h := World.rowIs_made w2 nilS n TIs
    rw [hs2] at h
    exact (h.alloc _).alloc _

/-- the same, with room for all rows -/
def MulSaidC (p b wd n k m : Nat) (F G : Nat → Nat → Int) (w : World) (e : Ending) (w' : World) : Prop :=
  ∃ A c, e = .returned (.tuple #[.slice A n c, .int .i64 0]) ∧ n ≤ c ∧ Mx b w' (mulF p F G k) (fun _ => m) A n ∧ Fld p b wd w' ∧ Turned b w w'
/-- the same, as the rows lie in memory: each is the call's own -/
def MulSaidM (p b wd n k m : Nat) (A B : Option Addr) (ca cb : Nat) (F G : Nat → Nat → Int) (w : World) (e : Ending) (w' : World) : Prop :=
  e = .returned (.tuple #[.slice (some ⟨w.heap.size + 2, 0, none⟩) n n, .int .i64 0]) ∧ Mid p b wd n k A B ca cb F G w (fun _ => m) w'

set_option maxRecDepth 100000 in
set_option maxHeartbeats 4000000 in
theorem mmul_mid (p b wd : Nat) (F G : Nat → Nat → Int) (A B : Option Addr) (n k m ca cb : Nat) (w : World) (hfl : Fld p b wd w) (ha : Mx b w F (fun _ => k) A n) (hb : Mx b w G (fun _ => m) B k)
    (hma : mayP (M.ord p) n (fun _ => k) F) (hmb : mayP (M.ord p) k (fun _ => m) G) :
    Calls Tryz.prog 120 #[.pointer (some ⟨b, 0, none⟩), .slice A n ca, .slice B k cb] w (MulSaidM p b wd n k m A B ca cb F G w) := by
  have hg := hfl.1
  have hkd := hg.kind
  have hbl := hfl.lt
  have hsn := hma.1
  have hsk := hmb.1
  have hsm := hmb.2.1
  have HFL := Lib.hid hfl
  have HA := Lib.hid ha
  have HB := Lib.hid hb
  have HMA := Lib.hid hma
  have HMB := Lib.hid hmb
  unfold side at hsn hsk hsm
  obtain ⟨As, Cs, hr1, _⟩ := ha
  obtain ⟨ad, rfl, hc0⟩ := hr1.at_ (show 0 < n by omega)
  rw [show ad.add 0 = ad by simp [Addr.add]] at hc0
  simp only [slis] at hc0
  have hadl : ad.block < w.heap.size := World.block_lt_of_cell? w ad hc0
  clear hr1 hfl hma hmb hb
  obtain ⟨i0, hi0, hz0, hz1, hz2⟩ := info_parts infoI
  have hmk := run_make_row' (P := Tryz.prog) TM TIs nilS 24 underM infoRow rfl .i64 .i64 n (by omega) (by omega)
  obtain ⟨w2, hw2⟩ : ∃ w2, (w.alloc (.cells #[.pointer (some ⟨b, 0, none⟩)] 60)).alloc (.cells #[.slice (some ad) n ca] TM) = w2 := ⟨_, rfl⟩
  have hb2 : Below w.heap.size w w2 := by rw [← hw2]; exact ((Below.refl _ w).alloc (Nat.le_refl _) _).alloc (by simp) _
  have hs2 : w2.heap.size = w.heap.size + 2 := by rw [← hw2]; simp
  have hc2 : w2.cell? ad = some (.slice (As 0) k (Cs 0)) := (hb2.cell hadl).trans hc0
  have hx1 : w2.cell? ⟨w.heap.size, 0, none⟩ = some (.pointer (some ⟨b, 0, none⟩)) := by rw [← hw2]; simp
  have hx2 : w2.cell? ⟨w.heap.size + 1, 0, none⟩ = some (.slice (some ad) n ca) := by rw [← hw2]; simp
  have HB2 := Lib.hid hb2
  clear hb2
  refine (callsIn_wide (n := 5)).1 ?_
  refine callsIn_of_wp_marks Tryz.func120 rfl trivial ?_ rfl
  simp only [Tryz.ntmps120, List.size_toArray, List.length_cons, List.length_nil, Nat.reduceAdd, Nat.reduceSub, Array.replicate_succ, Array.replicate_zero, List.push_toArray, List.append_toArray, List.nil_append, List.cons_append]
  gi_wp2_with fail
  refine ⟨trivial, (callsIn_wide.2 (may16 b wd _ hkd F _ (some ad) n ca w2 (HFL.out.of_below HB2.out).c0 (HA.out.below HB2.out))).mono ?_⟩
  rintro e w' ⟨t, rfl, ht, rfl⟩
  obtain rfl : t = true := ht.2 HMA.out
  clear ht
  gi_wp2_with fail
  refine ⟨trivial, (callsIn_wide.2 (may16 b wd _ hkd G _ B k cb w2 (HFL.out.of_below HB2.out).c0 (HB.out.below HB2.out))).mono ?_⟩
  rintro e w' ⟨t, rfl, ht, rfl⟩
  obtain rfl : t = true := ht.2 HMB.out
  clear ht
  gi_wp2_with fail
  refine ⟨trivial, (callsIn_wide.2 (columns33 B k cb _)).mono ?_⟩
  rintro e w5 ⟨rfl, hw5⟩
  have hs5 : w5.heap.size = w.heap.size + 5 := by rw [← hw5]; simp [hs2]
  have hz4 : ((w2.alloc (.cells (madeCells #[nilS] n) TIs)).alloc (.cells #[.slice (some ⟨w.heap.size + 2, 0, none⟩) n n] TM)).heap.size = w.heap.size + 4 := by simp [hs2]
  rw [hz4]
  have hM : Mid p b wd n k (some ad) B ca cb F G w (fun _ => 0) w5 := mid_start HFL.out HB2.out hs2 hx1 hx2 hw5
  have HM := Lib.hid hM
  clear hM hw5 hz4 hw2 hc2 hx1 hx2
  gi_wp2_with fail
  refine' range_law (by omega) (gf := 180) (lb := #[.pointer (some ⟨w.heap.size + 4, 0, none⟩)]) rfl (enters_of Tryz.func180 (by kernel_rfl) rfl)
    (encs := fun g : Nat => #[.slice (some ⟨g, 0, none⟩) k k]) (fun _ => rfl) (columns_hand 4 b (w.heap.size + 4) k m B cb G (by omega) (by omega) (by omega) (by omega))
    (fun j W => Mid p b wd n k (some ad) B ca cb F G w (fun _ => j) W) (fun j W h => ?hit) (fun j X Y h hb => ?hia) (fun j X r o o' h hr ho hc => ?hip) (fun j x X₀ X r o o' h ho hc => ?hxp) HM.out _ ?assign ?body ?done
  case hit =>
    obtain ⟨V, h⟩ := h
    exact ⟨h.cb, HB.out.turned h.turned⟩
  case hia =>
    obtain ⟨V, h⟩ := h
    exact ⟨V, h.below hb⟩
  case hip =>
    obtain ⟨V, h⟩ := h
    exact ⟨V, h.kept (Kept.of_putObj (by omega) ho hc)⟩
  case hxp => exact ⟨by simpa using h.1, (Kept.of_putObj (H := 0) (Nat.zero_le _) ho hc).row h.2⟩
  case assign =>
    intro l x W K hK
    gi_wp2_with fail
    exact hK
  case body =>
    intro l j g W0 W hM hbel hj hX
    obtain ⟨V, hM⟩ := hM
    have HST := Lib.hid (show RowAt p b wd n k (some ad) B ca cb F G w j g w5.heap.size W (.int .i64 0) W from
      ⟨0, V, Nat.zero_le _, rfl, (hM.below hbel).congr (fun r _ => by rw [if_neg (by omega)]), hX.2, fun r hr e => by have := ((hM.own r hr).lt g e).2; have := hX.1; omega, Nat.le_trans hM.size hX.1, KeepsFrom.refl _ _⟩)
    have hca := (hM.below hbel).ca
    clear hM hbel hX
    try dsimp only
    gi_wp2_with fail
    gi_loopw [39] (fun s39 wr => RowAt p b wd n k (some ad) B ca cb F G w j g w5.heap.size W s39 wr) (fun s39 _ => n - (intOf s39).toNat)
    case atStart => exact HST.out
    case round =>
      clear HST hca
      obtain ⟨i, V, hi, rfl, hmv, hcol, hne, hgl, hkf⟩ := hrel
      by_cases hlt : i < n
      · obtain ⟨As', Cs', hr1, hr2⟩ := HA.out.turned hmv.turned
        obtain ⟨ad', e', hc1⟩ := hr1.at_ hlt
        injection e' with e'
        subst e'
        simp only [slis] at hc1
        have HRF := Lib.hid (hr2 i hlt)
        have HMV := Lib.hid hmv
        have HCOL := Lib.hid hcol
        have HNE := Lib.hid hne
        have HKF := Lib.hid hkf
        have hS : wr.drew.cell? ⟨w.heap.size, 0, none⟩ = some (.pointer (some ⟨b, 0, none⟩)) ∧ wr.drew.cell? ⟨w.heap.size + 2 + 1, 0, none⟩ = some (.slice (some ⟨w.heap.size + 2, 0, none⟩) n n) := ⟨hmv.cf, hmv.cp⟩
        clear hr1 hr2 hmv hcol hne hkf
        gi_wp2_with fail
        refine region_in_round (fun w' => w'.cell? ⟨w.heap.size, 0, none⟩ = some (.pointer (some ⟨b, 0, none⟩)) ∧ w'.cell? ⟨w.heap.size + 2 + 1, 0, none⟩ = some (.slice (some ⟨w.heap.size + 2, 0, none⟩) n n)) 14 rfl (by kernel_rfl) (by kernel_rfl) ?_
        refine takeL (i := 0) (v := .slice (some ⟨w.heap.size + 2, 0, none⟩) n n) rfl (by kernel_rfl) (by kernel_rfl) (by kernel_rfl) rfl (fun w' hSw => ?tk0) hS ?_
        case tk0 =>
          try dsimp only at hSw
          go_simp
        simp only [Act.put, List.setIfInBounds_toArray, List.set_cons_zero, List.set_cons_succ]
        refine takeL (i := 1) (v := .int .i64 i) rfl (by kernel_rfl) (by kernel_rfl) (by kernel_rfl) rfl (fun w' hSw => ?tk1) hS ?_
        case tk1 =>
          try dsimp only at hSw
          go_simp
        simp only [Act.put, List.setIfInBounds_toArray, List.set_cons_zero, List.set_cons_succ]
        refine takeL (i := 2) (v := .slice (some ⟨w.heap.size + 2, 0, none⟩) n n) rfl (by kernel_rfl) (by kernel_rfl) (by kernel_rfl) rfl (fun w' hSw => ?tk2) hS ?_
        case tk2 =>
          try dsimp only at hSw
          go_simp
        simp only [Act.put, List.setIfInBounds_toArray, List.set_cons_zero, List.set_cons_succ]
        refine takeL (i := 3) (v := .int .i64 i) rfl (by kernel_rfl) (by kernel_rfl) (by kernel_rfl) rfl (fun w' hSw => ?tk3) hS ?_
        case tk3 =>
          try dsimp only at hSw
          go_simp
        simp only [Act.put, List.setIfInBounds_toArray, List.set_cons_zero, List.set_cons_succ]
        refine takeL (i := 4) (v := .pointer (some ⟨w.heap.size + 2, i, none⟩)) rfl (by kernel_rfl) (by kernel_rfl) (by kernel_rfl) rfl (fun w' hSw => ?tk4) hS ?_
        case tk4 =>
          try dsimp only at hSw
          go_simp
        simp only [Act.put, List.setIfInBounds_toArray, List.set_cons_zero, List.set_cons_succ]
        refine takeL (i := 6) (v := .pointer (some ⟨b, 0, none⟩)) rfl (by kernel_rfl) (by kernel_rfl) (by kernel_rfl) rfl (fun w' hSw => ?tk6) hS ?_
        case tk6 =>
          try dsimp only at hSw
          go_simp
        simp only [Act.put, List.setIfInBounds_toArray, List.set_cons_zero, List.set_cons_succ]
        refine takeL (i := 7) (v := .slice (As' i) k (Cs' i)) rfl (by kernel_rfl) (by kernel_rfl) (by kernel_rfl) rfl (fun w' hSw => ?tk7) hS ?_
        case tk7 =>
          try dsimp only at hSw
          go_simp
        simp only [Act.put, List.setIfInBounds_toArray, List.set_cons_zero, List.set_cons_succ]
        refine takeL (i := 8) (v := .slice (some ⟨g, 0, none⟩) k k) rfl (by kernel_rfl) (by kernel_rfl) (by kernel_rfl) rfl (fun w' hSw => ?tk8) hS ?_
        case tk8 =>
          try dsimp only at hSw
          go_simp
        simp only [Act.put, List.setIfInBounds_toArray, List.set_cons_zero, List.set_cons_succ]
        obtain ⟨Ai, ci, hv, _, _⟩ := Rd.of_own (b := b) (HMV.out.own i hlt) (by omega)
        rw [if_neg (by omega)] at hv
        have g5 : wr.drew.cell? ⟨w.heap.size + 2, i, none⟩ = some (.slice Ai j ci) := by rw [← hv]; exact HMV.out.row.cell hlt
        refine stepL2 (i := 5) (j := 9) (by kernel_rfl) rfl rfl rfl rfl (fun K hK => ?br5) (fun K hK => ?br9)
        case br5 =>
          go_simp
          refine hK _ _ hS ?_
          clear hK K
          try simp only [Act.put, List.setIfInBounds_toArray, List.set_cons_zero, List.set_cons_succ]
          refine stepL (i := 9) (by kernel_rfl) rfl rfl (fun K hK => ?_)
          go_simp
          refine (dot34 p b wd (F i) (fun r => G r j) (As' i) (some ⟨g, 0, none⟩) k k (Cs' i) k (by omega) (Nat.le_refl _) _ HMV.out.drew.fld HRF.out.drew (Rd.of_row HCOL.out (by omega) (Nat.le_refl _))).mono ?_
          rintro e w3 ⟨rfl, hf3, ht3⟩
          have MV3 := Lib.hid (HMV.out.drew.turn hbl hf3 ht3)
          have COL3 := Lib.hid (ht3.row (show wr.drew.rowIs g TI k _ from HCOL.out) (by omega))
          have KF3 := Lib.hid (HKF.out.trans (show KeepsFrom w5.heap.size wr w3 from ⟨ht3.size, fun q o hq ho _ => (ht3.block q (Array.getElem?_eq_some_iff.1 ho).1 (by omega)).trans ho⟩))
          have hS3 : w3.cell? ⟨w.heap.size, 0, none⟩ = some (.pointer (some ⟨b, 0, none⟩)) ∧ w3.cell? ⟨w.heap.size + 2 + 1, 0, none⟩ = some (.slice (some ⟨w.heap.size + 2, 0, none⟩) n n) := ⟨MV3.out.cf, MV3.out.cp⟩
          have OWN3 := Lib.hid (show w3.ownsRow (w.heap.size + 5) TI 1 (.slice Ai j ci) j ((List.range j).map (i64s (mulF p F G k i))) from by have := MV3.out.own i hlt; rwa [if_neg (by omega), hv] at this)
          have g53 : w3.cell? ⟨w.heap.size + 2, i, none⟩ = some (.slice Ai j ci) := by rw [MV3.out.row.cell hlt, hv]
          have hS4 : (w3.alloc (.cells #[.int .i64 (dotN p (F i) (fun r => G r j) k)] TI)).cell? ⟨w.heap.size, 0, none⟩ = some (.pointer (some ⟨b, 0, none⟩)) ∧ (w3.alloc (.cells #[.int .i64 (dotN p (F i) (fun r => G r j) k)] TI)).cell? ⟨w.heap.size + 2 + 1, 0, none⟩ = some (.slice (some ⟨w.heap.size + 2, 0, none⟩) n n) :=
            ⟨((below_alloc _ _).cell (World.block_lt_of_cell? _ _ hS3.1)).trans hS3.1, ((below_alloc _ _).cell (World.block_lt_of_cell? _ _ hS3.2)).trans hS3.2⟩
          have g54 : (w3.alloc (.cells #[.int .i64 (dotN p (F i) (fun r => G r j) k)] TI)).cell? ⟨w.heap.size + 2, i, none⟩ = some (.slice Ai j ci) := ((below_alloc _ _).cell (World.block_lt_of_cell? _ _ g53)).trans g53
          clear hf3 ht3
          dsimp only
          refine hK _ _ hS3 ?_
          clear hK K
          try simp only [Act.put, List.setIfInBounds_toArray, List.set_cons_zero, List.set_cons_succ]
          refine stepL (i := 10) (by kernel_rfl) rfl rfl (fun K hK => ?_)
          go_simp
          refine hK _ _ hS4 ?_
          clear hK K
          try simp only [Act.put, List.setIfInBounds_toArray, List.set_cons_zero, List.set_cons_succ]
          refine stepL (i := 11) (by kernel_rfl) rfl rfl (fun K hK => ?_)
          refine wp_append_lies _ (.tmp 49) (.tmp 54) TIs rfl (w.heap.size + 5) TI i0 (.int .i64 0) 1 8 Tryz.underlying53 hi0 hz0 hz1 hz2 rfl (by decide) (.slice Ai j ci) j _ rfl (OWN3.out.alloc _) ⟨w3.heap.size, 0, none⟩ 1 1 [i64s (mulF p F G k i) j] rfl rfl (news_one rfl) (one_i64 _) (by omega) (by unfold maxLen; omega) (by omega) (by have := MV3.out.size; simp; omega) _ rfl ?_
          intro g' cap' w6 hown' hgr' hg' _
          rw [← hv] at hgr' hg'
          obtain ⟨l1, l2, l3⟩ := MV3.out.low hlt hgr'
          have g6 := l3.cell hlt
          have f6 := l3.frozen i
          rw [hv] at g6
          have HS := Lib.hid (rowAt_step MV3.out COL3.out HNE.out hgl KF3.out hlt hown' hgr' hg')
          obtain ⟨_, V', _, _, mv7, _⟩ := HS.out
          have hS7 := And.intro mv7.cf mv7.cp
          clear mv7 hown' hgr' hg' l3
          refine hK _ _ ⟨l1, l2⟩ ?_
          clear hK K
          try simp only [Act.put, List.setIfInBounds_toArray, List.set_cons_zero, List.set_cons_succ]
          refine takeL (i := 12) (v := .pointer (some ⟨w.heap.size + 2, i, none⟩)) rfl (by kernel_rfl) (by kernel_rfl) (by kernel_rfl) rfl (fun w' hSw => ?_) ⟨l1, l2⟩ ?_
          · go_simp
          try simp only [Act.put, List.setIfInBounds_toArray, List.set_cons_zero, List.set_cons_succ]
          refine stepL (i := 13) (by kernel_rfl) rfl rfl (fun K hK => ?_)
          go_simp
          refine hK _ _ hS7 ?_
          clear hK K
          refine wpAnyH_done (by kernel_rfl) ?_ _
          dsimp only [OnlyN]
          gi_wp2_with fail
          exact ⟨HS.out, by simp [intOf]; omega⟩
        case br9 =>
          go_simp
          refine (dot34 p b wd (F i) (fun r => G r j) (As' i) (some ⟨g, 0, none⟩) k k (Cs' i) k (by omega) (Nat.le_refl _) _ HMV.out.drew.fld HRF.out.drew (Rd.of_row HCOL.out (by omega) (Nat.le_refl _))).mono ?_
          rintro e w3 ⟨rfl, hf3, ht3⟩
          have MV3 := Lib.hid (HMV.out.drew.turn hbl hf3 ht3)
          have COL3 := Lib.hid (ht3.row (show wr.drew.rowIs g TI k _ from HCOL.out) (by omega))
          have KF3 := Lib.hid (HKF.out.trans (show KeepsFrom w5.heap.size wr w3 from ⟨ht3.size, fun q o hq ho _ => (ht3.block q (Array.getElem?_eq_some_iff.1 ho).1 (by omega)).trans ho⟩))
          have hS3 : w3.cell? ⟨w.heap.size, 0, none⟩ = some (.pointer (some ⟨b, 0, none⟩)) ∧ w3.cell? ⟨w.heap.size + 2 + 1, 0, none⟩ = some (.slice (some ⟨w.heap.size + 2, 0, none⟩) n n) := ⟨MV3.out.cf, MV3.out.cp⟩
          have OWN3 := Lib.hid (show w3.ownsRow (w.heap.size + 5) TI 1 (.slice Ai j ci) j ((List.range j).map (i64s (mulF p F G k i))) from by have := MV3.out.own i hlt; rwa [if_neg (by omega), hv] at this)
          have g53 : w3.cell? ⟨w.heap.size + 2, i, none⟩ = some (.slice Ai j ci) := by rw [MV3.out.row.cell hlt, hv]
          have hS4 : (w3.alloc (.cells #[.int .i64 (dotN p (F i) (fun r => G r j) k)] TI)).cell? ⟨w.heap.size, 0, none⟩ = some (.pointer (some ⟨b, 0, none⟩)) ∧ (w3.alloc (.cells #[.int .i64 (dotN p (F i) (fun r => G r j) k)] TI)).cell? ⟨w.heap.size + 2 + 1, 0, none⟩ = some (.slice (some ⟨w.heap.size + 2, 0, none⟩) n n) :=
            ⟨((below_alloc _ _).cell (World.block_lt_of_cell? _ _ hS3.1)).trans hS3.1, ((below_alloc _ _).cell (World.block_lt_of_cell? _ _ hS3.2)).trans hS3.2⟩
          have g54 : (w3.alloc (.cells #[.int .i64 (dotN p (F i) (fun r => G r j) k)] TI)).cell? ⟨w.heap.size + 2, i, none⟩ = some (.slice Ai j ci) := ((below_alloc _ _).cell (World.block_lt_of_cell? _ _ g53)).trans g53
          clear hf3 ht3
          dsimp only
          refine hK _ _ hS3 ?_
          clear hK K
          try simp only [Act.put, List.setIfInBounds_toArray, List.set_cons_zero, List.set_cons_succ]
          refine stepL2 (i := 5) (j := 10) (by kernel_rfl) rfl rfl rfl rfl (fun K hK => ?bb5) (fun K hK => ?bb10)
          case bb5 =>
            go_simp
            refine hK _ _ hS3 ?_
            clear hK K
            try simp only [Act.put, List.setIfInBounds_toArray, List.set_cons_zero, List.set_cons_succ]
            refine stepL (i := 10) (by kernel_rfl) rfl rfl (fun K hK => ?_)
            go_simp
            refine hK _ _ hS4 ?_
            clear hK K
            try simp only [Act.put, List.setIfInBounds_toArray, List.set_cons_zero, List.set_cons_succ]
            refine stepL (i := 11) (by kernel_rfl) rfl rfl (fun K hK => ?_)
            refine wp_append_lies _ (.tmp 49) (.tmp 54) TIs rfl (w.heap.size + 5) TI i0 (.int .i64 0) 1 8 Tryz.underlying53 hi0 hz0 hz1 hz2 rfl (by decide) (.slice Ai j ci) j _ rfl (OWN3.out.alloc _) ⟨w3.heap.size, 0, none⟩ 1 1 [i64s (mulF p F G k i) j] rfl rfl (news_one rfl) (one_i64 _) (by omega) (by unfold maxLen; omega) (by omega) (by have := MV3.out.size; simp; omega) _ rfl ?_
            intro g' cap' w6 hown' hgr' hg' _
            rw [← hv] at hgr' hg'
            obtain ⟨l1, l2, l3⟩ := MV3.out.low hlt hgr'
            have g6 := l3.cell hlt
            have f6 := l3.frozen i
            rw [hv] at g6
            have HS := Lib.hid (rowAt_step MV3.out COL3.out HNE.out hgl KF3.out hlt hown' hgr' hg')
            obtain ⟨_, V', _, _, mv7, _⟩ := HS.out
            have hS7 := And.intro mv7.cf mv7.cp
            clear mv7 hown' hgr' hg' l3
            refine hK _ _ ⟨l1, l2⟩ ?_
            clear hK K
            try simp only [Act.put, List.setIfInBounds_toArray, List.set_cons_zero, List.set_cons_succ]
            refine takeL (i := 12) (v := .pointer (some ⟨w.heap.size + 2, i, none⟩)) rfl (by kernel_rfl) (by kernel_rfl) (by kernel_rfl) rfl (fun w' hSw => ?_) ⟨l1, l2⟩ ?_
            · go_simp
            try simp only [Act.put, List.setIfInBounds_toArray, List.set_cons_zero, List.set_cons_succ]
            refine stepL (i := 13) (by kernel_rfl) rfl rfl (fun K hK => ?_)
            go_simp
            refine hK _ _ hS7 ?_
            clear hK K
            refine wpAnyH_done (by kernel_rfl) ?_ _
            dsimp only [OnlyN]
            gi_wp2_with fail
            exact ⟨HS.out, by simp [intOf]; omega⟩
          case bb10 =>
            go_simp
            refine hK _ _ hS4 ?_
            clear hK K
            try simp only [Act.put, List.setIfInBounds_toArray, List.set_cons_zero, List.set_cons_succ]
            refine stepL (i := 5) (by kernel_rfl) rfl rfl (fun K hK => ?_)
            go_simp
            refine hK _ _ hS4 ?_
            clear hK K
            try simp only [Act.put, List.setIfInBounds_toArray, List.set_cons_zero, List.set_cons_succ]
            refine stepL (i := 11) (by kernel_rfl) rfl rfl (fun K hK => ?_)
            refine wp_append_lies _ (.tmp 49) (.tmp 54) TIs rfl (w.heap.size + 5) TI i0 (.int .i64 0) 1 8 Tryz.underlying53 hi0 hz0 hz1 hz2 rfl (by decide) (.slice Ai j ci) j _ rfl (OWN3.out.alloc _) ⟨w3.heap.size, 0, none⟩ 1 1 [i64s (mulF p F G k i) j] rfl rfl (news_one rfl) (one_i64 _) (by omega) (by unfold maxLen; omega) (by omega) (by have := MV3.out.size; simp; omega) _ rfl ?_
            intro g' cap' w6 hown' hgr' hg' _
            rw [← hv] at hgr' hg'
            obtain ⟨l1, l2, l3⟩ := MV3.out.low hlt hgr'
            have g6 := l3.cell hlt
            have f6 := l3.frozen i
            rw [hv] at g6
            have HS := Lib.hid (rowAt_step MV3.out COL3.out HNE.out hgl KF3.out hlt hown' hgr' hg')
            obtain ⟨_, V', _, _, mv7, _⟩ := HS.out
            have hS7 := And.intro mv7.cf mv7.cp
            clear mv7 hown' hgr' hg' l3
            refine hK _ _ ⟨l1, l2⟩ ?_
            clear hK K
            try simp only [Act.put, List.setIfInBounds_toArray, List.set_cons_zero, List.set_cons_succ]
            refine takeL (i := 12) (v := .pointer (some ⟨w.heap.size + 2, i, none⟩)) rfl (by kernel_rfl) (by kernel_rfl) (by kernel_rfl) rfl (fun w' hSw => ?_) ⟨l1, l2⟩ ?_
            · go_simp
            try simp only [Act.put, List.setIfInBounds_toArray, List.set_cons_zero, List.set_cons_succ]
            refine stepL (i := 13) (by kernel_rfl) rfl rfl (fun K hK => ?_)
            go_simp
            refine hK _ _ hS7 ?_
            clear hK K
            refine wpAnyH_done (by kernel_rfl) ?_ _
            dsimp only [OnlyN]
            gi_wp2_with fail
            exact ⟨HS.out, by simp [intOf]; omega⟩
      · obtain rfl : i = n := by omega
        have HE := Lib.hid (show KeepsFrom w5.heap.size W wr ∧ Mid p b wd i k (some ad) B ca cb F G w (fun _ => j + 1) wr from ⟨hkf, V, hmv.congr (fun r hr => by rw [if_pos hr])⟩)
        clear hmv hcol hne hkf
        gi_wp2_with fail
        exact HE.out
  case done =>
    rintro D W hD hM hK
    have HE := Lib.hid (show MulSaidM p b wd n k m (some ad) B ca cb F G w (.returned (.tuple #[.slice (some ⟨w.heap.size + 2, 0, none⟩) n n, .int .i64 0])) (W.putObj D (.deferred none)) from by
      obtain ⟨V, hV⟩ := hM
      exact ⟨rfl, V, hV.kept (Kept.of_putObj (o' := .deferred none) (by omega) hK rfl)⟩)
    obtain ⟨V, hV⟩ := hM
    have hcp := hV.cp
    clear hV
    gi_wp2_with fail
    refine ⟨by simp, .inl ⟨_, _, rfl, run_takeDeferred hK, ?_⟩⟩
    exact ⟨_, results_tmp2 (t := 6) (u := 7) rfl _ _ _, HE.out⟩

theorem mmul_cap (p b wd : Nat) (F G : Nat → Nat → Int) (A B : Option Addr) (n k m ca cb : Nat) (w : World) (hfl : Fld p b wd w) (ha : Mx b w F (fun _ => k) A n) (hb : Mx b w G (fun _ => m) B k)
    (hma : mayP (M.ord p) n (fun _ => k) F) (hmb : mayP (M.ord p) k (fun _ => m) G) :
    Calls Tryz.prog 120 #[.pointer (some ⟨b, 0, none⟩), .slice A n ca, .slice B k cb] w (MulSaidC p b wd n k m F G w) :=
  (mmul_mid p b wd F G A B n k m ca cb w hfl ha hb hma hmb).mono fun _ _ ⟨he, hM⟩ => by
    have ht := hM.told hfl.lt
    obtain ⟨V, hV⟩ := hM
    exact ⟨_, _, he, Nat.le_refl _, ht, hV.fld, hV.turned⟩

end Go.Proofs.YtgdgimknnjbieaaGreatDoor
