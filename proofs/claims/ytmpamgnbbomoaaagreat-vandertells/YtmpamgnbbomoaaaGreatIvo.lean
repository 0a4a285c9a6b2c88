/- Contracts of gambrelref05: scaled, added and pivot. -/
import Derived.Test.YtmpamgnbbomoaaaGreatIvk
import Derived.Test.YtmpamgnbbomoaaaGreatMtr
namespace Go.Proofs.YtmpamgnbbomoaaaGreat
open Go.RowKit

/-- in the loops of scaled and added -/
def ListAt (n : Nat) (l : Nat → Int) (w : World) (so si : Value) (wr : World) : Prop := ∃ k : Nat, k ≤ n ∧ si = .int .i64 k ∧ App w TI (i64s l) k so wr

set_option maxRecDepth 100000 in
set_option maxHeartbeats 2000000 in
theorem scaled52 (p b wd : Nat) (hg : Good p wd) (l : Nat → Int) (c : Int) (A : Option Addr) (n ca : Nat) (hn : n ≤ 1000) (w : World) (hr : Rd b w (i64s l) A n) :
    Calls Tryz.prog 66 #[.int .i64 wd, .int .u32 p, .slice A n ca, .int .i64 c] w fun e w' => ∃ v, e = .returned v ∧ App w TI (i64s (fun j => fmul p (l j) c)) n v w' := by
  obtain ⟨j0, hj, hy0, hy1, hy2⟩ := info_parts infoI
  have HR := Lib.hid hr
  clear hr
  go_enter Tryz.func66, Tryz.ntmps66
  go_wp2_with fail
  go_loopw [9, 10] (fun s9 s10 wr => ListAt n (fun j => fmul p (l j) c) w s9 s10 wr) (fun _ s10 _ => n - (intOf s10).toNat)
  case atStart => exact ⟨0, Nat.zero_le _, rfl, App.start _ _ _⟩
  case round =>
    obtain ⟨k, hk, rfl, ha⟩ := hrel
    have HA := Lib.hid ha
    have hsz := ha.2.size
    clear ha
    by_cases hlt : k < n
    · obtain ⟨ad, rfl, hcell⟩ := (HR.out.below HA.out.2).at_ hlt
      simp only [i64s] at hcell
      have HV := Lib.hid (show i64s (fun j => fmul p (l j) c) k = .int .i64 (fmul p (l k) c) from rfl)
      obtain ⟨x, hx⟩ : ∃ x, l k = x := ⟨_, rfl⟩
      rw [hx] at hcell HV
      clear hx
      go_wp2_with fail
      refine (rmul20 p wd hg x c _).mono ?_
      rintro e w' ⟨rfl, rfl⟩
      obtain ⟨y, hy⟩ : ∃ y, fmul p x c = y := ⟨_, rfl⟩
      rw [hy] at HV ⊢
      clear hy
      go_wp2_with (at_builtin; refine wpList_append_own _ rfl _ _ TIs rfl w.heap.size TI j0 (.int .i64 0) 1 8 underI hj hy0 hy1 hy2 rfl (by decide) _ _ _ rfl (HA.out.1.alloc _) ⟨wr.heap.size, 0, none⟩ 1 1 [i64s (fun j => fmul p (l j) c) k] rfl rfl (news_one HV.out.symm) (one_i64 _) (by unfold maxLen; omega) (by omega) (by simp; omega) ?_)
      intro v' w1 hown' hgrow _
      have HS := Lib.hid (HA.out.step hown' hgrow)
      clear hown' hgrow
      go_wp2_with fail
      exact ⟨⟨k + 1, hlt, by go_num, HS.out⟩, by simp [intOf]; omega⟩
    · obtain rfl : k = n := by omega
      go_wp2_with fail
      go_ret
      exact ⟨_, rfl, HA.out⟩

set_option maxRecDepth 100000 in
set_option maxHeartbeats 2000000 in
theorem added53 {q : FP} (b wd : Nat) (hg : Good q.p wd) (x y : Nat → El q) (A B : Option Addr) (n ca cb : Nat) (hn : n ≤ 1000) (w : World) (hra : Rd b w (i64s (fun j => ((x j).val : Int))) A n) (hrb : Rd b w (i64s (fun j => ((y j).val : Int))) B n) :
    Calls Tryz.prog 67 #[.slice A n ca, .slice B n cb] w fun e w' => ∃ v, e = .returned v ∧ App w TI (i64s (fun j => ((x j + y j).val : Int))) n v w' := by
  obtain ⟨j0, hj, hy0, hy1, hy2⟩ := info_parts infoI
  have HA := Lib.hid hra
  have HB := Lib.hid hrb
  clear hra hrb
  go_enter Tryz.func67, Tryz.ntmps67
  go_wp2_with fail
  go_loopw [5, 6] (fun s5 s6 wr => ListAt n (fun j => ((x j + y j).val : Int)) w s5 s6 wr) (fun _ s6 _ => n - (intOf s6).toNat)
  case atStart => exact ⟨0, Nat.zero_le _, rfl, App.start _ _ _⟩
  case round =>
    obtain ⟨k, hk, rfl, happ⟩ := hrel
    have HAP := Lib.hid happ
    have hsz := happ.2.size
    clear happ
    by_cases hlt : k < n
    · obtain ⟨ad, rfl, hc1⟩ := (HA.out.below HAP.out.2).at_ hlt
      obtain ⟨ad', rfl, hc2⟩ := (HB.out.below HAP.out.2).at_ hlt
      simp only [i64s] at hc1 hc2
      have HV := Lib.hid (show i64s (fun j => ((x j + y j).val : Int)) k = .int .i64 (((x k).val ^^^ (y k).val : Nat) : Int) from rfl)
      have KEEP := Lib.hid (show ∀ w', Below w.heap.size w w' → w'.cell? (ad.add k) = some (.int .i64 ((x k).val : Nat)) ∧ w'.cell? (ad'.add k) = some (.int .i64 ((y k).val : Nat)) from fun w' hb' => by
        obtain ⟨a1, e1, h1⟩ := (HA.out.below hb').at_ hlt
        obtain ⟨a2, e2, h2⟩ := (HB.out.below hb').at_ hlt
        injection e1 with e1
        injection e2 with e2
        subst e1 e2
        exact ⟨h1, h2⟩)
      have HX := Lib.hid (show bits .xor .i64 (((x k).val : Nat) : Int) (((y k).val : Nat) : Int) = (((x k).val ^^^ (y k).val : Nat) : Int) from i64_xor_el hg (x k) (y k))
      obtain ⟨u, hu⟩ : ∃ u : Nat, (x k).val = u := ⟨_, rfl⟩
      obtain ⟨v, hv⟩ : ∃ v : Nat, (y k).val = v := ⟨_, rfl⟩
      rw [hu] at hc1 HV KEEP HX
      rw [hv] at hc2 HV KEEP HX
      clear hu hv
      go_wp2_with fail
      go_region_held3 (fun w' => w'.cell? (ad.add k) = some (.int .i64 (u : Nat)) ∧ w'.cell? (ad'.add k) = some (.int .i64 (v : Nat)))
        (first | exact ⟨hc1, hc2⟩ | exact KEEP.out _ (HAP.out.2.drew.alloc hsz _) | exact KEEP.out _ (HAP.out.drew.step hownx hgx).2 | assumption)
        (first
          | (refine step_append_lies _ rfl (.tmp 13) (.tmp 23) TIs rfl w.heap.size TI j0 (.int .i64 0) 1 8 underI hj hy0 hy1 hy2 rfl (by decide) _ k _ (by simp [Act.eval]) (HAP.out.1.alloc _) ⟨wr.heap.size, 0, none⟩ 1 1 [i64s (fun j => ((x j + y j).val : Int)) k] (by simp [Act.eval]) rfl (news_one (by rw [HV.out, HX.out])) (one_i64 _) (by omega) (by unfold maxLen; omega) (by omega) (by simp; omega) _ rfl ?_; intro gx cx wx hownx hgx hatx hltx))
      have HS := Lib.hid (HAP.out.drew.step hownx hgx)
      clear hownx hgx hatx hltx
      go_wp2_with fail
      exact ⟨⟨k + 1, hlt, by go_num, HS.out⟩, by simp [intOf]; omega⟩
    · obtain rfl : k = n := by omega
      go_wp2_with fail
      go_ret
      exact ⟨_, rfl, HAP.out⟩

/-- in pivot's loop -/
def RPivAt {q : FP} (n : Nat) (X : Nat → Nat → El q) (j t : Nat) (si : Value) : Prop := ∃ i : Nat, t ≤ i ∧ i ≤ n ∧ si = .int .i64 i ∧ ∀ r, t ≤ r → r < i → X r j = 0

/-- what pivot tells -/
def RPivSaid {q : FP} (n : Nat) (X : Nat → Nat → El q) (j t : Nat) (w : World) (e : Ending) (w' : World) : Prop := e = .returned (.int .i64 (if fnd X j (n - t) t < n then (fnd X j (n - t) t : Nat) else -1)) ∧ w = w'

set_option maxRecDepth 100000 in
set_option maxHeartbeats 2000000 in
theorem pivot50 {q : FP} (b : Nat) (X : Nat → Nat → El q) (A : Option Addr) (n m ca t j : Nat) (ht : t ≤ n) (hj : j < m) (hn : n ≤ 1000) (w : World) (hr : Mx b w (ivs X) (fun _ => m) A n) :
    Calls Tryz.prog 64 #[.slice A n ca, .int .i64 t, .int .i64 j] w (RPivSaid n X j t w) := by
  obtain ⟨As, Cs, h1, h2⟩ := hr
  have HR := Lib.hid h1
  have HRS := Lib.hid h2
  clear h1 h2
  go_enter Tryz.func64, Tryz.ntmps64
  go_wp2_with fail
  go_loop [7] (fun s7 => RPivAt n X j t s7) (fun s7 => n - (intOf s7).toNat)
  case atStart => exact ⟨t, Nat.le_refl _, ht, rfl, fun r h1 h2 => absurd h2 (by omega)⟩
  case round =>
    obtain ⟨i, hti, hi, rfl, hall⟩ := hrel
    have HALL := Lib.hid hall
    clear hall
    by_cases hlt : i < n
    · obtain ⟨ad, rfl, hc1⟩ := HR.out.at_ hlt
      simp only [slis] at hc1
      obtain ⟨ad2, hA2, hc2⟩ := (HRS.out i hlt).at_ hj
      rw [hA2] at hc1
      simp only [i64s, ivs] at hc2
      have hi63 : (i : Int) < (n : Int) := by omega
      have hj63 : (j : Int) < (m : Int) := by omega
      by_cases h0 : X i j = 0
      · have HNX := Lib.hid (show ∀ r, t ≤ r → r < i + 1 → X r j = 0 from fun r h1 h2 => (Nat.lt_succ_iff_lt_or_eq.1 h2).elim (fun h => HALL.out r h1 h) (fun h => by rw [h]; exact h0))
        rw [h0, El.zero_val] at hc2
        clear h0 hA2
        go_wp2_with fail
        exact ⟨⟨i + 1, by omega, hlt, by go_num, HNX.out⟩, by simp [intOf]; omega⟩
      · have hf := fnd_is (F := X) (j := j) (n - t) t i hti (by omega) HALL.out (Or.inr h0)
        have HE := Lib.hid (show RPivSaid n X j t w (.returned (.int .i64 (i : Nat))) w from ⟨by rw [hf, if_pos hlt], rfl⟩)
        have hv0 : (X i j).val ≠ 0 := fun e => h0 (El.eq_zero.2 e)
        obtain ⟨u, hu⟩ : ∃ u : Nat, (X i j).val = u := ⟨_, rfl⟩
        rw [hu] at hv0 hc2
        have hne : (((u : Nat) : Int) != 0) = true := by simp; omega
        clear h0 hA2 hf hu
        go_wp2_with fail
        go_ret
        exact HE.out
    · obtain rfl : i = n := by omega
      have hf := fnd_is (F := X) (j := j) (i - t) t i hti (by omega) HALL.out (Or.inl (by omega))
      have HE := Lib.hid (show RPivSaid i X j t w (.returned (.int .i64 (-1))) w from ⟨by rw [hf, if_neg (by omega)], rfl⟩)
      clear hf
      go_wp2_with fail
      go_ret
      exact HE.out
end Go.Proofs.YtmpamgnbbomoaaaGreat
