/- Contracts of gambrelref03's Mul and Add; of Mul and Add of package region for any input, in one form each. -/
import Derived.Test.YtgbipbcejjlpiaaGreatDoorRgi
import Derived.Test.YtgbipbcejjlpiaaGreatDoorRgn
import Derived.Deep.RegionHeld3
import Derived.Deep.RegionLaw
namespace Go.Proofs.YtgbipbcejjlpiaaGreatDoor
open Go.RowKit

/-- what Mul of the document tells -/
def RMulAny (p b n L : Nat) (a : Int) (f : Nat → Nat) (w : World) (e : Ending) (w' : World) : Prop :=
  ∃ t v, e = .returned (.tuple #[v, .bool t]) ∧ (t = true ↔ inB (M.ord p) a = true ∧ L % n = 0) ∧ BytesTold b (cond t L 0) (mulB p n a f) w v w'
/-- in its loop -/
def RMulAt (p n m : Nat) (a : Int) (f : Nat → Nat) (w : World) (s12 s13 : Value) (wr : World) : Prop :=
  ∃ k : Nat, k ≤ m ∧ s13 = .int .i64 k ∧ App w TI (i64s (fun j => fmul p a (word n f j))) k s12 wr

set_option maxRecDepth 100000 in
set_option maxHeartbeats 2000000 in
theorem rmul22 (p b wd n : Nat) (hg : Good p wd) (hw : Wide wd n (M.ord p)) (a : Int) (f : Nat → Nat) (hf : ∀ j, f j < 256) (A : Option Addr) (L cap : Nat) (hL : L ≤ 1000) (w : World) (hbw : b < w.heap.size) (hr : Rd b w (u8s f) A L) :
    Calls Tryz.prog 53 #[.int .i64 wd, .int .u32 p, .int .i64 a, .slice A L cap] w (RMulAny p b n L a f w) := by
  obtain ⟨i0, hi, hz0, hz1, hz2⟩ := info_parts infoI
  have HR := Lib.hid hr
  clear hr
  have hk := hw.kind
  go_enter Tryz.func53, Tryz.ntmps53
  go_wp2_with fail
  refine (rwords12 b wd n _ hw f hf A L cap (by omega) _ hbw HR.out).mono ?_
  rintro e w1 ⟨v1, rfl, A1, c1, rfl, _, hrd1, hb1⟩
  by_cases hd : L % n = 0
  · rw [decide_eq_true hd]
    cases hin : inB (M.ord p) a
    · have HE := Lib.hid (show RMulAny p b n L a f w (.returned (.tuple #[nilS, .bool false])) w1 from ⟨false, _, rfl, by simp [hin], bytesTold_nil hb1⟩)
      have HIN := Lib.hid hin
      clear hin hrd1 hb1 hd
      go_wp2_with fail
      refine (rin32 wd _ hk a _).mono ?_
      rintro e w' ⟨rfl, rfl⟩
      rw [HIN.out]
      go_wp2_with fail
      go_ret2
      exact HE.out
    · have HIN := Lib.hid hin
      have HD := Lib.hid hd
      obtain ⟨m, hm⟩ : ∃ m, L / n = m := ⟨_, rfl⟩
      have hmb : m ≤ 1000 := by have := Nat.div_le_self L n; omega
      have HML := Lib.hid (show m * n = L by rw [← hm]; exact Nat.div_mul_cancel (Nat.dvd_of_mod_eq_zero hd))
      rw [hm] at hrd1 ⊢
      have HR1 := Lib.hid hrd1
      have HB1 := Lib.hid hb1
      have hbl1 := Nat.lt_of_lt_of_le hbw hb1.size
      clear hin hrd1 hb1 hd hm
      go_wp2_with fail
      refine (rin32 wd _ hk a _).mono ?_
      rintro e w' ⟨rfl, rfl⟩
      rw [HIN.out]
      go_wp2_with fail
      go_loopw [12, 13] (fun s12 s13 wr => RMulAt p n m a f w1 s12 s13 wr) (fun _ s13 _ => m - (intOf s13).toNat)
      case atStart => exact ⟨0, Nat.zero_le _, rfl, App.start _ _ _⟩
      case round =>
        obtain ⟨k, hk', rfl, happ⟩ := hrel
        by_cases hlt : k < m
        · obtain ⟨ad, rfl, hcell⟩ := (HR1.out.below happ.2).at_ hlt
          simp only [i64s] at hcell
          have HA := Lib.hid happ
          have hsz := happ.2.size
          clear happ
          go_wp2_with (first
            | (go_at_call 84; refine (rmul20 p wd hg a _ _).mono ?_; rintro e w' ⟨rfl, rfl⟩)
            | (at_builtin; refine wpList_append_own _ rfl _ _ TIs rfl w1.heap.size TI i0 (.int .i64 0) 1 8 Tryz.underlying51 hi hz0 hz1 hz2 rfl (by decide) _ _ _ rfl (HA.out.1.alloc _) ⟨wr.heap.size, 0, none⟩ 1 1 [i64s (fun j => fmul p a (word n f j)) k] rfl rfl (news_one rfl) (one_i64 _) (by unfold maxLen; omega) (by omega) (by simp; omega) ?_))
          intro v' wx hown' hgrow _
          have HS := Lib.hid (HA.out.step hown' hgrow)
          clear hown' hgrow HA
          go_wp2_with fail
          exact ⟨⟨k + 1, hlt, by go_num, HS.out⟩, by simp [intOf]; omega⟩
        · obtain rfl : k = m := by omega
          obtain ⟨A2, c2, rfl, _, hrd2⟩ := happ.rd hbl1
          have hbl2 := Nat.lt_of_lt_of_le hbl1 happ.2.size
          have HB2 := Lib.hid (below_tr HB1.out happ.2)
          have HR2 := Lib.hid hrd2
          clear happ hrd2
          go_wp2_with fail
          refine (rbytes_any b wd n _ hw _ A2 k c2 (by omega) _ hbl2 HR2.out).mono ?_
          rintro e w3 ⟨t, v3, rfl, ht, hv3⟩
          obtain rfl : t = true := ht.2 (fun j _ => fmul_le hg a _)
          have HE := Lib.hid (show RMulAny p b n L a f w (.returned (.tuple #[v3, .bool true])) w3 from ⟨true, v3, rfl, by simp [HIN.out, HD.out], by
            have := BytesTold.from HB2.out hv3
            rw [show cond true (k * n) 0 = L from HML.out] at this
            exact this⟩)
          clear hv3 ht
          go_wp2_with fail
          go_ret2
          exact HE.out
  · rw [decide_eq_false hd]
    have HE := Lib.hid (show RMulAny p b n L a f w (.returned (.tuple #[nilS, .bool false])) w1 from ⟨false, _, rfl, by simp [hd], bytesTold_nil hb1⟩)
    clear hrd1 hb1 hd
    go_wp2_with fail
    go_ret2
    exact HE.out

/-- what Mul tells -/
def MulAny (p b wd n L : Nat) (a : Int) (f : Nat → Nat) (w : World) (e : Ending) (w' : World) : Prop :=
  ∃ t A c, e = .returned (.tuple #[.slice A (cond t L 0) c, .int .i64 (errOf t)]) ∧ (t = true ↔ inB (M.ord p) a = true ∧ L % n = 0) ∧ Rd b w' (u8s (mulB p n a f)) A (cond t L 0) ∧ Fld p b wd w' ∧ Turned b w w'
theorem mul_any (p b wd n : Nat) (hw : Wide wd n (M.ord p)) (a : Int) (f : Nat → Nat) (hf : ∀ j, f j < 256) (A : Option Addr) (L cap : Nat) (hL : L ≤ 1000) (w : World) (hfl : Fld p b wd w) (hr : Rd b w (u8s f) A L) :
    Calls Tryz.prog 46 #[.pointer (some ⟨b, 0, none⟩), .int .i64 a, .slice A L cap] w (MulAny p b wd n L a f w) := by
  cases hin : inB (M.ord p) a
  · refine (mul_out p b wd a hin _ w hfl).mono ?_
    rintro e w' ⟨rfl, rfl⟩
    exact ⟨false, none, 0, rfl, by simp [hin], Rd.zero, hfl, Turned.refl _ _⟩
  · by_cases hd : L % n = 0
    · have h1 := inB_iff.1 hin
      refine (mul_yes p b wd n hw a h1.1 h1.2 f hf A (L / n) L cap (Nat.mul_div_cancel' (Nat.dvd_of_mod_eq_zero hd)).symm (by have := Nat.div_le_self L n; omega) w hfl hr).mono ?_
      rintro e w' ⟨g, rfl, _, h2, h3, h4⟩
      exact ⟨true, _, L, rfl, by simp [hin, hd], h2, h3, h4⟩
    · refine (mul_odd p b wd n hw a hin A L cap hd (by omega) w hfl).mono ?_
      rintro e w' ⟨rfl, rfl⟩
      exact ⟨false, none, 0, rfl, by simp [hd], Rd.zero, hfl, Turned.refl _ _⟩

/-- what Add of the document tells -/
def RAddAny (b n m : Nat) (f g : Nat → Nat) (w : World) (e : Ending) (w' : World) : Prop :=
  ∃ t v, e = .returned (.tuple #[v, .bool t]) ∧ (t = true ↔ n = m) ∧ BytesTold b (cond t n 0) (fun i => f i ^^^ g i) w v w'
/-- in its loop -/
def RAddAt (n : Nat) (f g : Nat → Nat) (w : World) (s6 s7 : Value) (wr : World) : Prop :=
  ∃ k : Nat, k ≤ n ∧ s7 = .int .i64 k ∧ App w TB (u8s (fun i => f i ^^^ g i)) k s6 wr

set_option maxRecDepth 100000 in
set_option maxHeartbeats 2000000 in
theorem radd24 (b : Nat) (f g : Nat → Nat) (hf : ∀ j, f j < 256) (hg : ∀ j, g j < 256) (A B : Option Addr) (n m ca cb : Nat) (hn : n ≤ 1000) (w : World) (hbw : b < w.heap.size) (ha : Rd b w (u8s f) A n) (hb : Rd b w (u8s g) B m) :
    Calls Tryz.prog 54 #[.slice A n ca, .slice B m cb] w (RAddAny b n m f g w) := by
  obtain ⟨i0, hi, hz0, hz1, hz2⟩ := info_parts infoB
  by_cases h : n = m
  · subst h
    have HA := Lib.hid ha
    have HB := Lib.hid hb
    clear ha hb
    go_enter Tryz.func54, Tryz.ntmps54
    go_wp2_with fail
    go_loopw [6, 7] (fun s6 s7 wr => RAddAt n f g w s6 s7 wr) (fun _ s7 _ => n - (intOf s7).toNat)
    case atStart => exact ⟨0, Nat.zero_le _, rfl, App.start _ _ _⟩
    case round =>
      obtain ⟨k, hk, rfl, happ⟩ := hrel
      by_cases hlt : k < n
      · obtain ⟨ad, rfl, hc1⟩ := (HA.out.below happ.2).at_ hlt
        obtain ⟨ad', rfl, hc2⟩ := (HB.out.below happ.2).at_ hlt
        simp only [u8s] at hc1 hc2
        have hx := hf k
        have hy := hg k
        have HX := Lib.hid (u8_xor_nat (f k) (g k) (by omega) (by omega))
        have HAP := Lib.hid happ
        have hsz := happ.2.size
        obtain ⟨x, hfx⟩ : ∃ x, f k = x := ⟨_, rfl⟩
        obtain ⟨y, hgy⟩ : ∃ y, g k = y := ⟨_, rfl⟩
        have HFX := Lib.hid hfx
        have HGY := Lib.hid hgy
        rw [hfx] at hc1 hx HX
        rw [hgy] at hc2 hy HX
        have KEEP := Lib.hid (show ∀ w', Below w.heap.size w w' → w'.cell? (ad.add k) = some (.int .u8 (x : Nat)) ∧ w'.cell? (ad'.add k) = some (.int .u8 (y : Nat)) from fun w' hb' => by
          obtain ⟨a1, e1, h1⟩ := (HA.out.below hb').at_ hlt
          obtain ⟨a2, e2, h2⟩ := (HB.out.below hb').at_ hlt
          injection e1 with e1
          injection e2 with e2
          subst e1 e2
          rw [h1, h2, ← hfx, ← hgy]
          exact ⟨rfl, rfl⟩)
        clear happ hfx hgy
        go_wp2_with fail
        go_region_held3 (fun w' => w'.cell? (ad.add k) = some (.int .u8 (x : Nat)) ∧ w'.cell? (ad'.add k) = some (.int .u8 (y : Nat)))
          (first | exact ⟨hc1, hc2⟩ | exact KEEP.out _ (HAP.out.2.drew.alloc hsz _) | exact KEEP.out _ (HAP.out.drew.step hownx hgx).2 | assumption)
          (first
            | (refine step_append_lies _ rfl (.tmp 19) (.tmp 29) TBs rfl w.heap.size TB i0 (.int .u8 0) 1 1 Tryz.underlying34 hi hz0 hz1 hz2 rfl (by decide) _ k _ (by simp [Act.eval]) (HAP.out.1.alloc _) ⟨wr.heap.size, 0, none⟩ 1 1 [.int .u8 (f k ^^^ g k : Nat)] (by simp [Act.eval]) rfl (news_one (by rw [HFX.out, HGY.out, ← HX.out])) (one_u8 _) (by omega) (by unfold maxLen; omega) (by omega) (by simp; omega) _ rfl ?_; intro gx cx wx hownx hgx hatx hltx))
        have HS := Lib.hid (HAP.out.drew.step hownx hgx)
        clear hownx hgx hatx hltx
        go_wp2_with fail
        exact ⟨⟨k + 1, hlt, by go_num, HS.out⟩, by simp [intOf]; omega⟩
      · obtain rfl : k = n := by omega
        have HE := Lib.hid (show RAddAny b k k f g w (.returned (.tuple #[_, .bool true])) wr from ⟨true, _, rfl, by simp, BytesTold.of happ hbw⟩)
        clear happ
        go_wp2_with fail
        go_ret2
        exact HE.out
  · have hne : (((n : Nat) : Int) != ((m : Nat) : Int)) = true := by simp; omega
    have HE := Lib.hid (show RAddAny b n m f g w (.returned (.tuple #[nilS, .bool false])) w from ⟨false, _, rfl, by simp [h], bytesTold_nil (Below.refl _ _)⟩)
    clear h ha hb
    go_enter Tryz.func54, Tryz.ntmps54
    go_wp2_with fail
    go_ret2
    exact HE.out
end Go.Proofs.YtgbipbcejjlpiaaGreatDoor
