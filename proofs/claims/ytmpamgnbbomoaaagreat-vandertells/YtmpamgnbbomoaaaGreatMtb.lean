/- The contract of package matrix's dot: the sum of the products. -/
import Derived.Test.YtmpamgnbbomoaaaGreatMta
import Derived.Test.YtmpamgnbbomoaaaGreatXor
namespace Go.Proofs.YtmpamgnbbomoaaaGreat
open Go.RowKit

theorem fmulr {p wd : Nat} (hg : Good p wd) (a x : Int) : 0 ≤ fmul p a x ∧ fmul p a x ≤ M.ord p := by
  unfold fmul
  split
  · have := M.md_in hg.prim.1 (M.mul a.toNat x.toNat)
    omega
  · omega

/-- the sum of the products of the first n numbers -/
def dotN (p : Nat) (x y : Nat → Int) : Nat → Nat
  | 0 => 0
  | n + 1 => dotN p x y n ^^^ (fmul p (x n) (y n)).toNat
theorem dotN_le {p wd : Nat} (hg : Good p wd) (x y : Nat → Int) : ∀ n, dotN p x y n ≤ M.ord p
  | 0 => Nat.zero_le _
  | n + 1 => M.xor_le hg.prim.1 (dotN_le hg x y n) (by have := fmulr hg (x n) (y n); omega)
theorem dotN_congr {p : Nat} {x y x' y' : Nat → Int} : ∀ {n : Nat}, (∀ j, j < n → x j = x' j) → (∀ j, j < n → y j = y' j) → dotN p x y n = dotN p x' y' n
  | 0, _, _ => rfl
  | n + 1, h1, h2 => by
    rw [dotN, dotN, dotN_congr (fun j hj => h1 j (by omega)) (fun j hj => h2 j (by omega)), h1 n (by omega), h2 n (by omega)]

/-- in dot's loop -/
def DotAt (p b wd n : Nat) (x y : Nat → Int) (w : World) (s7 s12 : Value) (wr : World) : Prop :=
  ∃ k : Nat, k ≤ n ∧ s12 = .int .i64 k ∧ s7 = .int .i64 (dotN p x y k) ∧ Fld p b wd wr ∧ Turned b w wr

set_option maxRecDepth 100000 in
set_option maxHeartbeats 1000000 in
theorem dot34 (p b wd : Nat) (x y : Nat → Int) (A B : Option Addr) (n m ca cb : Nat) (hn : n ≤ 100000) (hm : n ≤ m) (w : World) (hfl : Fld p b wd w) (ha : Rd b w (i64s x) A n) (hb : Rd b w (i64s y) B m) :
    Calls Tryz.prog 43 #[.pointer (some ⟨b, 0, none⟩), .slice A n ca, .slice B m cb] w (Ans p b wd w (.int .i64 (dotN p x y n))) := by
  have hg := hfl.1
  have hbd := hg.bounds
  have HF := Lib.hid hfl
  have HA := Lib.hid ha
  have HB := Lib.hid hb
  clear hfl ha hb
  go_enter Tryz.func43, Tryz.ntmps43
  go_wp2_with fail
  go_loopw [7, 12] (fun s7 s12 wr => DotAt p b wd n x y w s7 s12 wr) (fun _ s12 _ => n - (intOf s12).toNat)
  case atStart => exact ⟨0, Nat.zero_le _, rfl, rfl, HF.out, Turned.refl _ _⟩
  case round =>
    obtain ⟨k, hk, rfl, rfl, hf, ht⟩ := hrel
    by_cases hlt : k < n
    · obtain ⟨ad, rfl, hc1⟩ := (HA.out.turned ht).at_ hlt
      obtain ⟨ad', rfl, hc2⟩ := (HB.out.turned ht).at_ (show k < m by omega)
      simp only [i64s] at hc1 hc2
      have HT := Lib.hid ht
      have HF' := Lib.hid hf
      have hs := dotN_le hg x y k
      have hr := fmulr hg (x k) (y k)
      have HS := Lib.hid (show dotN p x y (k + 1) = dotN p x y k ^^^ (fmul p (x k) (y k)).toNat from rfl)
      clear ht hf
      obtain ⟨u, hu⟩ : ∃ u, x k = u := ⟨_, rfl⟩
      obtain ⟨v, hv⟩ : ∃ v, y k = v := ⟨_, rfl⟩
      obtain ⟨s, hss⟩ : ∃ s, dotN p x y k = s := ⟨_, rfl⟩
      rw [hu] at hc1 HS hr
      rw [hv] at hc2 HS hr
      rw [hss] at HS hs ⊢
      have HX := Lib.hid (i64_xor_nat s (fmul p u v).toNat (by omega) (by omega))
      clear hu hv hss
      have hk63 : k < m := by omega
      go_wp2_with fail
      refine (fmul12 p b wd u v _ HF'.out).mono ?_
      rintro e w2 ⟨rfl, hf2, ht2⟩
      have HE := Lib.hid (And.intro hf2 (HT.out.trans ht2))
      clear hf2 ht2
      obtain ⟨q, hq⟩ : ∃ q : Nat, fmul p u v = (q : Int) := ⟨(fmul p u v).toNat, by omega⟩
      rw [hq] at HX HS hr ⊢
      rw [Int.toNat_natCast] at HX HS
      clear hq
      go_wp2_with fail
      exact ⟨⟨k + 1, hlt, by go_num, by rw [HS.out, ← HX.out], HE.out⟩, by simp [intOf]; omega⟩
    · obtain rfl : k = n := by omega
      have HE := Lib.hid (show Ans p b wd w (.int .i64 (dotN p x y k)) (.returned (.int .i64 (dotN p x y k))) wr from ⟨rfl, hf, ht⟩)
      clear hf ht
      go_wp2_with fail
      go_ret
      exact HE.out
end Go.Proofs.YtmpamgnbbomoaaaGreat
