/- Layer 13: contracts of the document's step, take, More, Sum and One. -/
import Derived.Test.YtbhpfdikkknijaaDoorBsa
import Derived.Test.YtbhpfdikkknijaaDoorCra
import Derived.Laws.BitsAllLaws
namespace Go.Proofs.YtbhpfdikkknijaaDoor
open Go.RowKit

set_option maxRecDepth 100000 in
theorem rstep22 (n : Nat) (h : n < 4294967296) (w : World) : Calls Tryd.prog 25 #[.int .u32 n] w fun e w' => e = .returned (.int .u32 (cstp n : Nat)) ∧ w = w' := by
  obtain ⟨q, hq⟩ : ∃ q : Nat, (n : Int) / 2 = (q : Int) := ⟨n / 2, by omega⟩
  have hq2 : q = n / 2 := by omega
  have hqb : q < 2147483648 := by omega
  by_cases h1 : n % 2 = 1
  · have hm : (n : Int) % 2 = 1 := by omega
    have hx := u32_xor_nat q 3988292384 (by omega) (by omega)
    have he : cstp n = q ^^^ 3988292384 := by unfold cstp; rw [if_pos h1, hq2]
    obtain ⟨z, hz⟩ : ∃ z, q ^^^ 3988292384 = z := ⟨_, rfl⟩
    rw [hz] at hx he
    have HE := Lib.hid he
    have hx' : bits .xor .u32 (q : Int) 3988292384 = (z : Int) := hx
    clear hq2 hz he h1 hx
    go_enter Tryd.func25, Tryd.ntmps25
    go_wp2_with fail
    go_ret
    exact ⟨by rw [HE.out]; rfl, rfl⟩
  · have hm : (n : Int) % 2 = 0 := by omega
    have he : cstp n = q := by unfold cstp; rw [if_neg h1, hq2]
    have HE := Lib.hid he
    clear hq2 he h1
    go_enter Tryd.func25, Tryd.ntmps25
    go_wp2_with fail
    go_ret
    exact ⟨by rw [HE.out]; rfl, rfl⟩

set_option maxRecDepth 100000 in
/-- so many steps -/
def cstN : Nat → Nat → Nat
  | 0, n => n
  | i + 1, n => cstp (cstN i n)
theorem cstN_lt {n : Nat} (h : n < 4294967296) : ∀ i, cstN i n < 4294967296
  | 0 => h
  | i + 1 => cstp_lt (cstN_lt h i)
theorem rtake21 (n b : Nat) (h : n < 4294967296) (hb : b < 256) (w : World) : Calls Tryd.prog 21 #[.int .u32 n, .int .u8 b] w fun e w' => e = .returned (.int .u32 (ctk n b : Nat)) ∧ w = w' := by
  have hx := u32_xor_nat n b h (by omega)
  have hlt : n ^^^ b < 4294967296 := Nat.xor_lt_two_pow (n := 32) h (by omega)
  have HE := Lib.hid (show ctk n b = cstN 8 (n ^^^ b) from rfl)
  obtain ⟨x, hxx⟩ : ∃ x, n ^^^ b = x := ⟨_, rfl⟩
  rw [hxx] at hx hlt HE
  have HL := Lib.hid (fun i => cstN_lt hlt i)
  clear hxx
  go_enter Tryd.func21, Tryd.ntmps21
  go_wp2_with fail
  clear hx
  go_loop [0, 5] (fun s0 s5 => ∃ i : Nat, i ≤ 8 ∧ s5 = .int .i64 i ∧ s0 = .int .u32 (cstN i x : Nat)) (fun _ s5 => 8 - (intOf s5).toNat)
  case atStart => exact ⟨0, Nat.zero_le _, rfl, rfl⟩
  case round =>
    obtain ⟨i, hi, rfl, rfl⟩ := hrel
    by_cases hlt8 : i < 8
    · have hd : decide ((i : Int) < 8) = true := by simp; omega
      have HC := Lib.hid (rstep22 (cstN i x) (HL.out i))
      obtain ⟨y, hy⟩ : ∃ y, cstN i x = y := ⟨_, rfl⟩
      rw [hy] at HC ⊢
      have HY := Lib.hid (show cstp y = cstN (i + 1) x by rw [← hy]; rfl)
      clear hy
      go_wp2_with fail
      refine (HC.out _).mono ?_
      rintro e w' ⟨rfl, rfl⟩
      rw [HY.out]
      go_wp2_with fail
      exact ⟨⟨i + 1, hlt8, by go_num, rfl⟩, by simp [intOf]; omega⟩
    · obtain rfl : i = 8 := by omega
      rw [← HE.out]
      go_wp2_with fail
      go_ret
      exact ⟨rfl, rfl⟩

set_option maxRecDepth 100000 in
/-- the sum of n bytes behind s -/
def moreF (f : Nat → Nat) (n s : Nat) : Nat := 4294967295 - crun f n (4294967295 - s)
theorem moreF_lt (f : Nat → Nat) (n s : Nat) : moreF f n s < 4294967296 := by unfold moreF; omega
theorem rmore13 (b : Nat) (s : Nat) (hs : s < 4294967296) (f : Nat → Nat) (hf : ∀ j, f j < 256) (A : Option Addr) (n c : Nat) (hn : n ≤ 1000000000) (w : World) (hr : Rd b w (u8s f) A n) :
    Calls Tryd.prog 13 #[.int .u32 s, .slice A n c] w fun e w' => e = .returned (.int .u32 (moreF f n s : Nat)) ∧ w = w' := by
  have HR := Lib.hid hr
  have HF := Lib.hid hf
  obtain ⟨z, hz⟩ : ∃ z : Nat, (4294967295 : Int) - (s : Int) = (z : Int) := ⟨4294967295 - s, by omega⟩
  have hz2 : 4294967295 - s = z := by omega
  have hzl : z < 4294967296 := by omega
  have HL := Lib.hid (fun i => crun_lt hf hzl i)
  have HE := Lib.hid (show moreF f n s = 4294967295 - crun f n z by unfold moreF; rw [hz2])
  clear hr hf hz2
  go_enter Tryd.func13, Tryd.ntmps13
  go_wp2_with fail
  clear hz
  go_loop [5, 6] (fun s5 s6 => ∃ i : Nat, i ≤ n ∧ s6 = .int .i64 i ∧ s5 = .int .u32 (crun f i z : Nat)) (fun _ s6 => n - (intOf s6).toNat)
  case atStart => exact ⟨0, Nat.zero_le _, rfl, rfl⟩
  case round =>
    obtain ⟨i, hi, rfl, rfl⟩ := hrel
    by_cases hlt : i < n
    · obtain ⟨ad, rfl, c1⟩ := HR.out.at_ hlt
      simp only [u8s] at c1
      have HC := Lib.hid (rtake21 (crun f i z) (f i) (HL.out i) (HF.out i))
      obtain ⟨y, hy⟩ : ∃ y, crun f i z = y := ⟨_, rfl⟩
      rw [hy] at HC ⊢
      have HY := Lib.hid (show ctk y (f i) = crun f (i + 1) z by rw [← hy]; rfl)
      have hltI : (i : Int) < (n : Int) := by omega
      clear hy
      go_wp2_with fail
      refine (HC.out _).mono ?_
      rintro e w' ⟨rfl, rfl⟩
      rw [HY.out]
      go_wp2_with fail
      exact ⟨⟨i + 1, hlt, by go_num, rfl⟩, by simp [intOf]; omega⟩
    · obtain rfl : i = n := by omega
      have hb := HL.out i
      obtain ⟨y, hy⟩ : ∃ y, crun f i z = y := ⟨_, rfl⟩
      rw [hy] at hb HE ⊢
      obtain ⟨x, hx⟩ : ∃ x : Nat, (4294967295 : Int) - (y : Int) = (x : Int) := ⟨4294967295 - y, by omega⟩
      have hx2 : 4294967295 - y = x := by omega
      rw [hx2] at HE
      clear hx2 hy hb
      go_wp2_with fail
      go_ret
      exact ⟨by rw [HE.out]; rfl, rfl⟩
theorem rsum11 (b : Nat) (f : Nat → Nat) (hf : ∀ j, f j < 256) (A : Option Addr) (n c : Nat) (hn : n ≤ 1000000000) (w : World) (hr : Rd b w (u8s f) A n) :
    Calls Tryd.prog 11 #[.slice A n c] w fun e w' => e = .returned (.int .u32 (moreF f n 0 : Nat)) ∧ w = w' := by
  have HC := Lib.hid (rmore13 b 0 (by omega) f hf A n c hn w hr)
  clear hr hf
  go_enter Tryd.func11, Tryd.ntmps11
  go_wp2_with fail
  refine HC.out.mono ?_
  rintro e w' ⟨rfl, rfl⟩
  go_wp2_with fail
  go_ret
  exact ⟨rfl, rfl⟩
theorem rone15 (b : Nat) (hb : b < 256) (w : World) : Calls Tryd.prog 15 #[.int .u8 b] w fun e w' => e = .returned (.int .u32 (ctk 0 b : Nat)) ∧ w = w' := by
  have HC := Lib.hid (rtake21 0 b (by omega) hb w)
  go_enter Tryd.func15, Tryd.ntmps15
  go_wp2_with fail
  refine HC.out.mono ?_
  rintro e w' ⟨rfl, rfl⟩
  go_wp2_with fail
  go_ret
  exact ⟨rfl, rfl⟩
end Go.Proofs.YtbhpfdikkknijaaDoor
