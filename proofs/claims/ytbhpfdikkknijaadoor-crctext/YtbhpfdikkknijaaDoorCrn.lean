/- Layer 13: strconv.ParseUint to the base 16, of 32 bits. -/
import Derived.Test.YtbhpfdikkknijaaDoorCrl
import Derived.Test.YtbhpfdikkknijaaDoorCrh
import Derived.Laws.BitsAllLaws
import Derived.Laws.Closers25
import Derived.Laws.Closers25b
namespace Go.Proofs.YtbhpfdikkknijaaDoor
open Go.RowKit

/-- the letter, small -/
def lowC (c : Nat) : Nat := c ||| 32
theorem lowC_lt {c : Nat} (h : c < 256) : lowC c < 256 := Nat.or_lt_two_pow (n := 8) h (by omega)
set_option maxRecDepth 100000 in
theorem lowC_hex : ∀ c, c < 256 → 97 ≤ c → c ≤ 102 → lowC c = c := by decide
set_option maxRecDepth 100000 in
theorem lowC_ge : ∀ c, c < 256 → 97 ≤ lowC c → lowC c ≤ 102 → (57 < c ∧ c ≠ 95) := by decide
theorem lower29 (c : Nat) (hc : c < 256) (w : World) : Calls Tryd.prog 29 #[.int .u8 c] w fun e w' => e = .returned (.int .u8 (lowC c : Nat)) ∧ w = w' := by
  have hx := u8_or_nat c 32 hc (by omega)
  rw [show c ||| 32 = lowC c from rfl] at hx
  have hx' : bits .or .u8 (c : Int) 32 = (lowC c : Int) := hx
  clear hx
  go_enter Tryd.func29, Tryd.ntmps29
  go_wp2_with fail
  go_ret
  exact ⟨rfl, rfl⟩

/-- what ParseUint tells of what eight small figures say, and of other texts -/
def PuSaid (f : Nat → Nat) (n : Nat) (w : World) (e : Ending) (w' : World) : Prop :=
  Below w.heap.size w w' ∧ ((∃ v : Nat, v < 4294967296 ∧ e = .returned (.tuple #[.int .u64 v, .nilIface]) ∧ (n = 8 → (∀ j, j < 8 → isHex (f j)) → v = readN f 8)) ∨
    (∃ v c : Int, (c = 1 ∨ c = 2) ∧ e = .returned (.tuple #[.int .u64 v, .iface TEr (.int .i64 c)]) ∧ ¬ (n = 8 ∧ ∀ j, j < 8 → isHex (f j))))

set_option maxRecDepth 100000 in
set_option maxHeartbeats 8000000 in
theorem pu26 (f : Nat → Nat) (hf : ∀ j, f j < 256) (n : Nat) (hn : n ≤ 281474976710656) (w : World) :
    Calls Tryd.prog 26 #[.string (strF f n), .int .i64 16, .int .i64 32] w (PuSaid f n w) := by
  have hsz := strF_size f n
  by_cases h0 : n = 0
  · have HE := Lib.hid (show PuSaid f n w (.returned (.tuple #[.int .u64 0, .iface TEr (.int .i64 2)])) w from ⟨Below.refl _ _, Or.inr ⟨0, 2, Or.inr rfl, rfl, fun h => by omega⟩⟩)
    subst h0
    have he : strF f 0 = ⟨#[]⟩ := ByteArray.ext (Array.eq_empty_of_size_eq_zero hsz)
    rw [he]
    clear hsz he
    go_enter Tryd.func26, Tryd.ntmps26
    go_wp2_with fail
    go_ret2
    exact HE.out
  have HF := Lib.hid hf
  obtain ⟨A, c, v, hcv, hb, hr⟩ := str_rd hf n (w.heap.size + 1) w (by omega)
  have HR := Lib.hid hr
  have HB := Lib.hid hb
  obtain ⟨x, hx⟩ : ∃ x, strF f n = x := ⟨_, rfl⟩
  rw [hx] at hsz hcv ⊢
  have hemp : x.toList.isEmpty = false := by
    rw [← decide_eq_emptyBytes]
    exact decide_eq_false (fun h => h0 (by rw [← hsz, h]; rfl))
  clear hx hf hb hr
  have hmv : IntKind.u64.wrap (IntKind.u64.wrap 4294967296 - 1) = 4294967295 := by decide
  go_enter Tryd.func26, Tryd.ntmps26
  go_wp2_with fail
  go_loop [12, 13, 101] (fun s12 s13 s101 => ∃ (k acc : Nat) (a : Int), s12 = .bool false ∧ s13 = .int .u64 a ∧ s101 = .int .i64 k ∧ k ≤ n ∧ Hid (a = (acc : Int) ∧ acc ≤ 4294967295 ∧ ((∀ j, j < k → isHex (f j)) → acc = readN f k)))
    (fun _ _ s101 => n - (intOf s101).toNat)
  case atStart => exact ⟨0, 0, 0, rfl, rfl, rfl, Nat.zero_le _, Lib.hid ⟨rfl, by omega, fun _ => rfl⟩⟩
  case round =>
    clear hcv hmv hemp
    obtain ⟨k, acc, a, rfl, rfl, rfl, hk, hh⟩ := hrel
    obtain ⟨ha, hacc, hrd⟩ := hh.out
    clear hh
    have a0 : 0 ≤ a := by omega
    have a1 : a ≤ 4294967295 := by omega
    by_cases hlt : k < n
    · have hltI : (k : Int) < (n : Int) := by omega
      obtain ⟨ad, rfl, c1⟩ := HR.out.at_ hlt
      simp only [u8s] at c1
      have hc := HF.out k
      have HW := Lib.hid (show ¬ isHex (f k) → PuSaid f n w (.returned (.tuple #[.int .u64 0, .iface TEr (.int .i64 2)])) v from fun h => ⟨HB.out, Or.inr ⟨0, 2, Or.inr rfl, rfl, fun h5 => absurd (h5.2 k (by omega)) h⟩⟩)
      have HO := Lib.hid (show ∀ d : Nat, (isHex (f k) → hexv (f k) = d) → 4294967295 < acc * 16 + d → PuSaid f n w (.returned (.tuple #[.int .u64 4294967295, .iface TEr (.int .i64 1)])) v from fun d hd ho => ⟨HB.out, Or.inr ⟨4294967295, 1, Or.inl rfl, rfl, fun h5 => by
        have e1 := hrd (fun j hj => h5.2 j (by omega))
        have e2 := readN_lt (f := f) (k + 1) (fun j hj => h5.2 j (by omega))
        have e3 : (16 : Nat) ^ (k + 1) ≤ 16 ^ 8 := Nat.pow_le_pow_right (by omega) (by omega)
        rw [readN, hd (h5.2 k (by omega)), ← e1] at e2
        have e4 : (16 : Nat) ^ 8 = 4294967296 := by decide
        omega⟩⟩)
      have HN := Lib.hid (show ∀ d : Nat, (isHex (f k) → hexv (f k) = d) → (∀ j, j < k + 1 → isHex (f j)) → acc * 16 + d = readN f (k + 1) from fun d hd h => by
        rw [readN, hd (h k (by omega)), ← hrd (fun j hj => h j (by omega)), Nat.mul_comm])
      clear hrd
      obtain ⟨ch, hcc⟩ : ∃ ch, f k = ch := ⟨_, rfl⟩
      rw [hcc] at c1 hc HW HO HN
      clear hcc
      by_cases hdig : 48 ≤ ch ∧ ch ≤ 57
      · have e1 : ((ch : Int) == 95) = false := by simp; omega
        have e2 : decide ((48 : Int) ≤ (ch : Int)) = true := by simp; omega
        have e3 : decide ((ch : Int) ≤ 57) = true := by simp; omega
        obtain ⟨d, hdd⟩ : ∃ d : Nat, (ch : Int) - 48 = (d : Int) := ⟨ch - 48, by omega⟩
        have hd16 : d < 16 := by omega
        have HD := Lib.hid (show isHex ch → hexv ch = d from fun _ => by unfold hexv; rw [if_pos (by omega)]; omega)
        obtain ⟨m, hm⟩ : ∃ m : Int, a * 16 = m := ⟨_, rfl⟩
        have hm0 : 0 ≤ m := by omega
        have hm1 : m ≤ 68719476720 := by omega
        by_cases hov : 4294967295 < m + (d : Int)
        · have HQ := Lib.hid (HO.out d HD.out (by omega))
          clear hdig HO HN HW HD hacc ha
          go_wp2_with fail
          go_ret2
          exact HQ.out
        · have hov' : m + (d : Int) ≤ 4294967295 := by omega
          have HQ := Lib.hid (show m + (d : Int) = ((acc * 16 + d : Nat) : Int) ∧ acc * 16 + d ≤ 4294967295 ∧ ((∀ j, j < k + 1 → isHex (f j)) → acc * 16 + d = readN f (k + 1)) from ⟨by omega, by omega, HN.out d HD.out⟩)
          clear hdig HO HN HW HD hacc ha hov
          go_wp2_with fail
          refine ⟨⟨k + 1, acc * 16 + d, m + (d : Int), rfl, rfl, by go_num, hlt, HQ⟩, by simp [intOf]; omega⟩
      · by_cases hlx : 97 ≤ lowC ch ∧ lowC ch ≤ 102
        · have hch := lowC_ge ch hc hlx.1 hlx.2
          have HD0 := Lib.hid (show isHex ch → hexv ch = lowC ch - 87 from fun h => by
            have h7 : 97 ≤ ch ∧ ch ≤ 102 := by unfold isHex at h; omega
            rw [lowC_hex ch hc h7.1 h7.2]
            unfold hexv; rw [if_neg (by omega)])
          have e1 : ((ch : Int) == 95) = false := by simp; omega
          have e3 : decide ((ch : Int) ≤ 57) = false := by simp; omega
          have HLW := Lib.hid (fun W => lower29 ch hc W)
          obtain ⟨L, hL⟩ : ∃ L, lowC ch = L := ⟨_, rfl⟩
          rw [hL] at hlx HD0 HLW
          have e5 : decide ((97 : Int) ≤ (L : Int)) = true := by simp; omega
          have e6 : decide ((L : Int) ≤ 122) = true := by simp; omega
          obtain ⟨d0, hdd0⟩ : ∃ d0 : Nat, (L : Int) - 97 = (d0 : Int) := ⟨L - 97, by omega⟩
          have hd06 : d0 < 6 := by omega
          obtain ⟨d, hdd⟩ : ∃ d : Nat, (d0 : Int) + 10 = (d : Int) := ⟨d0 + 10, by omega⟩
          have hd16 : d < 16 := by omega
          have HD := Lib.hid (show isHex ch → hexv ch = d from fun h => by rw [HD0.out h]; omega)
          obtain ⟨m, hm⟩ : ∃ m : Int, a * 16 = m := ⟨_, rfl⟩
          have hm0 : 0 ≤ m := by omega
          have hm1 : m ≤ 68719476720 := by omega
          by_cases hov : 4294967295 < m + (d : Int)
          · have HQ := Lib.hid (HO.out d HD.out (by omega))
            clear hdig HO HN HW HD HD0 hacc ha hlx hch hL
            go_wp2_with (go_at_call 29; refine (HLW.out _).mono ?_; rintro e w' ⟨rfl, rfl⟩)
            all_goals go_ret2
            all_goals exact HQ.out
          · have hov' : m + (d : Int) ≤ 4294967295 := by omega
            have HQ := Lib.hid (show m + (d : Int) = ((acc * 16 + d : Nat) : Int) ∧ acc * 16 + d ≤ 4294967295 ∧ ((∀ j, j < k + 1 → isHex (f j)) → acc * 16 + d = readN f (k + 1)) from ⟨by omega, by omega, HN.out d HD.out⟩)
            clear hdig HO HN HW HD HD0 hacc ha hov hlx hch hL
            go_wp2_with (go_at_call 29; refine (HLW.out _).mono ?_; rintro e w' ⟨rfl, rfl⟩)
            all_goals refine ⟨⟨k + 1, acc * 16 + d, m + (d : Int), rfl, rfl, by go_num, hlt, HQ⟩, by simp [intOf]; omega⟩
        · have HQ := Lib.hid (HW.out (fun h => by
            have h7 : 97 ≤ ch ∧ ch ≤ 102 := by unfold isHex at h; omega
            rw [lowC_hex ch hc h7.1 h7.2] at hlx
            exact hlx h7))
          by_cases h95 : ch = 95
          · subst h95
            have HLW := Lib.hid (fun W => lower29 95 (by omega) W)
            rw [show lowC 95 = 127 by decide] at HLW
            clear HO HN HW hacc ha hlx
            go_wp2_with (go_at_call 29; refine (HLW.out _).mono ?_; rintro e w' ⟨rfl, rfl⟩)
            all_goals go_ret2
            all_goals exact HQ.out
          have e1 : ((ch : Int) == 95) = false := by simp; omega
          have hll := lowC_lt hc
          have HLW := Lib.hid (fun W => lower29 ch hc W)
          obtain ⟨L, hL⟩ : ∃ L, lowC ch = L := ⟨_, rfl⟩
          rw [hL] at hlx hll HLW
          by_cases hl2 : 97 ≤ L
          · have e5 : decide ((97 : Int) ≤ (L : Int)) = true := by simp; omega
            by_cases hl3 : L ≤ 122
            · have e6 : decide ((L : Int) ≤ 122) = true := by simp; omega
              obtain ⟨d0, hdd0⟩ : ∃ d0 : Nat, (L : Int) - 97 = (d0 : Int) := ⟨L - 97, by omega⟩
              have hd06 : d0 < 26 := by omega
              obtain ⟨d, hdd⟩ : ∃ d : Nat, (d0 : Int) + 10 = (d : Int) := ⟨d0 + 10, by omega⟩
              have hd16 : 16 ≤ d := by omega
              have hd17 : d < 36 := by omega
              clear HO HN HW hacc ha hlx hL
              go_wp2_with (go_at_call 29; refine (HLW.out _).mono ?_; rintro e w' ⟨rfl, rfl⟩)
              all_goals go_ret2
              all_goals exact HQ.out
            · have e6 : decide ((L : Int) ≤ 122) = false := by simp; omega
              clear HO HN HW hacc ha hlx hL
              go_wp2_with (go_at_call 29; refine (HLW.out _).mono ?_; rintro e w' ⟨rfl, rfl⟩)
              all_goals go_ret2
              all_goals exact HQ.out
          · have e5 : decide ((97 : Int) ≤ (L : Int)) = false := by simp; omega
            clear HO HN HW hacc ha hlx hL
            go_wp2_with (go_at_call 29; refine (HLW.out _).mono ?_; rintro e w' ⟨rfl, rfl⟩)
            all_goals go_ret2
            all_goals exact HQ.out
    · obtain rfl : k = n := by omega
      have HQ := Lib.hid (show PuSaid f k w (.returned (.tuple #[.int .u64 a, .nilIface])) v from ⟨HB.out, Or.inl ⟨acc, by omega, by rw [ha], fun h8 hh => by rw [hrd (by rw [h8]; exact hh), h8]⟩⟩)
      clear hrd ha hacc
      go_wp2_with fail
      go_ret2
      exact HQ.out

/-- strconv.ParseUint -/
def PupSaid (f : Nat → Nat) (n : Nat) (w : World) (e : Ending) (w' : World) : Prop :=
  Below w.heap.size w w' ∧ ((∃ v : Nat, v < 4294967296 ∧ e = .returned (.tuple #[.int .u64 v, .nilIface]) ∧ (n = 8 → (∀ j, j < 8 → isHex (f j)) → v = readN f 8)) ∨
    (∃ (v : Int) (t : TypeId) (p : Value), e = .returned (.tuple #[.int .u64 v, .iface t p]) ∧ ¬ (n = 8 ∧ ∀ j, j < 8 → isHex (f j))))

set_option maxRecDepth 100000 in
set_option maxHeartbeats 1000000 in
theorem pup23 (f : Nat → Nat) (hf : ∀ j, f j < 256) (n : Nat) (hn : n ≤ 281474976710656) (w : World) (hE : Env w) :
    Calls Tryd.prog 23 #[.string (strF f n), .int .i64 16, .int .i64 32] w (PupSaid f n w) := by
  have HP := Lib.hid (pu26 f hf n hn w)
  have HT := Lib.hid (fun c hc W hW => toErr27 ⟨#[80, 97, 114, 115, 101, 85, 105, 110, 116]⟩ (strF f n) (by rw [strF_size]; exact hn) c hc W hW)
  obtain ⟨x, hx⟩ : ∃ x, strF f n = x := ⟨_, rfl⟩
  rw [hx] at HP HT ⊢
  have HE := Lib.hid hE
  clear hx hE hf
  go_enter Tryd.func23, Tryd.ntmps23
  go_wp2_with fail
  refine HP.out.mono ?_
  rintro e w1 ⟨hb, (⟨v, hv, rfl, hq⟩ | ⟨v, c, hc, rfl, hq⟩)⟩
  · have HQ := Lib.hid (show PupSaid f n w (.returned (.tuple #[.int .u64 (v : Nat), .nilIface])) w1 from ⟨hb, Or.inl ⟨v, hv, rfl, hq⟩⟩)
    clear hq hv
    go_wp2_with fail
    go_ret2
    exact HQ.out
  · have H1 := Lib.hid hb
    have HN := Lib.hid hq
    have HC := Lib.hid (HT.out c hc w1 (HE.out.below hb))
    clear hq hb hc
    go_wp2_with fail
    refine HC.out.mono ?_
    rintro e w2 ⟨⟨t, p, rfl⟩, hb2⟩
    go_wp2_with fail
    go_ret2
    exact ⟨below_tr H1.out hb2, Or.inr ⟨v, t, p, rfl, HN.out⟩⟩
end Go.Proofs.YtbhpfdikkknijaaDoor
