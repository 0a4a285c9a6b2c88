/- Layer 13: sums as texts; contracts of the document's Text and Read. -/
import Derived.Test.YtbhpfdikkknijaaDoorCrb
import Derived.Test.YtbhpfdikkknijaaDoorGxx
import Derived.Laws.Strings2
namespace Go.Proofs.YtbhpfdikkknijaaDoor
open Go.RowKit

abbrev TStr : Nat := 9

/-- a figure to the base 16, and which one it is -/
def hexd (d : Nat) : Nat := if d < 10 then 48 + d else 87 + d
def hexv (c : Nat) : Nat := if c < 58 then c - 48 else c - 87
def isHex (c : Nat) : Prop := (48 ≤ c ∧ c ≤ 57) ∨ (97 ≤ c ∧ c ≤ 102)
instance (c : Nat) : Decidable (isHex c) := by unfold isHex; infer_instance
theorem hexd_is {d : Nat} (h : d < 16) : isHex (hexd d) := by unfold isHex hexd; split <;> omega
theorem hexd_lt {d : Nat} (h : d < 16) : hexd d < 256 := by unfold hexd; split <;> omega
theorem hexv_hexd {d : Nat} (h : d < 16) : hexv (hexd d) = d := by unfold hexv hexd; split <;> split <;> omega
theorem hexd_hexv {c : Nat} (h : isHex c) : hexd (hexv c) = c := by unfold isHex at h; unfold hexv hexd; split <;> split <;> omega
theorem hexv_lt {c : Nat} (h : isHex c) : hexv c < 16 := by unfold isHex at h; unfold hexv; split <;> omega
/-- the last i figures of s -/
def txtI (s i j : Nat) : Nat := hexd (s / 16 ^ (i - 1 - j) % 16)
theorem txtI_lt (s i j : Nat) : txtI s i j < 256 := hexd_lt (Nat.mod_lt _ (by omega))
theorem txtI_is (s i j : Nat) : isHex (txtI s i j) := hexd_is (Nat.mod_lt _ (by omega))
/-- what i figures say -/
def readN (f : Nat → Nat) : Nat → Nat
  | 0 => 0
  | i + 1 => 16 * readN f i + hexv (f i)
theorem readN_lt {f : Nat → Nat} : ∀ i, (∀ j, j < i → isHex (f j)) → readN f i < 16 ^ i
  | 0, _ => by simp [readN]
  | i + 1, h => by
    have h1 := readN_lt i (fun j hj => h j (by omega))
    have h2 := hexv_lt (h i (by omega))
    rw [readN, Nat.pow_succ]
    omega
theorem readN_congr {f g : Nat → Nat} : ∀ i, (∀ j, j < i → f j = g j) → readN f i = readN g i
  | 0, _ => rfl
  | i + 1, h => by rw [readN, readN, readN_congr i (fun j hj => h j (by omega)), h i (by omega)]
theorem read_text (s : Nat) : ∀ i, i ≤ 8 → s < 16 ^ 8 → readN (txtI s 8) i = s / 16 ^ (8 - i)
  | 0, _, h => by rw [readN, Nat.sub_zero, Nat.div_eq_of_lt h]
  | i + 1, hi, h => by
    rw [readN, read_text s i (by omega) h, txtI, hexv_hexd (Nat.mod_lt _ (by omega)), show 8 - 1 - i = 8 - (i + 1) by omega]
    obtain ⟨k, hk⟩ : ∃ k, 8 - (i + 1) = k := ⟨_, rfl⟩
    rw [show 8 - i = k + 1 by omega, hk, Nat.pow_succ, ← Nat.div_div_eq_div_mul]
    omega
theorem text_read {f : Nat → Nat} : ∀ i, (∀ j, j < i → isHex (f j)) → ∀ j, j < i → txtI (readN f i) i j = f j
  | 0, _, j, hj => absurd hj (Nat.not_lt_zero _)
  | i + 1, h, j, hj => by
    have hv := hexv_lt (h i (by omega))
    by_cases e : j = i
    · subst e
      unfold txtI
      rw [show j + 1 - 1 - j = 0 by omega, Nat.pow_zero, Nat.div_one, readN, show (16 * readN f j + hexv (f j)) % 16 = hexv (f j) by omega, hexd_hexv (h j (by omega))]
    · have ih := text_read i (fun k hk => h k (by omega)) j (by omega)
      unfold txtI at ih ⊢
      rw [readN, show i + 1 - 1 - j = (i - 1 - j) + 1 by omega, Nat.pow_succ, Nat.mul_comm (16 ^ (i - 1 - j)) 16, ← Nat.div_div_eq_div_mul, show (16 * readN f i + hexv (f i)) / 16 = readN f i by omega]
      exact ih

theorem strF_size (f : Nat → Nat) (n : Nat) : (strF f n).size = n := by unfold strF; rw [strOfNums_size]; simp
theorem strF_cons (c : Nat) (g : Nat → Nat) (n : Nat) : (⟨#[UInt8.ofNat c]⟩ : ByteArray) ++ strF g n = strF (fun j => if j = 0 then c else g (j - 1)) (n + 1) := by
  apply ByteArray.ext
  apply Array.toList_inj.1
  rw [ByteArray.data_append, Array.toList_append]
  unfold strF
  rw [strOfNums_data, strOfNums_data, List.range_succ_eq_map]
  simp only [List.map_cons, List.map_map]
  show _ :: _ = _ :: _
  congr 1
theorem run_indexF {f : Nat → Nat} {n i : Nat} (hi : i < n) (hf : f i < 256) (w : World) : (Instr.index TStr (.string (strF f n)) (.int .i64 (i : Int))).run Tryd.prog w = .ok (.int .u8 (f i : Nat)) w := by
  have hs := strF_size f n
  rw [run_index_string w TStr _ _ _ Tryd.underlying9, dif_pos (by rw [hs]; omega)]
  have h5 : ∀ k (h : k < (strF f n).size), k = i → (strF f n)[k].toNat = f i := fun k h e => by
    subst e
    show ((strF f n).data[k]'h).toNat = f k
    simp [strF, strOfNums, UInt8.toNat_ofNat']
    omega
  congr 3
  exact h5 _ _ (Int.toNat_natCast i)

/-- the sixteen figures -/
def figs : ByteArray := ⟨#[48, 49, 50, 51, 52, 53, 54, 55, 56, 57, 97, 98, 99, 100, 101, 102]⟩
theorem figs_at : ∀ d, d < 16 → figs.extract d (d + 1) = ⟨#[UInt8.ofNat (hexd d)]⟩ := by decide
theorem run_fig (d : Nat) (hd : d < 16) (w : World) : (Instr.slice TStr (.string figs) (some (.int .i64 (d : Int))) (some (.int .i64 ((d : Int) + 1))) none).run Tryd.prog w = .ok (.string ⟨#[UInt8.ofNat (hexd d)]⟩) w := by
  rw [run_slice_string w TStr figs .i64 .i64 d (d + 1) Tryd.underlying9 (by omega) (by omega) (by show (d : Int) + 1 ≤ (16 : Nat); omega)]
  rw [show ((d : Int) + 1).toNat = d + 1 by omega, Int.toNat_natCast, figs_at d hd]

set_option maxRecDepth 100000 in
set_option maxHeartbeats 1000000 in
theorem rtext19 (s : Nat) (hs : s < 4294967296) (w : World) : Calls Tryd.prog 19 #[.int .u32 s] w fun e w' => e = .returned (.string (strF (txtI s 8) 8)) ∧ w = w' := by
  have hdiv : ∀ i, s / 16 ^ i < 4294967296 := fun i => Nat.lt_of_le_of_lt (Nat.div_le_self _ _) hs
  have HD := Lib.hid hdiv
  clear hdiv hs
  go_enter Tryd.func19, Tryd.ntmps19
  go_wp2_with fail
  go_loop [0, 4, 5] (fun s0 s4 s5 => ∃ i : Nat, i ≤ 8 ∧ s5 = .int .i64 i ∧ s0 = .int .u32 (s / 16 ^ i : Nat) ∧ s4 = .string (strF (txtI s i) i)) (fun _ _ s5 => 8 - (intOf s5).toNat)
  case atStart => exact ⟨0, Nat.zero_le _, rfl, by simp, rfl⟩
  case round =>
    obtain ⟨i, hi, rfl, rfl, rfl⟩ := hrel
    by_cases hlt : i < 8
    · have hd : decide ((i : Int) < 8) = true := by simp; omega
      have hx := HD.out i
      have HC := Lib.hid (show ∀ x, s / 16 ^ i = x → strF (fun j => if j = 0 then hexd (x % 16) else txtI s i (j - 1)) (i + 1) = strF (txtI s (i + 1)) (i + 1) from fun x hx => strF_congr (fun j hj => by
        unfold txtI
        by_cases e : j = 0
        · rw [if_pos e, e, ← hx, show i + 1 - 1 - 0 = i by omega]
        · rw [if_neg e, show i + 1 - 1 - j = i - 1 - (j - 1) by omega]))
      have HN := Lib.hid (show ∀ x, s / 16 ^ i = x → x / 16 = s / 16 ^ (i + 1) from fun x hx => by rw [← hx, Nat.pow_succ, Nat.div_div_eq_div_mul])
      obtain ⟨x, hxx⟩ : ∃ x, s / 16 ^ i = x := ⟨_, rfl⟩
      rw [hxx] at hx ⊢
      obtain ⟨d, hdd⟩ : ∃ d : Nat, (x : Int) % 16 = (d : Int) := ⟨x % 16, by omega⟩
      have hd16 : d < 16 := by omega
      obtain ⟨y, hy⟩ : ∃ y : Nat, (x : Int) / 16 = (y : Int) := ⟨x / 16, by omega⟩
      have HY := Lib.hid (show y = s / 16 ^ (i + 1) by rw [← HN.out x hxx]; omega)
      have HS := Lib.hid (show (⟨#[UInt8.ofNat (hexd d)]⟩ : ByteArray) ++ strF (txtI s i) i = strF (txtI s (i + 1)) (i + 1) by rw [strF_cons, ← HC.out x hxx, show x % 16 = d by omega])
      have hr : ∀ w : World, (Instr.slice TStr (.string ⟨#[48, 49, 50, 51, 52, 53, 54, 55, 56, 57, 97, 98, 99, 100, 101, 102]⟩) (some (.int .i64 (d : Int))) (some (.int .i64 ((d : Int) + 1))) none).run Tryd.prog w = .ok (.string ⟨#[UInt8.ofNat (hexd d)]⟩) w := run_fig d hd16
      obtain ⟨q, hq⟩ : ∃ q, strF (txtI s i) i = q := ⟨_, rfl⟩
      obtain ⟨r, hrr⟩ : ∃ r, strF (txtI s (i + 1)) (i + 1) = r := ⟨_, rfl⟩
      obtain ⟨z, hz⟩ : ∃ z : ByteArray, (⟨#[UInt8.ofNat (hexd d)]⟩ : ByteArray) = z := ⟨_, rfl⟩
      have hov : ¬ 9223372036854775807 < z.size + q.size := by
        rw [← hz, ← hq, strF_size]
        show ¬ 9223372036854775807 < 1 + i
        omega
      rw [hz] at hr HS
      rw [hq] at HS ⊢
      rw [hrr] at HS
      have hs' := HS.out
      have HQ := Lib.hid hrr
      clear hxx HC HN hq hrr hz
      go_wp2_with fail
      exact ⟨⟨i + 1, hlt, by go_num, by rw [← HY.out], by rw [HQ.out]⟩, by simp [intOf]; omega⟩
    · obtain rfl : i = 8 := by omega
      go_wp2_with fail
      go_ret
      exact ⟨rfl, rfl⟩

set_option maxRecDepth 100000 in
/-- what Read tells -/
def RReadSaid (f : Nat → Nat) (n : Nat) (w : World) (e : Ending) (w' : World) : Prop :=
  ∃ t, e = .returned (.tuple #[.int .u32 (cond t (readN f 8) 0 : Nat), .bool t]) ∧ (t = true ↔ n = 8 ∧ ∀ j, j < 8 → isHex (f j)) ∧ w = w'
set_option maxHeartbeats 1000000 in
theorem rread18 (f : Nat → Nat) (hf : ∀ j, f j < 256) (n : Nat) (hn : n ≤ 9223372036854775807) (w : World) : Calls Tryd.prog 18 #[.string (strF f n)] w (RReadSaid f n w) := by
  have hsz := strF_size f n
  by_cases h8 : n = 8
  case neg =>
    have HE := Lib.hid (show RReadSaid f n w (.returned (.tuple #[.int .u32 0, .bool false])) w from ⟨false, rfl, ⟨fun h => (by cases h), fun h => absurd h.1 h8⟩, rfl⟩)
    have hne : ((n : Int) != 8) = true := by simp; omega
    clear h8
    go_enter Tryd.func18, Tryd.ntmps18
    go_wp2_with fail
    go_ret2
    exact HE.out
  subst h8
  have HI := Lib.hid (fun i (hi : i < 8) => run_indexF (n := 8) hi (hf i))
  have HF := Lib.hid hf
  obtain ⟨x, hx⟩ : ∃ x, strF f 8 = x := ⟨_, rfl⟩
  rw [hx] at hsz HI ⊢
  clear hx hf hn
  go_enter Tryd.func18, Tryd.ntmps18
  go_wp2_with fail
  go_loop [4, 5] (fun s4 s5 => ∃ i : Nat, i ≤ 8 ∧ s5 = .int .i64 i ∧ s4 = .int .u32 (readN f i : Nat) ∧ Hid (∀ j, j < i → isHex (f j))) (fun _ s5 => 8 - (intOf s5).toNat)
  case atStart => exact ⟨0, Nat.zero_le _, rfl, rfl, Lib.hid (fun j hj => absurd hj (by omega))⟩
  case round =>
    obtain ⟨i, hi, rfl, rfl, hall⟩ := hrel
    by_cases hlt : i < 8
    · have hd : decide ((i : Int) < 8) = true := by simp; omega
      have hidx := HI.out i hlt
      have hc := HF.out i
      have hb := readN_lt i hall.out
      have hb2 : readN f i < 268435456 := Nat.lt_of_lt_of_le hb (show 16 ^ i ≤ 268435456 from Nat.pow_le_pow_right (show 0 < 16 by omega) (show i ≤ 7 by omega))
      have HN := Lib.hid (show readN f (i + 1) = 16 * readN f i + hexv (f i) from rfl)
      have HW := Lib.hid (show ¬ isHex (f i) → RReadSaid f 8 w (.returned (.tuple #[.int .u32 0, .bool false])) w from fun h => ⟨false, rfl, ⟨fun h => (by cases h), fun h5 => absurd (h5.2 i hlt) h⟩, rfl⟩)
      have HA := Lib.hid (show isHex (f i) → ∀ j, j < i + 1 → isHex (f j) from fun h j hj => by
        by_cases e : j = i
        · rw [e]; exact h
        · exact hall.out j (by omega))
      obtain ⟨c, hcc⟩ : ∃ c, f i = c := ⟨_, rfl⟩
      rw [hcc] at hidx hc HN HW HA
      obtain ⟨y, hy⟩ : ∃ y, readN f i = y := ⟨_, rfl⟩
      rw [hy] at hb2 HN ⊢
      clear hcc hy hb
      by_cases hh : isHex c
      · have HH := Lib.hid (HA.out hh)
        by_cases h1 : c ≤ 57
        · have h48 : 48 ≤ c := by unfold isHex at hh; omega
          have e1 : decide ((c : Int) ≥ 48) = true := by simp; omega
          have e2 : decide ((48 : Int) ≤ (c : Int)) = true := by simp; omega
          have e3 : decide ((c : Int) ≤ 57) = true := by simp; omega
          obtain ⟨d, hdd⟩ : ∃ d : Nat, (c : Int) - 48 = (d : Int) := ⟨c - 48, by omega⟩
          have HV := Lib.hid (show 16 * y + hexv c = 16 * y + d by unfold hexv; rw [if_pos (by omega)]; omega)
          have hd10 : d < 10 := by omega
          obtain ⟨z, hz⟩ : ∃ z, 16 * y + d = z := ⟨_, rfl⟩
          have HZ := Lib.hid (show readN f (i + 1) = z by rw [HN.out, HV.out, hz])
          obtain ⟨u, hu⟩ : ∃ u : Nat, (16 : Int) * (y : Int) = (u : Int) := ⟨16 * y, by omega⟩
          have hu2 : u < 4294967296 := by omega
          have hz2 : (u : Int) + (d : Int) = (z : Int) := by omega
          have hzb : z < 4294967296 := by omega
          clear hh HA HW HN HV hz
          go_wp2_with fail
          exact ⟨⟨i + 1, hlt, by go_num, by rw [HZ.out], HH⟩, by simp [intOf]; omega⟩
        · have h97 : 97 ≤ c ∧ c ≤ 102 := by unfold isHex at hh; omega
          have e1 : decide ((c : Int) ≥ 48) = true := by simp; omega
          have e2 : decide ((48 : Int) ≤ (c : Int)) = true := by simp; omega
          have e3 : decide ((c : Int) ≤ 57) = false := by simp; omega
          have e4 : decide ((c : Int) ≥ 97) = true := by simp; omega
          have e5 : decide ((97 : Int) ≤ (c : Int)) = true := by simp; omega
          have e6 : decide ((c : Int) ≤ 102) = true := by simp; omega
          obtain ⟨d, hdd⟩ : ∃ d : Nat, (c : Int) - 97 = (d : Int) := ⟨c - 97, by omega⟩
          have hd6 : d < 6 := by omega
          obtain ⟨d2, hdd2⟩ : ∃ d2 : Nat, (d : Int) + 10 = (d2 : Int) := ⟨d + 10, by omega⟩
          have hd16 : d2 < 16 := by omega
          have HV := Lib.hid (show 16 * y + hexv c = 16 * y + d2 by unfold hexv; rw [if_neg (by omega)]; omega)
          obtain ⟨z, hz⟩ : ∃ z, 16 * y + d2 = z := ⟨_, rfl⟩
          have HZ := Lib.hid (show readN f (i + 1) = z by rw [HN.out, HV.out, hz])
          obtain ⟨u, hu⟩ : ∃ u : Nat, (16 : Int) * (y : Int) = (u : Int) := ⟨16 * y, by omega⟩
          have hu2 : u < 4294967296 := by omega
          have hz2 : (u : Int) + (d2 : Int) = (z : Int) := by omega
          have hzb : z < 4294967296 := by omega
          clear hh HA HW HN HV hz
          go_wp2_with fail
          exact ⟨⟨i + 1, hlt, by go_num, by rw [HZ.out], HH⟩, by simp [intOf]; omega⟩
      · have HE := Lib.hid (HW.out hh)
        have hcase : (c < 48) ∨ (57 < c ∧ c < 97) ∨ 102 < c := by unfold isHex at hh; omega
        clear hh HA HW HN
        rcases hcase with h1 | h1 | h1
        · have e1 : decide ((c : Int) ≥ 48) = false := by simp; omega
          have e2 : decide ((48 : Int) ≤ (c : Int)) = false := by simp; omega
          have e4 : decide ((c : Int) ≥ 97) = false := by simp; omega
          have e5 : decide ((97 : Int) ≤ (c : Int)) = false := by simp; omega
          go_wp2_with fail
          go_ret2
          exact HE.out
        · have e1 : decide ((c : Int) ≥ 48) = true := by simp; omega
          have e2 : decide ((48 : Int) ≤ (c : Int)) = true := by simp; omega
          have e3 : decide ((c : Int) ≤ 57) = false := by simp; omega
          have e4 : decide ((c : Int) ≥ 97) = false := by simp; omega
          have e5 : decide ((97 : Int) ≤ (c : Int)) = false := by simp; omega
          go_wp2_with fail
          go_ret2
          exact HE.out
        · have e1 : decide ((c : Int) ≥ 48) = true := by simp; omega
          have e2 : decide ((48 : Int) ≤ (c : Int)) = true := by simp; omega
          have e3 : decide ((c : Int) ≤ 57) = false := by simp; omega
          have e4 : decide ((c : Int) ≥ 97) = true := by simp; omega
          have e5 : decide ((97 : Int) ≤ (c : Int)) = true := by simp; omega
          have e6 : decide ((c : Int) ≤ 102) = false := by simp; omega
          go_wp2_with fail
          go_ret2
          exact HE.out
    · obtain rfl : i = 8 := by omega
      have HE := Lib.hid (show RReadSaid f 8 w (.returned (.tuple #[.int .u32 (readN f 8 : Nat), .bool true])) w from ⟨true, rfl, ⟨fun _ => ⟨rfl, hall.out⟩, fun _ => rfl⟩, rfl⟩)
      go_wp2_with fail
      go_ret2
      exact HE.out
end Go.Proofs.YtbhpfdikkknijaaDoor
