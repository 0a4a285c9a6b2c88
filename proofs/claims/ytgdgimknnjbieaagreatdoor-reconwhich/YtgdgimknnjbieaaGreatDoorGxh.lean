/- Slices that are read, beside a field at block b: what they hold, and what leaves them alone. Numbers of a field as bytes: plain mathematics. Slices that are read or appended to, numbers that are told, errors: what layers 3 and on share. The contract of gambrelref03's Ints. Matrices as they are read; contracts of package matrix: isSide, areNumbers and May. Exclusive or of two ints that aren't below 0. The contract of package matrix's dot: the sum of the products. What lies in memory while package matrix's Mul goes through the columns. -/
import Derived.Test.YtgdgimknnjbieaaGreatDoorGxd
import Derived.Deep.AppendLies
import Derived.Laws.OwnMore
import Derived.Deep.Draws
import Derived.OwnWalk
import Derived.RegionTactic
import Derived.OpenShut
import Derived.Deep.QuietTactic
import Derived.BigQuiet
import Derived.Laws.AppendOwnNone
import Derived.WalkKit
import Derived.RangeFuncWrites

namespace Go.Proofs.YtgdgimknnjbieaaGreatDoor
open Go.RowKit

/-- how wide a number is: its bits, its bytes, the greatest one -/
def Wide (wd n c : Nat) : Prop := (wd = 8 ∧ n = 1 ∧ c = 255) ∨ (wd = 16 ∧ n = 2 ∧ c = 65535)
theorem Wide.kind {wd n c : Nat} (h : Wide wd n c) : Kind wd c := by
  rcases h with ⟨rfl, rfl, rfl⟩ | ⟨rfl, rfl, rfl⟩
  · exact Or.inl ⟨rfl, rfl⟩
  · exact Or.inr ⟨rfl, rfl⟩
theorem Wide.bounds {wd n c : Nat} (h : Wide wd n c) : 1 ≤ n ∧ n ≤ 2 ∧ 255 ≤ c ∧ c ≤ 65535 := by rcases h with ⟨rfl, rfl, rfl⟩ | ⟨rfl, rfl, rfl⟩ <;> omega

/-- the number whose bytes stand at n * j .. -/
def word (n : Nat) (f : Nat → Nat) (j : Nat) : Nat := if n = 1 then f j else f (2 * j) + 256 * f (2 * j + 1)
/-- what has been gathered of it, behind k bytes -/
def part (n : Nat) (f : Nat → Nat) (k j : Nat) : Nat := if n = 1 then (if j < k then f j else 0) else (if 2 * j < k then f (2 * j) else 0) + 256 * (if 2 * j + 1 < k then f (2 * j + 1) else 0)
/-- byte i of the numbers l -/
def byt (n : Nat) (l : Nat → Int) (i : Nat) : Nat := if n = 1 then (l i).toNat % 256 else if i % 2 = 0 then (l (i / 2)).toNat % 256 else (l (i / 2)).toNat / 256 % 256

theorem byt_lt (n : Nat) (l : Nat → Int) (i : Nat) : byt n l i < 256 := by
  unfold byt; split
  · omega
  · split <;> omega
theorem word_le {wd n c : Nat} (hw : Wide wd n c) {f : Nat → Nat} (hf : ∀ j, f j < 256) (j : Nat) : word n f j ≤ c := by
  have h1 := hf j
  have h2 := hf (2 * j)
  have h3 := hf (2 * j + 1)
  rcases hw with ⟨rfl, rfl, rfl⟩ | ⟨rfl, rfl, rfl⟩
  · simp [word]; omega
  · simp [word]; omega
theorem part_zero (n : Nat) (f : Nat → Nat) (j : Nat) : part n f 0 j = 0 := by simp [part]
theorem part_all {wd n c : Nat} (hw : Wide wd n c) (f : Nat → Nat) {m j : Nat} (hj : j < m) : part n f (n * m) j = word n f j := by
  rcases hw with ⟨rfl, rfl, rfl⟩ | ⟨rfl, rfl, rfl⟩
  · simp [part, word]; intro h; omega
  · have h1 : 2 * j < 2 * m := by omega
    have h2 : 2 * j + 1 < 2 * m := by omega
    simp [part, word, h2]; intro h; omega

/-- numbers as bytes, and back -/
theorem word_byt {wd n c : Nat} (hw : Wide wd n c) {l : Nat → Int} (j : Nat) (h0 : 0 ≤ l j) (h1 : l j ≤ c) : (word n (byt n l) j : Int) = l j := by
  rcases hw with ⟨rfl, rfl, rfl⟩ | ⟨rfl, rfl, rfl⟩
  · simp [word, byt]; omega
  · have e1 : (2 * j) % 2 = 0 := by omega
    have e2 : (2 * j) / 2 = j := by omega
    have e3 : (2 * j + 1) % 2 = 1 := by omega
    have e4 : (2 * j + 1) / 2 = j := by omega
    simp only [word, byt, e1, e2, e3, e4]
    simp
    omega
theorem byt_word {wd n c : Nat} (hw : Wide wd n c) {f : Nat → Nat} (hf : ∀ j, f j < 256) (i : Nat) : byt n (fun j => (word n f j : Int)) i = f i := by
  rcases hw with ⟨rfl, rfl, rfl⟩ | ⟨rfl, rfl, rfl⟩
  · have := hf i
    simp [word, byt]; omega
  · have h1 := hf (2 * (i / 2))
    have h2 := hf (2 * (i / 2) + 1)
    rcases Nat.mod_two_eq_zero_or_one i with hi | hi
    · have e : 2 * (i / 2) = i := by omega
      rw [e] at h1 h2
      simp only [word, byt, hi, e]
      simp
      omega
    · have e : 2 * (i / 2) + 1 = i := by omega
      rw [e] at h2
      simp only [word, byt, hi, e]
      simp
      omega
theorem byt_congr {wd n c : Nat} (hw : Wide wd n c) {l l' : Nat → Int} {m : Nat} (h : ∀ j, j < m → l j = l' j) {i : Nat} (hi : i < n * m) : byt n l i = byt n l' i := by
  rcases hw with ⟨rfl, rfl, rfl⟩ | ⟨rfl, rfl, rfl⟩
  · simp only [byt]; rw [h i (by omega)]; simp
  · simp only [byt]; rw [h (i / 2) (by omega)]; simp
theorem word_congr {wd n c : Nat} (hw : Wide wd n c) {f g : Nat → Nat} {m : Nat} (h : ∀ j, j < n * m → f j = g j) {j : Nat} (hj : j < m) : word n f j = word n g j := by
  rcases hw with ⟨rfl, rfl, rfl⟩ | ⟨rfl, rfl, rfl⟩
  · simp only [word]; simp; exact h j (by omega)
  · simp only [word]; rw [h (2 * j) (by omega), h (2 * j + 1) (by omega)]; simp
end Go.Proofs.YtgdgimknnjbieaaGreatDoor

namespace Go.Proofs.YtgdgimknnjbieaaGreatDoor
open Go.RowKit

abbrev TIs : Nat := 53

/-- are all m numbers of the field? -/
def allIn (c : Nat) (l : Nat → Int) (m : Nat) : Prop := ∀ j, j < m → 0 ≤ l j ∧ l j ≤ c

/-- numbers that are told -/
def IntsTold (b n : Nat) (l : Nat → Int) (w : World) (v : Value) (w' : World) : Prop := ∃ A c, v = .slice A n c ∧ n ≤ c ∧ Rd b w' (i64s l) A n ∧ Below w.heap.size w w'
theorem IntsTold.of {b n : Nat} {l : Nat → Int} {w w' : World} {v : Value} (h : App w TI (i64s l) n v w') (hb : b < w.heap.size) : IntsTold b n l w v w' := by
  obtain ⟨A, c, h1, h2, h3⟩ := h.rd hb
  exact ⟨A, c, h1, h2, h3, h.2⟩

end Go.Proofs.YtgdgimknnjbieaaGreatDoor

namespace Go.Proofs.YtgdgimknnjbieaaGreatDoor
open Go.RowKit

/-- rows of numbers, as they are read: row r has Ls r numbers, F r 0, F r 1, .. -/
def Mx (b : Nat) (w : World) (F : Nat → Nat → Int) (Ls : Nat → Nat) (A : Option Addr) (n : Nat) : Prop :=
  ∃ As Cs, Rd b w (slis As Ls Cs) A n ∧ ∀ r, r < n → Rd b w (i64s (F r)) (As r) (Ls r)
theorem Mx.turned {b : Nat} {w w' : World} {F : Nat → Nat → Int} {Ls : Nat → Nat} {A : Option Addr} {n : Nat} (h : Mx b w F Ls A n) (ht : Turned b w w') : Mx b w' F Ls A n := by
  obtain ⟨As, Cs, h1, h2⟩ := h
  exact ⟨As, Cs, h1.turned ht, fun r hr => (h2 r hr).turned ht⟩
theorem Mx.below {b : Nat} {w w' : World} {F : Nat → Nat → Int} {Ls : Nat → Nat} {A : Option Addr} {n : Nat} (h : Mx b w F Ls A n) (ht : Below w.heap.size w w') : Mx b w' F Ls A n := h.turned (Turned.of_below ht)
theorem Mx.zero {b : Nat} {w : World} {F : Nat → Nat → Int} {Ls : Nat → Nat} {A : Option Addr} : Mx b w F Ls A 0 := ⟨fun _ => none, fun _ => 0, Rd.zero, fun r hr => absurd hr (by omega)⟩
theorem Mx.congr {b : Nat} {w : World} {F F' : Nat → Nat → Int} {Ls Ls' : Nat → Nat} {A : Option Addr} {n : Nat} (h : Mx b w F Ls A n) (h1 : ∀ r, r < n → Ls r = Ls' r) (h2 : ∀ r, r < n → ∀ j, j < Ls r → F r j = F' r j) : Mx b w F' Ls' A n := by
  obtain ⟨As, Cs, g1, g2⟩ := h
  refine ⟨As, Cs, g1.congr (fun j hj => by simp only [slis]; rw [h1 j hj]), fun r hr => ?_⟩
  rw [← h1 r hr]
  exact (g2 r hr).congr (fun j hj => by simp only [i64s]; rw [h2 r hr j hj])

/-- a question is answered, and nothing is changed -/
def SaidB (p : Prop) (w : World) (e : Ending) (w' : World) : Prop := ∃ t, e = .returned (.bool t) ∧ (t = true ↔ p) ∧ w = w'
theorem SaidB.yes {p : Prop} {w : World} (h : p) : SaidB p w (.returned (.bool true)) w := ⟨true, rfl, by simp [h], rfl⟩
theorem SaidB.no {p : Prop} {w : World} (h : ¬ p) : SaidB p w (.returned (.bool false)) w := ⟨false, rfl, by simp [h], rfl⟩

/-- may a matrix have so many rows, or a row so many numbers? -/
def side (n : Nat) : Prop := 1 ≤ n ∧ n ≤ 20

set_option maxRecDepth 100000 in
theorem side28 (n : Nat) (w : World) : Calls Tryz.prog 98 #[.int .i64 n] w (SaidB (side n) w) := by
  by_cases h1 : 1 ≤ n
  · by_cases h2 : n ≤ 20
    · have HE := Lib.hid (SaidB.yes (w := w) (show side n from ⟨h1, h2⟩))
      have hd : decide ((n : Int) ≤ 20) = true := by simp; omega
      go_enter Tryz.func98, Tryz.ntmps98
      go_wp2_with fail
      go_ret
      exact HE.out
    · have HE := Lib.hid (SaidB.no (w := w) (show ¬ side n from fun h => h2 h.2))
      have hd : decide ((n : Int) ≤ 20) = false := by simp; omega
      go_enter Tryz.func98, Tryz.ntmps98
      go_wp2_with fail
      go_ret
      exact HE.out
  · have HE := Lib.hid (SaidB.no (w := w) (show ¬ side n from fun h => h1 h.1))
    have hd : decide (1 ≤ (n : Int)) = false := by simp; omega
    go_enter Tryz.func98, Tryz.ntmps98
    go_wp2_with fail
    go_ret
    exact HE.out

set_option maxRecDepth 100000 in
set_option maxHeartbeats 1000000 in
theorem nums31 {g : Nat} (b wd c : Nat) (hk : Kind wd c) (l : Nat → Int) (A : Option Addr) (n cap : Nat) (hn : n ≤ 100000) (w : World) (hc : w.cell? ⟨b, 0, none⟩ = some (.int .i64 wd)) (hr : Rd g w (i64s l) A n) :
    Calls Tryz.prog 144 #[.pointer (some ⟨b, 0, none⟩), .slice A n cap] w (SaidB (allIn c l n) w) := by
  have hkb := hk.bounds
  have HR := Lib.hid hr
  clear hr
  go_enter Tryz.func144, Tryz.ntmps144
  go_wp2_with fail
  refine (size13 b wd c hk _ hc).mono ?_
  rintro e w' ⟨rfl, rfl⟩
  go_wp2_with fail
  go_loop [12] (fun s12 => ∃ k : Nat, k ≤ n ∧ s12 = .int .i64 k ∧ Hid (allIn c l k)) (fun s12 => n - (intOf s12).toNat)
  case atStart => exact ⟨0, Nat.zero_le _, rfl, Lib.hid (fun j hj => absurd hj (by omega))⟩
  case round =>
    obtain ⟨k, hk', rfl, hall⟩ := hrel
    by_cases hlt : k < n
    · obtain ⟨ad, rfl, hcell⟩ := HR.out.at_ hlt
      simp only [i64s] at hcell
      obtain ⟨x, hx⟩ : ∃ x, l k = x := ⟨_, rfl⟩
      have HX := Lib.hid hx
      rw [hx] at hcell
      clear hx
      by_cases h0 : 0 ≤ x
      · by_cases h1 : x ≤ c
        · have hd0 : decide (x < 0) = false := by simp; omega
          have hd1 : decide ((c : Int) + 1 ≤ x) = false := by simp; omega
          have HS := Lib.hid (show allIn c l (k + 1) from fun j hj => (Nat.lt_succ_iff_lt_or_eq.1 hj).elim (fun h => hall.out j h) (fun h => by rw [h, HX.out]; exact ⟨h0, h1⟩))
          go_wp2_with fail
          exact ⟨⟨k + 1, hlt, by go_num, HS⟩, by simp [intOf]; omega⟩
        · have hd0 : decide (x < 0) = false := by simp; omega
          have hd1 : decide ((c : Int) + 1 ≤ x) = true := by simp; omega
          have HE := Lib.hid (SaidB.no (w := w) (show ¬ allIn c l n from fun h => h1 (by have := (h k hlt).2; rwa [HX.out] at this)))
          go_wp2_with fail
          go_ret
          exact HE.out
      · have hd0 : decide (x < 0) = true := by simp; omega
        have HE := Lib.hid (SaidB.no (w := w) (show ¬ allIn c l n from fun h => h0 (by have := (h k hlt).1; rwa [HX.out] at this)))
        go_wp2_with fail
        go_ret
        exact HE.out
    · obtain rfl : k = n := by omega
      have HE := Lib.hid (SaidB.yes (w := w) hall.out)
      go_wp2_with fail
      go_ret
      exact HE.out

/-- may these rows be a matrix over a field whose greatest number is c? -/
def mayP (c n : Nat) (Ls : Nat → Nat) (F : Nat → Nat → Int) : Prop := side n ∧ side (Ls 0) ∧ ∀ r, r < n → Ls r = Ls 0 ∧ allIn c (F r) (Ls r)

set_option maxRecDepth 100000 in
set_option maxHeartbeats 1000000 in
theorem may16 {g : Nat} (b wd c : Nat) (hk : Kind wd c) (F : Nat → Nat → Int) (Ls : Nat → Nat) (A : Option Addr) (n cap : Nat) (w : World) (hc : w.cell? ⟨b, 0, none⟩ = some (.int .i64 wd)) (hr : Mx g w F Ls A n) :
    Calls Tryz.prog 97 #[.pointer (some ⟨b, 0, none⟩), .slice A n cap] w (SaidB (mayP c n Ls F) w) := by
  obtain ⟨As, Cs, hr1, hr2⟩ := hr
  have HR := Lib.hid hr1
  have HRS := Lib.hid hr2
  clear hr1 hr2
  go_enter Tryz.func97, Tryz.ntmps97
  go_wp2_with fail
  refine (side28 n _).mono ?_
  rintro e w' ⟨t, rfl, ht, rfl⟩
  cases t
  · have HE := Lib.hid (SaidB.no (w := w) (show ¬ mayP c n Ls F from fun h => by have := ht.2 h.1; cases this))
    clear ht
    go_wp2_with fail
    go_ret
    exact HE.out
  have hs := ht.1 rfl
  have HN := Lib.hid hs
  have hn1 : 0 < n := by have := hs.1; omega
  have hn2 : n ≤ 20 := hs.2
  clear ht hs
  obtain ⟨ad, rfl, hcell0⟩ := HR.out.at_ hn1
  have h00 : ad.add 0 = ad := by simp [Addr.add]
  rw [h00] at hcell0
  simp only [slis] at hcell0
  clear h00
  go_wp2_with fail
  refine (side28 (Ls 0) _).mono ?_
  rintro e w' ⟨t, rfl, ht, rfl⟩
  cases t
  · have HE := Lib.hid (SaidB.no (w := w) (show ¬ mayP c n Ls F from fun h => by have := ht.2 h.2.1; cases this))
    clear ht
    go_wp2_with fail
    go_ret
    exact HE.out
  have hs := ht.1 rfl
  have HL := Lib.hid hs
  have hl2 : Ls 0 ≤ 20 := hs.2
  clear ht hs
  go_wp2_with fail
  go_loop [25] (fun s25 => ∃ k : Nat, k ≤ n ∧ s25 = .int .i64 k ∧ Hid (∀ r, r < k → Ls r = Ls 0 ∧ allIn c (F r) (Ls r))) (fun s25 => n - (intOf s25).toNat)
  case atStart => exact ⟨0, Nat.zero_le _, rfl, Lib.hid (fun j hj => absurd hj (by omega))⟩
  case round =>
    obtain ⟨k, hk', rfl, hall⟩ := hrel
    by_cases hlt : k < n
    · obtain ⟨ad', e', hcell⟩ := HR.out.at_ hlt
      injection e' with e'
      subst e'
      simp only [slis] at hcell
      by_cases he : Ls k = Ls 0
      · have hne : (((Ls k : Nat) : Int) != ((Ls 0 : Nat) : Int)) = false := by simp [he]
        have HE0 := Lib.hid he
        have hlk : Ls k ≤ 100000 := by omega
        clear he
        go_wp2_with fail
        refine (nums31 b wd c hk (F k) (As k) (Ls k) (Cs k) hlk _ hc (HRS.out k hlt)).mono ?_
        rintro e w' ⟨t, rfl, ht, rfl⟩
        cases t
        · have HE := Lib.hid (SaidB.no (w := w) (show ¬ mayP c n Ls F from fun h => by have := ht.2 (h.2.2 k hlt).2; cases this))
          clear ht
          go_wp2_with fail
          go_ret
          exact HE.out
        · have HS := Lib.hid (show ∀ r, r < k + 1 → Ls r = Ls 0 ∧ allIn c (F r) (Ls r) from fun j hj => (Nat.lt_succ_iff_lt_or_eq.1 hj).elim (fun h => hall.out j h) (fun h => by rw [h]; exact ⟨HE0.out, ht.1 rfl⟩))
          clear ht
          go_wp2_with fail
          exact ⟨⟨k + 1, hlt, by go_num, HS⟩, by simp [intOf]; omega⟩
      · have hne : (((Ls k : Nat) : Int) != ((Ls 0 : Nat) : Int)) = true := by simp; omega
        have HE := Lib.hid (SaidB.no (w := w) (show ¬ mayP c n Ls F from fun h => he (h.2.2 k hlt).1))
        clear he
        go_wp2_with fail
        go_ret
        exact HE.out
    · obtain rfl : k = n := by omega
      have HE := Lib.hid (SaidB.yes (w := w) (show mayP c k Ls F from ⟨HN.out, HL.out, hall.out⟩))
      go_wp2_with fail
      go_ret
      exact HE.out

/-- rows lie apart from a block that wasn't there -/
theorem Mx.above {g b : Nat} {W : World} {F : Nat → Nat → Int} {Ls : Nat → Nat} {A : Option Addr} {n : Nat} (h : Mx g W F Ls A n) (hb : W.heap.size ≤ b) : Mx b W F Ls A n := by
  obtain ⟨As, Cs, h1, h2⟩ := h
  exact ⟨As, Cs, h1.above hb, fun r hr => (h2 r hr).above hb⟩
end Go.Proofs.YtgdgimknnjbieaaGreatDoor

namespace Go.Proofs.YtgdgimknnjbieaaGreatDoor

theorem i64_xor_nat (a b : Nat) (ha : a < 9223372036854775808) (hb : b < 9223372036854775808) : bits .xor .i64 (a : Int) (b : Int) = ((a ^^^ b : Nat) : Int) := by
  have hx : a ^^^ b < 2 ^ 63 := Nat.xor_lt_two_pow (by omega) (by omega)
  show IntKind.i64.wrap ((BitVec.ofInt 64 (a : Int) ^^^ BitVec.ofInt 64 (b : Int)).toNat : Int) = _
  rw [BitVec.toNat_xor, ofInt_u64 a (by omega), ofInt_u64 b (by omega), IntKind.wrap_i64]
  omega
end Go.Proofs.YtgdgimknnjbieaaGreatDoor

namespace Go.Proofs.YtgdgimknnjbieaaGreatDoor
open Go.RowKit

theorem fmulr {p wd : Nat} (hg : Good p wd) (a x : Int) : 0 ≤ fmul p a x ∧ fmul p a x ≤ M.ord p := by
  unfold fmul
  split
  · have := M.md_in hg.prim.1 (M.mul a.toNat x.toNat)
    omega
  · omega

/-- the sum of the products of the first n numbers -/
def dotN (p : Nat) (x y : Nat → Int) : Nat → Nat
  | 0 => 0
  | n + 1 => dotN p x y n ^^^ (fmul p (x n) (y n)).toNat
theorem dotN_le {p wd : Nat} (hg : Good p wd) (x y : Nat → Int) : ∀ n, dotN p x y n ≤ M.ord p
  | 0 => Nat.zero_le _
  | n + 1 => M.xor_le hg.prim.1 (dotN_le hg x y n) (by have := fmulr hg (x n) (y n); omega)

/-- in dot's loop -/
def DotAt (p b wd n : Nat) (x y : Nat → Int) (w : World) (s7 s12 : Value) (wr : World) : Prop :=
  ∃ k : Nat, k ≤ n ∧ s12 = .int .i64 k ∧ s7 = .int .i64 (dotN p x y k) ∧ Fld p b wd wr ∧ Turned b w wr

set_option maxRecDepth 100000 in
set_option maxHeartbeats 1000000 in
theorem dot34 (p b wd : Nat) (x y : Nat → Int) (A B : Option Addr) (n m ca cb : Nat) (hn : n ≤ 100000) (hm : n ≤ m) (w : World) (hfl : Fld p b wd w) (ha : Rd b w (i64s x) A n) (hb : Rd b w (i64s y) B m) :
    Calls Tryz.prog 160 #[.pointer (some ⟨b, 0, none⟩), .slice A n ca, .slice B m cb] w (Ans p b wd w (.int .i64 (dotN p x y n))) := by
  have hg := hfl.1
  have hbd := hg.bounds
  have HF := Lib.hid hfl
  have HA := Lib.hid ha
  have HB := Lib.hid hb
  clear hfl ha hb
  go_enter Tryz.func160, Tryz.ntmps160
  go_wp2_with fail
  go_loopw [7, 12] (fun s7 s12 wr => DotAt p b wd n x y w s7 s12 wr) (fun _ s12 _ => n - (intOf s12).toNat)
  case atStart => exact ⟨0, Nat.zero_le _, rfl, rfl, HF.out, Turned.refl _ _⟩
  case round =>
    obtain ⟨k, hk, rfl, rfl, hf, ht⟩ := hrel
    by_cases hlt : k < n
    · obtain ⟨ad, rfl, hc1⟩ := (HA.out.turned ht).at_ hlt
      obtain ⟨ad', rfl, hc2⟩ := (HB.out.turned ht).at_ (show k < m by omega)
      simp only [i64s] at hc1 hc2
      have HT := Lib.hid ht
      have HF' := Lib.hid hf
      have hs := dotN_le hg x y k
      have hr := fmulr hg (x k) (y k)
      have HS := Lib.hid (show dotN p x y (k + 1) = dotN p x y k ^^^ (fmul p (x k) (y k)).toNat from rfl)
      clear ht hf
      obtain ⟨u, hu⟩ : ∃ u, x k = u := ⟨_, rfl⟩
      obtain ⟨v, hv⟩ : ∃ v, y k = v := ⟨_, rfl⟩
      obtain ⟨s, hss⟩ : ∃ s, dotN p x y k = s := ⟨_, rfl⟩
      rw [hu] at hc1 HS hr
      rw [hv] at hc2 HS hr
      rw [hss] at HS hs ⊢
      have HX := Lib.hid (i64_xor_nat s (fmul p u v).toNat (by omega) (by omega))
      clear hu hv hss
      have hk63 : k < m := by omega
      go_wp2_with fail
      refine (fmul12 p b wd u v _ HF'.out).mono ?_
      rintro e w2 ⟨rfl, hf2, ht2⟩
      have HE := Lib.hid (And.intro hf2 (HT.out.trans ht2))
      clear hf2 ht2
      obtain ⟨q, hq⟩ : ∃ q : Nat, fmul p u v = (q : Int) := ⟨(fmul p u v).toNat, by omega⟩
      rw [hq] at HX HS hr ⊢
      rw [Int.toNat_natCast] at HX HS
      clear hq
      go_wp2_with fail
      exact ⟨⟨k + 1, hlt, by go_num, by rw [HS.out, ← HX.out], HE.out⟩, by simp [intOf]; omega⟩
    · obtain rfl : k = n := by omega
      have HE := Lib.hid (show Ans p b wd w (.int .i64 (dotN p x y k)) (.returned (.int .i64 (dotN p x y k))) wr from ⟨rfl, hf, ht⟩)
      clear hf ht
      go_wp2_with fail
      go_ret
      exact HE.out
end Go.Proofs.YtgdgimknnjbieaaGreatDoor

namespace Go.Proofs.YtgdgimknnjbieaaGreatDoor
open Go.RowKit

/-- w' is as w was, in all blocks of cells, and in all blocks below H -/
structure Kept (H : Nat) (W W' : World) : Prop where
  os : W'.os = W.os
  tape : W'.tape = W.tape
  output : W'.output = W.output
  size : W.heap.size ≤ W'.heap.size
  block : ∀ k, k < W.heap.size → (k < H ∨ ∃ c t f, W.heap[k]? = some (.cells c t f)) → W'.heap[k]? = W.heap[k]?

theorem Kept.of_below {H : Nat} {W W' : World} (h : Below W.heap.size W W') : Kept H W W' := ⟨h.os, h.tape, h.output, h.size, fun k hk _ => h.block k hk⟩
theorem Kept.of_putObj {H r : Nat} {W : World} {o o' : Obj} (hr : H ≤ r) (h : W.heap[r]? = some o) (ho : o.isCells = false) : Kept H W (W.putObj r o') := by
  refine ⟨rfl, rfl, rfl, by simp, fun k _ hk => World.putObj_heap_other ?_⟩
  rintro rfl
  rcases hk with hk | ⟨c, t, f, hk⟩
  · omega
  · rw [h] at hk
    injection hk with hk
    subst hk
    cases ho
theorem Kept.row {H : Nat} {W W' : World} (h : Kept H W W') {g t n : Nat} {f : Nat → Value} (hr : W.rowIs g t n f) : W'.rowIs g t n f := by
  have hlt := hr.lt
  obtain ⟨c, h1, h2⟩ := hr
  exact ⟨c, (h.block g hlt (Or.inr ⟨_, _, _, h1⟩)).trans h1, h2⟩
theorem Kept.cell {H : Nat} {W W' : World} (h : Kept H W W') {q : Addr} {v : Value} (hq : q.block < H) (hc : W.cell? q = some v) : W'.cell? q = some v :=
  (World.cell?_of_block (h.block q.block (World.block_lt_of_cell? W q hc) (Or.inl hq))).trans hc
theorem Kept.fld {H p b wd : Nat} {W W' : World} (h : Kept H W W') (hf : Fld p b wd W) : Fld p b wd W' := by
  refine ⟨hf.1, ?_⟩
  rcases hf.2 with hf | ⟨x, y, g1, g2, r1, r2, r3⟩
  · exact Or.inl (h.row hf)
  · exact Or.inr ⟨x, y, g1, g2, h.row r1, h.row r2, h.row r3⟩
theorem Kept.own {H base e n : Nat} {W W' : World} {v : Value} {xs : List Value} (h : Kept H W W') (ho : W.ownsRow base e 1 v n xs) : W'.ownsRow base e 1 v n xs := by
  refine ⟨ho.1, ?_⟩
  rcases ho.2 with hn | ⟨g, cap, cur, h1, h2, h3, h4⟩
  · exact Or.inl hn
  · exact Or.inr ⟨g, cap, cur, h1, h2, (h.block g (Array.getElem?_eq_some_iff.1 h3).1 (Or.inr ⟨_, _, _, h3⟩)).trans h3, h4⟩
theorem Kept.turned {H b : Nat} {w W W' : World} (h : Kept H W W') (ht : Turned b w W) (hw : w.heap.size ≤ H) : Turned b w W' :=
  ⟨h.os.trans ht.os, h.tape.trans ht.tape, h.output.trans ht.output, Nat.le_trans ht.size h.size, fun k hk hb => (h.block k (Nat.lt_of_lt_of_le hk ht.size) (Or.inl (by omega))).trans (ht.block k hk hb)⟩

/-- the product's number in row r and column c -/
def mulF (p : Nat) (F G : Nat → Nat → Int) (k r c : Nat) : Int := (dotN p (F r) (fun x => G x c) k : Nat)

/-- the matrices, and the rows V of the product, of which row r has cnt r numbers -/
structure MidV (p b wd n k : Nat) (A B : Option Addr) (ca cb : Nat) (F G : Nat → Nat → Int) (w : World) (V : Nat → Value) (cnt : Nat → Nat) (W : World) : Prop where
  fld : Fld p b wd W
  turned : Turned b w W
  size : w.heap.size + 5 ≤ W.heap.size
  cf : W.cell? ⟨w.heap.size, 0, none⟩ = some (.pointer (some ⟨b, 0, none⟩))
  ca : W.cell? ⟨w.heap.size + 1, 0, none⟩ = some (.slice A n ca)
  cp : W.cell? ⟨w.heap.size + 3, 0, none⟩ = some (.slice (some ⟨w.heap.size + 2, 0, none⟩) n n)
  cb : W.cell? ⟨w.heap.size + 4, 0, none⟩ = some (.slice B k cb)
  row : W.rowIs (w.heap.size + 2) TIs n V
  own : ∀ r, r < n → W.ownsRow (w.heap.size + 5) TI 1 (V r) (cnt r) ((List.range (cnt r)).map (i64s (mulF p F G k r)))
  apart : ∀ r r', r < n → r' < n → r ≠ r' → (V r).ownBlock = none ∨ (V r).ownBlock ≠ (V r').ownBlock
def Mid (p b wd n k : Nat) (A B : Option Addr) (ca cb : Nat) (F G : Nat → Nat → Int) (w : World) (cnt : Nat → Nat) (W : World) : Prop := ∃ V, MidV p b wd n k A B ca cb F G w V cnt W

section
variable {p b wd n k : Nat} {A B : Option Addr} {ca cb : Nat} {F G : Nat → Nat → Int} {w : World} {V : Nat → Value} {cnt : Nat → Nat} {W W' : World}

theorem MidV.kept (h : MidV p b wd n k A B ca cb F G w V cnt W) (hk : Kept (w.heap.size + 5) W W') : MidV p b wd n k A B ca cb F G w V cnt W' :=
  ⟨hk.fld h.fld, hk.turned h.turned (by omega), Nat.le_trans h.size hk.size, hk.cell (by simp) h.cf, hk.cell (by simp) h.ca, hk.cell (by simp) h.cp, hk.cell (by simp) h.cb, hk.row h.row, fun r hr => hk.own (h.own r hr), h.apart⟩
theorem MidV.below (h : MidV p b wd n k A B ca cb F G w V cnt W) (hb : Below W.heap.size W W') : MidV p b wd n k A B ca cb F G w V cnt W' := h.kept (Kept.of_below hb)
theorem MidV.drew (h : MidV p b wd n k A B ca cb F G w V cnt W) : MidV p b wd n k A B ca cb F G w V cnt W.drew := h.below (Below.refl _ _).drew
theorem MidV.congr {cnt' : Nat → Nat} (h : MidV p b wd n k A B ca cb F G w V cnt W) (he : ∀ r, r < n → cnt r = cnt' r) : MidV p b wd n k A B ca cb F G w V cnt' W :=
  ⟨h.fld, h.turned, h.size, h.cf, h.ca, h.cp, h.cb, h.row, fun r hr => by rw [← he r hr]; exact h.own r hr, h.apart⟩

/-- the field's own tables may be made in between -/
theorem MidV.turn (h : MidV p b wd n k A B ca cb F G w V cnt W) (hb : b < w.heap.size) (hf : Fld p b wd W') (ht : Turned b W W') : MidV p b wd n k A B ca cb F G w V cnt W' := by
  have hc : ∀ (q : Addr) v, q.block ≠ b → W.cell? q = some v → W'.cell? q = some v := fun q v hq hv => (ht.cell (World.block_lt_of_cell? W q hv) hq).trans hv
  refine ⟨hf, h.turned.trans ht, Nat.le_trans h.size ht.size, hc _ _ (by simp; omega) h.cf, hc _ _ (by simp; omega) h.ca, hc _ _ (by simp; omega) h.cp, hc _ _ (by simp; omega) h.cb, ht.row h.row (by omega), fun r hr => ?_, h.apart⟩
  have ho := h.own r hr
  refine ⟨ho.1, ?_⟩
  rcases ho.2 with hn | ⟨g, cap, cur, g1, g2, g3, g4⟩
  · exact Or.inl hn
  · exact Or.inr ⟨g, cap, cur, g1, g2, (ht.block g (Array.getElem?_eq_some_iff.1 g3).1 (by omega)).trans g3, g4⟩

/-- behind an append to row i: what lies below the rows is as it was -/
theorem MidV.low {i : Nat} {o : Obj} {W1 : World} (h : MidV p b wd n k A B ca cb F G w V cnt W) (hi : i < n) (hgr : (W.alloc o).grownBy W1 (V i).ownBlock) :
    W1.cell? ⟨w.heap.size, 0, none⟩ = some (.pointer (some ⟨b, 0, none⟩)) ∧ W1.cell? ⟨w.heap.size + 3, 0, none⟩ = some (.slice (some ⟨w.heap.size + 2, 0, none⟩) n n) ∧ W1.rowIs (w.heap.size + 2) TIs n V := by
  have h3 := h.size
  have hlow : ∀ q, q < w.heap.size + 5 → W1.heap[q]? = W.heap[q]? := fun q hq =>
    (hgr.block q (by simp; omega) (fun e => by have := ((h.own i hi).lt q e.symm).1; omega)).trans (Below.heap_alloc W o q (by omega))
  exact ⟨(World.cell?_of_block (hlow _ (by simp))).trans h.cf, (World.cell?_of_block (hlow _ (by simp))).trans h.cp, h.row.of_block (hlow _ (by omega))⟩

/-- what is appended to row i, and stored -/
theorem MidV.step {i g cap : Nat} {o : Obj} {W1 : World} (h : MidV p b wd n k A B ca cb F G w V cnt W)
    (hi : i < n) (hown : W1.ownsRow (w.heap.size + 5) TI 1 (.slice (some ⟨g, 0, none⟩) (cnt i + 1) cap) (cnt i + 1) ((List.range (cnt i)).map (i64s (mulF p F G k i)) ++ [i64s (mulF p F G k i) (cnt i)]))
    (hgr : (W.alloc o).grownBy W1 (V i).ownBlock) (hg : (V i).ownBlock = some g ∨ g = (W.alloc o).heap.size) :
    MidV p b wd n k A B ca cb F G w (fun r => if r = i then .slice (some ⟨g, 0, none⟩) (cnt i + 1) cap else V r) (fun r => if r = i then cnt r + 1 else cnt r) (W1.setCell ⟨w.heap.size + 2, i, none⟩ (.slice (some ⟨g, 0, none⟩) (cnt i + 1) cap)) := by
  have h3 := h.size
  have h8 := h.row
  have h10 := h.apart
  have hV : ∀ r, r < n → ∀ q, (V r).ownBlock = some q → w.heap.size + 5 ≤ q ∧ q < W.heap.size := fun r hr q hq => (h.own r hr).lt q hq
  have hbl : ∀ q, q < W.heap.size → (V i).ownBlock ≠ some q → W1.heap[q]? = W.heap[q]? := fun q hq hne =>
    (hgr.block q (by simp; omega) (fun e => hne e.symm)).trans (Below.heap_alloc W o q hq)
  have hlow : ∀ q, q < w.heap.size + 5 → W1.heap[q]? = W.heap[q]? := fun q hq => hbl q (by omega) (fun e => by have := (hV i hi q e).1; omega)
  have hsz : W.heap.size ≤ W1.heap.size := Nat.le_trans (by simp) hgr.size
  have hset : ∀ q, q ≠ w.heap.size + 2 → (W1.setCell ⟨w.heap.size + 2, i, none⟩ (.slice (some ⟨g, 0, none⟩) (cnt i + 1) cap)).heap[q]? = W1.heap[q]? := fun q hq => Below.heap_setCell _ _ _ _ hq
  have hc : ∀ (q : Addr) v, q.block < w.heap.size + 5 → q.block ≠ w.heap.size + 2 → W.cell? q = some v → (W1.setCell ⟨w.heap.size + 2, i, none⟩ (.slice (some ⟨g, 0, none⟩) (cnt i + 1) cap)).cell? q = some v := fun q v hq hne hv =>
    (World.cell?_of_block ((hset q.block hne).trans (hlow q.block hq))).trans hv
  have hrow1 : W1.rowIs (w.heap.size + 2) TIs n V := h8.of_block (hlow _ (by omega))
  -- a row of a field, or of its tables, is none of the product's
  have hfl : ∀ (x t m : Nat) (f : Nat → Value), W.rowIs x t m f → t ≠ TI → t ≠ TIs → (W1.setCell ⟨w.heap.size + 2, i, none⟩ (.slice (some ⟨g, 0, none⟩) (cnt i + 1) cap)).rowIs x t m f := fun x t m f hr ht1 ht2 => by
    refine hr.of_block ((hset x ?_).trans (hbl x hr.lt ?_))
    · rintro rfl
      obtain ⟨c, e1, _⟩ := hr
      obtain ⟨c', e2, _⟩ := h8
      rw [e1] at e2
      injection e2 with e2
      injection e2 with _ e2
      exact ht2 e2
    · intro hq
      obtain ⟨c, e1, _⟩ := hr
      rcases (h.own i hi).2 with ⟨hv, _⟩ | ⟨g', _, cur, hv, _, e2, _⟩
      · rw [hv] at hq; cases hq
      · rw [hv] at hq
        simp only [Value.ownBlock] at hq
        injection hq with hq
        subst hq
        rw [e1] at e2
        injection e2 with e2
        injection e2 with _ e2
        exact ht1 e2
  refine ⟨⟨h.fld.1, ?_⟩, ?_, ?_, hc _ _ (by simp) (by simp) h.cf, hc _ _ (by simp) (by simp) h.ca, hc _ _ (by simp) (by simp) h.cp, hc _ _ (by simp) (by simp) h.cb, ?_, ?_, ?_⟩
  · rcases h.fld.2 with h1 | ⟨x, y, g1, g2, r1, r2, r3⟩
    · exact Or.inl (hfl _ _ _ _ h1 (by decide) (by decide))
    · exact Or.inr ⟨x, y, g1, g2, hfl _ _ _ _ r1 (by decide) (by decide), hfl _ _ _ _ r2 (by decide) (by decide), hfl _ _ _ _ r3 (by decide) (by decide)⟩
  · refine ⟨hgr.os.trans h.turned.os, hgr.tape.trans h.turned.tape, hgr.output.trans h.turned.output, ?_, fun q hq hqb => ((hset q (by omega)).trans (hlow q (by omega))).trans (h.turned.block q hq hqb)⟩
    have := h.turned.size
    simp only [World.setCell, Array.size_modify]
    omega
  · simp only [World.setCell, Array.size_modify]
    omega
  · exact hrow1.set i _
  · intro r hr
    by_cases e : r = i
    · subst e
      simp only [if_pos]
      rw [range_snoc]
      refine ⟨hown.1, ?_⟩
      rcases hown.2 with ⟨hv, _⟩ | ⟨g', cap', cur, hv, hb', hh, hx⟩
      · cases hv
      · exact Or.inr ⟨g', cap', cur, hv, hb', (hset g' (by omega)).trans hh, hx⟩
    · simp only [if_neg e]
      have ho := h.own r hr
      refine ⟨ho.1, ?_⟩
      rcases ho.2 with hn | ⟨g', cap', cur, hv, hb', hh, hx⟩
      · exact Or.inl hn
      · refine Or.inr ⟨g', cap', cur, hv, hb', ((hset g' (by omega)).trans (hbl g' (Array.getElem?_eq_some_iff.1 hh).1 ?_)).trans hh, hx⟩
        rcases h10 r i hr hi e with hno | hno
        · rw [hv] at hno; cases hno
        · rw [hv] at hno
          exact fun he => hno he.symm
  · intro r r' hr hr' hne
    by_cases e : r = i
    · subst e
      simp only [if_pos, if_neg (Ne.symm hne)]
      refine Or.inr ?_
      intro he
      replace he : some g = (V r').ownBlock := he
      have hq := hV r' hr' g he.symm
      rcases hg with hg | hg
      · rcases h10 r' r hr' hr (Ne.symm hne) with hno | hno
        · rw [hno] at he; cases he
        · exact hno (he.symm.trans hg.symm)
      · simp at hg
        omega
    · by_cases e' : r' = i
      · subst e'
        simp only [if_neg e, if_pos]
        rcases h10 r r' hr hr' hne with hno | hno
        · exact Or.inl hno
        · refine Or.inr fun he => ?_
          replace he : (V r).ownBlock = some g := he
          rcases hg with hg | hg
          · exact hno (he.trans hg.symm)
          · have hq := hV r hr g he
            simp at hg
            omega
      · simp only [if_neg e, if_neg e']
        exact h10 r r' hr hr' hne
end

/-- in the loop over the rows, at a column that lies at block g: i rows have got their number -/
def RowAt (p b wd n k : Nat) (A B : Option Addr) (ca cb : Nat) (F G : Nat → Nat → Int) (w : World) (j g H : Nat) (W0 : World) (s39 : Value) (W : World) : Prop :=
  ∃ (i : Nat) (V : Nat → Value), i ≤ n ∧ s39 = .int .i64 i ∧ MidV p b wd n k A B ca cb F G w V (fun r => if r < i then j + 1 else j) W ∧ W.rowIs g TI k (i64s (fun r => G r j)) ∧
    (∀ r, r < n → (V r).ownBlock ≠ some g) ∧ w.heap.size + 5 ≤ g ∧ KeepsFrom H W0 W

theorem rowAt_step {p b wd n k : Nat} {A B : Option Addr} {ca cb : Nat} {F G : Nat → Nat → Int} {w : World} {j g H i g' cap : Nat} {W0 W W1 : World} {V : Nat → Value} {o : Obj}
    (hm : MidV p b wd n k A B ca cb F G w V (fun r => if r < i then j + 1 else j) W) (hc : W.rowIs g TI k (i64s (fun r => G r j))) (hne : ∀ r, r < n → (V r).ownBlock ≠ some g) (hgl : w.heap.size + 5 ≤ g) (hk : KeepsFrom H W0 W)
    (hi : i < n) (hown : W1.ownsRow (w.heap.size + 5) TI 1 (.slice (some ⟨g', 0, none⟩) (j + 1) cap) (j + 1) ((List.range j).map (i64s (mulF p F G k i)) ++ [i64s (mulF p F G k i) j]))
    (hgr : (W.alloc o).grownBy W1 (V i).ownBlock) (hg : (V i).ownBlock = some g' ∨ g' = (W.alloc o).heap.size) :
    RowAt p b wd n k A B ca cb F G w j g H W0 (.int .i64 (i + 1 : Nat)) (W1.setCell ⟨w.heap.size + 2, i, none⟩ (.slice (some ⟨g', 0, none⟩) (j + 1) cap)) := by
  have e0 : (if i < i then j + 1 else j) = j := if_neg (by omega)
  have hst := hm.step (i := i) (g := g') (cap := cap) (o := o) (W1 := W1) hi (by simp only [e0]; exact hown) hgr hg
  simp only [e0] at hst
  have hlt := hc.lt
  refine ⟨i + 1, _, hi, rfl, hst.congr (fun r _ => ?_), ?_, ?_, hgl, hk.trans ?_⟩
  · by_cases e : r = i
    · subst e; rw [if_pos rfl, if_neg (by omega), if_pos (by omega)]
    · rw [if_neg e]
      by_cases h : r < i
      · rw [if_pos h, if_pos (by omega)]
      · rw [if_neg h, if_neg (by omega)]
  · refine hc.of_block ((Below.heap_setCell _ _ _ _ (show g ≠ w.heap.size + 2 by omega)).trans ((hgr.block g (by simp; omega) (fun e => hne i hi e.symm)).trans (Below.heap_alloc W o g hlt)))
  · intro r hr
    by_cases e : r = i
    · subst e
      simp only [if_pos]
      intro he
      replace he : some g' = some g := he
      injection he with he
      subst he
      rcases hg with hg | hg
      · exact hne r hr hg
      · simp at hg
        omega
    · simp only [if_neg e]
      exact hne r hr
  · refine ((KeepsOthers.alloc W o).trans ((KeepsOthers.of_grownBy hgr ?_).trans (KeepsOthers.setCell _ _ _))).from H
    intro q o' hq ho'
    rcases (hm.own i hi).2 with ⟨hv, _⟩ | ⟨g2, _, cur, hv, _, e2, _⟩
    · rw [hv] at hq; cases hq
    · rw [hv] at hq
      simp only [Value.ownBlock] at hq
      injection hq with hq
      subst hq
      rw [(Below.heap_alloc W o _ (Array.getElem?_eq_some_iff.1 e2).1).trans e2] at ho'
      injection ho' with ho'
      subst ho'
      rfl

/-- all columns are through -/
theorem Mid.told {p b wd n k : Nat} {A B : Option Addr} {ca cb : Nat} {F G : Nat → Nat → Int} {w : World} {m : Nat} {W : World} (h : Mid p b wd n k A B ca cb F G w (fun _ => m) W) (hb : b < w.heap.size) :
    Mx b W (mulF p F G k) (fun _ => m) (some ⟨w.heap.size + 2, 0, none⟩) n := by
  obtain ⟨V, h⟩ := h
  have hv : ∀ r, ∃ (A' : Option Addr) (c' : Nat), r < n → V r = .slice A' m c' ∧ Rd b W (i64s (mulF p F G k r)) A' m := fun r => by
    by_cases hr : r < n
    · obtain ⟨A', c', e1, _, e2⟩ := Rd.of_own (b := b) (h.own r hr) (by omega)
      exact ⟨A', c', fun _ => ⟨e1, e2⟩⟩
    · exact ⟨none, 0, fun h => absurd h hr⟩
  refine ⟨fun r => Classical.choose (hv r), fun r => Classical.choose (Classical.choose_spec (hv r)), (Rd.of_row (n := n) h.row (by omega) (Nat.le_refl _)).congr (fun j hj => ?_), fun r hr => ?_⟩
  · exact (Classical.choose_spec (Classical.choose_spec (hv j)) hj).1
  · exact (Classical.choose_spec (Classical.choose_spec (hv r)) hr).2
end Go.Proofs.YtgdgimknnjbieaaGreatDoor
