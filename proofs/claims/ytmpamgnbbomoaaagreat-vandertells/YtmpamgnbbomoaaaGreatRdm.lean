/- Slices that are read, beside a field at block b: what they hold, and what leaves them alone. Numbers of a field as bytes: plain mathematics. -/
import Derived.Test.YtmpamgnbbomoaaaGreatGxd
import Derived.Deep.AppendLies
import Derived.Laws.OwnMore
import Derived.Deep.Draws
import Derived.OwnWalk
namespace Go.Proofs.YtmpamgnbbomoaaaGreat
open Go.RowKit

theorem block_of_add (a : Addr) (n : Nat) : (a.add n).block = a.block := by unfold Addr.add; split <;> rfl
theorem add_of_add (a : Addr) (i j : Nat) : (a.add i).add j = a.add (i + j) := by
  unfold Addr.add
  by_cases hi : i = 0 <;> by_cases hj : j = 0 <;> simp [hi, hj, Nat.add_assoc]

/-- the slice at A, of n elements, holds k 0, k 1, ..; it lies in another block than b -/
def Rd (b : Nat) (w : World) (k : Nat → Value) (A : Option Addr) (n : Nat) : Prop :=
  0 < n → ∃ ad, A = some ad ∧ ad.block ≠ b ∧ ad.block < w.heap.size ∧ ∀ j, j < n → w.cell? (ad.add j) = some (k j)

section
variable {b : Nat} {w w' : World} {k : Nat → Value} {A : Option Addr} {n : Nat}
theorem Rd.zero : Rd b w k A 0 := fun h => absurd h (by omega)
theorem Rd.at_ {i : Nat} (h : Rd b w k A n) (hi : i < n) : ∃ ad, A = some ad ∧ w.cell? (ad.add i) = some (k i) := by
  obtain ⟨ad, e, _, _, hc⟩ := h (by omega)
  exact ⟨ad, e, hc i hi⟩
theorem Rd.turned (h : Rd b w k A n) (ht : Turned b w w') : Rd b w' k A n := fun hn => by
  obtain ⟨ad, e, h1, h2, hc⟩ := h hn
  exact ⟨ad, e, h1, Nat.lt_of_lt_of_le h2 ht.size, fun j hj => (ht.cell (by rw [block_of_add]; exact h2) (by rw [block_of_add]; exact h1)).trans (hc j hj)⟩
theorem Rd.below (h : Rd b w k A n) (hb : Below w.heap.size w w') : Rd b w' k A n := h.turned (Turned.of_below hb)
theorem Rd.drew (h : Rd b w k A n) : Rd b w.drew k A n := h
theorem Rd.congr {k' : Nat → Value} (h : Rd b w k A n) (he : ∀ j, j < n → k j = k' j) : Rd b w k' A n := fun hn => by
  obtain ⟨ad, e, h1, h2, hc⟩ := h hn
  exact ⟨ad, e, h1, h2, fun j hj => by rw [hc j hj, he j hj]⟩
theorem Rd.of_row {g t : Nat} {m : Nat} (h : w.rowIs g t m k) (hg : g ≠ b) (hm : n ≤ m) : Rd b w k (some ⟨g, 0, none⟩) n := fun _ => by
  refine ⟨_, rfl, hg, h.lt, fun j hj => ?_⟩
  rw [← h.cell (i := j) (by omega)]
  unfold Addr.add
  split
  · subst_vars; rfl
  · simp
theorem Rd.cut {i cap : Nat} (h : Rd b w k A n) (hi : i ≤ n) (hc : n ≤ cap) :
    Rd b w (fun j => k (i + j)) (if cap = i then A else A.map (·.add i)) (n - i) := fun hn => by
  obtain ⟨ad, rfl, h1, h2, hcell⟩ := h (by omega)
  rw [if_neg (by omega)]
  refine ⟨ad.add i, rfl, by rw [block_of_add]; exact h1, by rw [block_of_add]; exact h2, fun j hj => ?_⟩
  rw [add_of_add]
  exact hcell (i + j) (by omega)
theorem Rd.take {m : Nat} (h : Rd b w k A n) (hm : m ≤ n) : Rd b w k A m := fun hn => by
  obtain ⟨ad, e, h1, h2, hc⟩ := h (by omega)
  exact ⟨ad, e, h1, h2, fun j hj => hc j (by omega)⟩

/-- a row that the call owns, as it is read -/
theorem Rd.of_own {base e : Nat} {v : Value} (h : w.ownsRow base e 1 v n ((List.range n).map k)) (hb : b < base) : ∃ A c, v = .slice A n c ∧ n ≤ c ∧ Rd b w k A n := by
  rcases h.2 with ⟨rfl, rfl⟩ | ⟨g, cap, cur, rfl, hg, hh, hc, _, hs, ht⟩
  · exact ⟨none, 0, rfl, Nat.le_refl _, Rd.zero⟩
  · refine ⟨_, cap, rfl, hc, fun hn => ⟨_, rfl, by simp; omega, ?_, fun j hj => ?_⟩⟩
    · rcases Nat.lt_or_ge g w.heap.size with hl | hl
      · exact hl
      · rw [Array.getElem?_eq_none hl] at hh; cases hh
    · have h1 := h.cells (g := g) rfl j (k j) (by rw [List.getElem?_map, List.getElem?_range (by omega)]; rfl)
      exact h1
end

theorem range_snoc (k : Nat → Value) (n : Nat) : (List.range (n + 1)).map k = (List.range n).map k ++ [k n] := by rw [List.range_succ, List.map_append]; rfl
theorem range_congr {k k' : Nat → Value} {n : Nat} (h : ∀ j, j < n → k j = k' j) : (List.range n).map k = (List.range n).map k' := List.map_congr_left (fun j hj => h j (List.mem_range.1 hj))

/-- the one cell that is laid ahead of an append -/
theorem news_one {w : World} {t : Nat} {v v' : Value} (h : v = v') : ∀ j u, [v'][j]? = some u → (w.alloc (.cells #[v] t)).cell? ((⟨w.heap.size, 0, none⟩ : Addr).add j) = some u := by
  subst h
  intro j u hj
  match j, hj with
  | 0, hj => simp at hj; subst hj; simp [Addr.add]
theorem one_u8 (x : Int) : ∀ u ∈ [Value.int .u8 x], u.oneCell' = true := by intro u hu; simp at hu; subst hu; rfl
theorem one_i64 (x : Int) : ∀ u ∈ [Value.int .i64 x], u.oneCell' = true := by intro u hu; simp at hu; subst hu; rfl

/-- how wide a number is: its bits, its bytes, the greatest one -/
def Wide (wd n c : Nat) : Prop := (wd = 8 ∧ n = 1 ∧ c = 255) ∨ (wd = 16 ∧ n = 2 ∧ c = 65535)
theorem Wide.kind {wd n c : Nat} (h : Wide wd n c) : Kind wd c := by
  rcases h with ⟨rfl, rfl, rfl⟩ | ⟨rfl, rfl, rfl⟩
  · exact Or.inl ⟨rfl, rfl⟩
  · exact Or.inr ⟨rfl, rfl⟩
theorem Wide.of_kind {wd c : Nat} (h : Kind wd c) : ∃ n, Wide wd n c := by
  rcases h with ⟨rfl, rfl⟩ | ⟨rfl, rfl⟩
  · exact ⟨1, Or.inl ⟨rfl, rfl, rfl⟩⟩
  · exact ⟨2, Or.inr ⟨rfl, rfl, rfl⟩⟩
theorem Wide.bounds {wd n c : Nat} (h : Wide wd n c) : 1 ≤ n ∧ n ≤ 2 ∧ 255 ≤ c ∧ c ≤ 65535 := by rcases h with ⟨rfl, rfl, rfl⟩ | ⟨rfl, rfl, rfl⟩ <;> omega

abbrev u8s (f : Nat → Nat) : Nat → Value := fun j => .int .u8 (f j)
abbrev i64s (l : Nat → Int) : Nat → Value := fun j => .int .i64 (l j)

/-- the number whose bytes stand at n * j .. -/
def word (n : Nat) (f : Nat → Nat) (j : Nat) : Nat := if n = 1 then f j else f (2 * j) + 256 * f (2 * j + 1)
/-- what has been gathered of it, behind k bytes -/
def part (n : Nat) (f : Nat → Nat) (k j : Nat) : Nat := if n = 1 then (if j < k then f j else 0) else (if 2 * j < k then f (2 * j) else 0) + 256 * (if 2 * j + 1 < k then f (2 * j + 1) else 0)
/-- byte i of the numbers l -/
def byt (n : Nat) (l : Nat → Int) (i : Nat) : Nat := if n = 1 then (l i).toNat % 256 else if i % 2 = 0 then (l (i / 2)).toNat % 256 else (l (i / 2)).toNat / 256 % 256

theorem byt_lt (n : Nat) (l : Nat → Int) (i : Nat) : byt n l i < 256 := by
  unfold byt; split
  · omega
  · split <;> omega
theorem word_le {wd n c : Nat} (hw : Wide wd n c) {f : Nat → Nat} (hf : ∀ j, f j < 256) (j : Nat) : word n f j ≤ c := by
  have h1 := hf j
  have h2 := hf (2 * j)
  have h3 := hf (2 * j + 1)
  rcases hw with ⟨rfl, rfl, rfl⟩ | ⟨rfl, rfl, rfl⟩
  · simp [word]; omega
  · simp [word]; omega
theorem part_zero (n : Nat) (f : Nat → Nat) (j : Nat) : part n f 0 j = 0 := by simp [part]
theorem part_all {wd n c : Nat} (hw : Wide wd n c) (f : Nat → Nat) {m j : Nat} (hj : j < m) : part n f (n * m) j = word n f j := by
  rcases hw with ⟨rfl, rfl, rfl⟩ | ⟨rfl, rfl, rfl⟩
  · simp [part, word]; intro h; omega
  · have h1 : 2 * j < 2 * m := by omega
    have h2 : 2 * j + 1 < 2 * m := by omega
    simp [part, word, h2]; intro h; omega
theorem part_congr {n : Nat} {f g : Nat → Nat} {k : Nat} (h : ∀ j, j < k → f j = g j) (j : Nat) : part n f k j = part n g k j := by
  unfold part
  split
  · split
    · exact h _ ‹_›
    · rfl
  · congr 1
    · split
      · exact h _ ‹_›
      · rfl
    · congr 1
      split
      · exact h _ ‹_›
      · rfl

/-- numbers as bytes, and back -/
theorem word_byt {wd n c : Nat} (hw : Wide wd n c) {l : Nat → Int} (j : Nat) (h0 : 0 ≤ l j) (h1 : l j ≤ c) : (word n (byt n l) j : Int) = l j := by
  rcases hw with ⟨rfl, rfl, rfl⟩ | ⟨rfl, rfl, rfl⟩
  · simp [word, byt]; omega
  · have e1 : (2 * j) % 2 = 0 := by omega
    have e2 : (2 * j) / 2 = j := by omega
    have e3 : (2 * j + 1) % 2 = 1 := by omega
    have e4 : (2 * j + 1) / 2 = j := by omega
    simp only [word, byt, e1, e2, e3, e4]
    simp
    omega
theorem byt_word {wd n c : Nat} (hw : Wide wd n c) {f : Nat → Nat} (hf : ∀ j, f j < 256) (i : Nat) : byt n (fun j => (word n f j : Int)) i = f i := by
  rcases hw with ⟨rfl, rfl, rfl⟩ | ⟨rfl, rfl, rfl⟩
  · have := hf i
    simp [word, byt]; omega
  · have h1 := hf (2 * (i / 2))
    have h2 := hf (2 * (i / 2) + 1)
    rcases Nat.mod_two_eq_zero_or_one i with hi | hi
    · have e : 2 * (i / 2) = i := by omega
      rw [e] at h1 h2
      simp only [word, byt, hi, e]
      simp
      omega
    · have e : 2 * (i / 2) + 1 = i := by omega
      rw [e] at h2
      simp only [word, byt, hi, e]
      simp
      omega
theorem byt_congr {wd n c : Nat} (hw : Wide wd n c) {l l' : Nat → Int} {m : Nat} (h : ∀ j, j < m → l j = l' j) {i : Nat} (hi : i < n * m) : byt n l i = byt n l' i := by
  rcases hw with ⟨rfl, rfl, rfl⟩ | ⟨rfl, rfl, rfl⟩
  · simp only [byt]; rw [h i (by omega)]; simp
  · simp only [byt]; rw [h (i / 2) (by omega)]; simp
theorem word_congr {wd n c : Nat} (hw : Wide wd n c) {f g : Nat → Nat} {m : Nat} (h : ∀ j, j < n * m → f j = g j) {j : Nat} (hj : j < m) : word n f j = word n g j := by
  rcases hw with ⟨rfl, rfl, rfl⟩ | ⟨rfl, rfl, rfl⟩
  · simp only [word]; simp; exact h j (by omega)
  · simp only [word]; rw [h (2 * j) (by omega), h (2 * j + 1) (by omega)]; simp
end Go.Proofs.YtmpamgnbbomoaaaGreat
