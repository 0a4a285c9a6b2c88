/- What came in, as it is read; contracts of Words, Bytes, Mul and Add for any input, in one form each. -/
import Derived.Test.YtjpjgkagebckpaaRgs
import Derived.Test.YtjpjgkagebckpaaRgr
import Derived.Test.YtjpjgkagebckpaaRga
import Derived.OpenShut
namespace Go.Proofs.Ytjpjgkagebckpaa
open Go.RowKit

theorem lt_of_cell {w : World} {a : Addr} {v : Value} (h : w.cell? a = some v) : a.block < w.heap.size := World.block_lt_of_cell? w a h

/-- a slice of integers that came in -/
theorem rd_in {k : IntKind} {w : World} {a : Option Addr} {len cap : Nat} {zs : List Int}
    (h : (a = none ∧ len = 0 ∧ cap = 0 ∧ zs = []) ∨ ∃ x, a = some x ∧ len ≤ cap ∧ cap ≤ maxLen ∧ zs.length = cap ∧ (∀ i, i < zs.length → w.cell? (x.add i) = some (.int k (zs.getD i 0))) ∧ ∀ n ∈ zs, (Lit.int k n).wf = true) :
    len ≤ cap ∧ ∀ b, w.heap.size ≤ b → Rd b w (fun j => .int k (zs.getD j 0)) a len := by
  rcases h with ⟨rfl, rfl, rfl, rfl⟩ | ⟨x, rfl, h1, _, h2, h3, _⟩
  · exact ⟨Nat.le_refl _, fun _ _ => Rd.zero⟩
  · refine ⟨h1, fun b hb hn => ⟨x, rfl, ?_, ?_, fun j hj => h3 j (by omega)⟩⟩
    · have := lt_of_cell (h3 0 (by omega))
      rw [block_of_add] at this
      omega
    · have := lt_of_cell (h3 0 (by omega))
      rwa [block_of_add] at this
/-- bytes that came in -/
theorem rd_bytes {w : World} {a : Option Addr} {len cap : Nat} {zs : List Int}
    (h : (a = none ∧ len = 0 ∧ cap = 0 ∧ zs = []) ∨ ∃ x, a = some x ∧ len ≤ cap ∧ cap ≤ maxLen ∧ zs.length = cap ∧ (∀ i, i < zs.length → w.cell? (x.add i) = some (.int .u8 (zs.getD i 0))) ∧ ∀ n ∈ zs, (Lit.int .u8 n).wf = true) :
    len ≤ cap ∧ ∃ f : Nat → Nat, (∀ j, f j < 256) ∧ ∀ b, w.heap.size ≤ b → Rd b w (u8s f) a len := by
  have h1 := rd_in h
  have hz : ∀ n ∈ zs, (Lit.int .u8 n).wf = true := by
    rcases h with ⟨_, _, _, rfl⟩ | ⟨_, _, _, _, _, _, h⟩
    · intro n hn; cases hn
    · exact h
  have hr := fun j => range_u8 hz j
  refine ⟨h1.1, fun j => (zs.getD j 0).toNat, fun j => ?_, fun b hb => (h1.2 b hb).congr (fun j _ => ?_)⟩
  · have := hr j
    simp only [List.getD_eq_getElem?_getD]
    omega
  · have := hr j
    simp only [u8s, List.getD_eq_getElem?_getD]
    congr 1
    omega

/-- the error's number -/
def errOf (t : Bool) : Int := if t then 0 else 1
theorem was15 (t : Bool) (w : World) : Calls Try.prog 15 #[.int .i64 (errOf t), .bool t] w fun e w' => e = .returned (.bool true) ∧ w = w' := by
  cases t
  · exact was_no w
  · exact was_yes w

/-- what Bytes tells, of any numbers -/
def BytesAny (b n m c : Nat) (l : Nat → Int) (w : World) (e : Ending) (w' : World) : Prop :=
  ∃ t v, e = .returned (.tuple #[v, .int .i64 (errOf t)]) ∧ (t = true ↔ allIn c l m) ∧ BytesTold b (cond t (m * n) 0) (byt n l) w v w'
def RBytesAny (b n m c : Nat) (l : Nat → Int) (w : World) (e : Ending) (w' : World) : Prop :=
  ∃ t v, e = .returned (.tuple #[v, .bool t]) ∧ (t = true ↔ allIn c l m) ∧ BytesTold b (cond t (m * n) 0) (byt n l) w v w'

theorem bytesTold_nil {b : Nat} {k : Nat → Nat} {w w' : World} (h : Below w.heap.size w w') : BytesTold b 0 k w nilS w' := ⟨none, 0, rfl, Nat.le_refl _, Rd.zero, h⟩

theorem bytes_any (b wd n c : Nat) (hw : Wide wd n c) (l : Nat → Int) (A : Option Addr) (m cap : Nat) (hm : m ≤ 100000) (w : World) (hc : w.cell? ⟨b, 0, none⟩ = some (.int .i64 wd)) (hr : Rd b w (i64s l) A m) (hbl : b < w.heap.size) :
    Calls Try.prog 13 #[.pointer (some ⟨b, 0, none⟩), .slice A m cap] w (BytesAny b n m c l w) := by
  refine (bytes13 b wd n c hw l A m cap hm w hc hr hbl).mono ?_
  rintro e w' ⟨hb, ⟨hall, g, rfl, hg, hrd⟩ | ⟨hno, rfl⟩⟩
  · exact ⟨true, _, rfl, by simp [hall], _, _, rfl, Nat.le_refl _, hrd b hbl, hb⟩
  · exact ⟨false, _, rfl, by simp [hno], bytesTold_nil hb⟩
theorem rbytes_any (b wd n c : Nat) (hw : Wide wd n c) (l : Nat → Int) (A : Option Addr) (m cap : Nat) (hm : m ≤ 100000) (w : World) (hbw : b < w.heap.size) (hr : Rd b w (i64s l) A m) :
    Calls Try.prog 14 #[.int .i64 wd, .slice A m cap] w (RBytesAny b n m c l w) := by
  refine (rbytes14 b wd n c hw l A m cap hm w hbw hr).mono ?_
  rintro e w' (⟨hall, v, rfl, hv⟩ | ⟨hno, rfl, hb⟩)
  · exact ⟨true, _, rfl, by simp [hall], hv⟩
  · exact ⟨false, _, rfl, by simp [hno], bytesTold_nil hb⟩

/-- what Words tells, of any bytes -/
def WordsAny (b n L : Nat) (f : Nat → Nat) (w : World) (e : Ending) (w' : World) : Prop :=
  ∃ v, e = .returned (.tuple #[v, .int .i64 (errOf (decide (L % n = 0)))]) ∧ IntsTold b (cond (decide (L % n = 0)) (L / n) 0) (fun j => word n f j) w v w'
theorem words_any (b wd n c : Nat) (hw : Wide wd n c) (f : Nat → Nat) (hf : ∀ j, f j < 256) (A : Option Addr) (L cap : Nat) (hL : L ≤ 100000) (w : World) (hc : w.cell? ⟨b, 0, none⟩ = some (.int .i64 wd)) (hbl : b < w.heap.size) (hr : Rd b w (u8s f) A L) :
    Calls Try.prog 11 #[.pointer (some ⟨b, 0, none⟩), .slice A L cap] w (WordsAny b n L f w) := by
  have hwb := hw.bounds
  by_cases h : L % n = 0
  · have hLm : L = n * (L / n) := (Nat.mul_div_cancel' (Nat.dvd_of_mod_eq_zero h)).symm
    have hle : L / n ≤ L := Nat.div_le_self _ _
    refine (words_yes b wd n c hw f hf A (L / n) L cap hLm (by omega) w hc hr).mono ?_
    rintro e w' ⟨rfl, hrow, hb⟩
    rw [WordsAny, decide_eq_true h]
    exact ⟨_, rfl, _, _, rfl, Nat.le_refl _, Rd.of_row hrow (by omega) (Nat.le_refl _), hb⟩
  · refine (words_no b wd n c hw A L cap h hL w hc).mono ?_
    rintro e w' ⟨rfl, rfl⟩
    rw [WordsAny, decide_eq_false h]
    exact ⟨_, rfl, none, 0, rfl, Nat.le_refl _, Rd.zero, Below.refl _ _⟩
end Go.Proofs.Ytjpjgkagebckpaa
