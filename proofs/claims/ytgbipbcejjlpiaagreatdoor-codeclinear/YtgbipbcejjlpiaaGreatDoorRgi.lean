/- What came in, as it is read; contracts of Words, Bytes, Mul and Add for any input, in one form each. -/
import Derived.Test.YtgbipbcejjlpiaaGreatDoorRgs
import Derived.Test.YtgbipbcejjlpiaaGreatDoorRgr
import Derived.Test.YtgbipbcejjlpiaaGreatDoorRga
import Derived.OpenShut
namespace Go.Proofs.YtgbipbcejjlpiaaGreatDoor
open Go.RowKit

/-- what Bytes tells, of any numbers -/
def BytesAny (b n m c : Nat) (l : Nat → Int) (w : World) (e : Ending) (w' : World) : Prop :=
  ∃ t v, e = .returned (.tuple #[v, .int .i64 (errOf t)]) ∧ (t = true ↔ allIn c l m) ∧ BytesTold b (cond t (m * n) 0) (byt n l) w v w'
def RBytesAny (b n m c : Nat) (l : Nat → Int) (w : World) (e : Ending) (w' : World) : Prop :=
  ∃ t v, e = .returned (.tuple #[v, .bool t]) ∧ (t = true ↔ allIn c l m) ∧ BytesTold b (cond t (m * n) 0) (byt n l) w v w'

theorem bytes_any (b wd n c : Nat) (hw : Wide wd n c) (l : Nat → Int) (A : Option Addr) (m cap : Nat) (hm : m ≤ 100000) (w : World) (hc : w.cell? ⟨b, 0, none⟩ = some (.int .i64 wd)) (hr : Rd b w (i64s l) A m) (hbl : b < w.heap.size) :
    Calls Tryz.prog 71 #[.pointer (some ⟨b, 0, none⟩), .slice A m cap] w (BytesAny b n m c l w) := by
  refine (bytes13 b wd n c hw l A m cap hm w hc hr hbl).mono ?_
  rintro e w' ⟨hb, ⟨hall, g, rfl, hg, hrd⟩ | ⟨hno, rfl⟩⟩
  · exact ⟨true, _, rfl, by simp [hall], _, _, rfl, ⟨Nat.le_refl _, hrd⟩, hrd b hbl, hb⟩
  · exact ⟨false, _, rfl, by simp [hno], bytesTold_nil hb⟩
theorem rbytes_any (b wd n c : Nat) (hw : Wide wd n c) (l : Nat → Int) (A : Option Addr) (m cap : Nat) (hm : m ≤ 100000) (w : World) (hbw : b < w.heap.size) (hr : Rd b w (i64s l) A m) :
    Calls Tryz.prog 85 #[.int .i64 wd, .slice A m cap] w (RBytesAny b n m c l w) := by
  refine (rbytes14 b wd n c hw l A m cap hm w hbw hr).mono ?_
  rintro e w' (⟨hall, v, rfl, hv⟩ | ⟨hno, rfl, hb⟩)
  · exact ⟨true, _, rfl, by simp [hall], hv⟩
  · exact ⟨false, _, rfl, by simp [hno], bytesTold_nil hb⟩

/-- what Words tells, of any bytes -/
def WordsAny (b n L : Nat) (f : Nat → Nat) (w : World) (e : Ending) (w' : World) : Prop :=
  ∃ v, e = .returned (.tuple #[v, .int .i64 (errOf (decide (L % n = 0)))]) ∧ IntsTold b (cond (decide (L % n = 0)) (L / n) 0) (fun j => word n f j) w v w'
theorem words_any (b wd n c : Nat) (hw : Wide wd n c) (f : Nat → Nat) (hf : ∀ j, f j < 256) (A : Option Addr) (L cap : Nat) (hL : L ≤ 100000) (w : World) (hc : w.cell? ⟨b, 0, none⟩ = some (.int .i64 wd)) (hbl : b < w.heap.size) (hr : Rd b w (u8s f) A L) :
    Calls Tryz.prog 69 #[.pointer (some ⟨b, 0, none⟩), .slice A L cap] w (WordsAny b n L f w) := by
  have hwb := hw.bounds
  by_cases h : L % n = 0
  · have hLm : L = n * (L / n) := (Nat.mul_div_cancel' (Nat.dvd_of_mod_eq_zero h)).symm
    have hle : L / n ≤ L := Nat.div_le_self _ _
    refine (words_yes b wd n c hw f hf A (L / n) L cap hLm (by omega) w hc hr).mono ?_
    rintro e w' ⟨rfl, hrow, hb⟩
    rw [WordsAny, decide_eq_true h]
    exact ⟨_, rfl, _, _, rfl, Nat.le_refl _, Rd.of_row hrow (by omega) (Nat.le_refl _), hb⟩
  · refine (words_no b wd n c hw A L cap h hL w hc).mono ?_
    rintro e w' ⟨rfl, rfl⟩
    rw [WordsAny, decide_eq_false h]
    exact ⟨_, rfl, none, 0, rfl, Nat.le_refl _, Rd.zero, Below.refl _ _⟩
end Go.Proofs.YtgbipbcejjlpiaaGreatDoor
