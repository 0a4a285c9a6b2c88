/- Contracts of layer 3's own first test, and of how its laws choose a field. -/
import Derived.Test.YtjpjgkagebckpaaRgu
import Derived.Test.YtjpjgkagebckpaaGaw
import Derived.Laws.BytesArg
namespace Go.Proofs.Ytjpjgkagebckpaa
open Go.RowKit

/-- a field is chosen -/
def FieldSaid3 (w : World) (e : Ending) (w' : World) : Prop :=
  ∃ p wd n b : Nat, Wide wd n (M.ord p) ∧ e = .returned (.tuple #[.pointer (some ⟨b, 0, none⟩), .int .i64 wd, .int .u32 p]) ∧ Fld p b wd w' ∧ w.heap.size ≤ b ∧ Below w.heap.size w w'

theorem ord69643 : M.ord 69643 = 65535 := by decide +kernel
theorem wide285 : Wide 8 1 (M.ord 285) := Or.inl ⟨rfl, rfl, ord285⟩
theorem wide69643 : Wide 16 2 (M.ord 69643) := Or.inr ⟨rfl, rfl, ord69643⟩

set_option maxRecDepth 100000 in
theorem field_yes (w : World) : Calls Try.prog 10 #[.bool true] w fun e w' => ∃ b, e = .returned (.tuple #[.pointer (some ⟨b, 0, none⟩), .int .i64 16, .int .u32 69643]) ∧ Fld 69643 b 16 w' ∧ w.heap.size ≤ b ∧ Below w.heap.size w w' := by
  go_enter Try.func10, Try.ntmps10
  go_wp2_with fail
  refine (new_yes 69643 16 good69643 _).mono ?_
  rintro e w1 ⟨b, rfl, h1, hn, hb1⟩
  have HE := Lib.hid (And.intro h1 (And.intro hn hb1))
  clear h1 hn hb1
  go_wp2_with fail
  go_ret3
  exact ⟨b, rfl, HE.out⟩

set_option maxRecDepth 100000 in
theorem field_no (w : World) : Calls Try.prog 10 #[.bool false] w fun e w' => ∃ b, e = .returned (.tuple #[.pointer (some ⟨b, 0, none⟩), .int .i64 8, .int .u32 285]) ∧ Fld 285 b 8 w' ∧ w.heap.size ≤ b ∧ Below w.heap.size w w' := by
  go_enter Try.func10, Try.ntmps10
  go_wp2_with fail
  refine (new_yes 285 8 good285 _).mono ?_
  rintro e w1 ⟨b, rfl, h1, hn, hb1⟩
  have HE := Lib.hid (And.intro h1 (And.intro hn hb1))
  clear h1 hn hb1
  go_wp2_with fail
  go_ret3
  exact ⟨b, rfl, HE.out⟩

theorem field10 (large : Bool) (w : World) : Calls Try.prog 10 #[.bool large] w (FieldSaid3 w) := by
  cases large
  · exact (field_no w).mono fun e w' ⟨b, he, h⟩ => ⟨285, 8, 1, b, wide285, he, h⟩
  · exact (field_yes w).mono fun e w' ⟨b, he, h⟩ => ⟨69643, 16, 2, b, wide69643, he, h⟩

theorem fmul_one {p wd : Nat} (hg : Good p wd) {x : Int} (x0 : 0 ≤ x) (x1 : x ≤ M.ord p) : fmul p 1 x = x := by
  have := hg.bounds
  rw [fmul_in (by omega) (by omega) x0 x1, show (1 : Int).toNat = 1 from rfl, M.mul_comm, M.mul_one, M.md_self hg.prim.1 (by omega)]
  omega
theorem mulB_one {p wd n : Nat} (hg : Good p wd) (hw : Wide wd n (M.ord p)) {f : Nat → Nat} (hf : ∀ j, f j < 256) (i : Nat) : mulB p n 1 f i = f i := by
  unfold mulB
  rw [← byt_word hw hf i]
  congr 1
  funext j
  rw [fmul_one hg (by omega) (by have := word_le hw hf j; omega)]

/-- the bytes 1 and 2 -/
def twoB (j : Nat) : Nat := if j = 0 then 1 else if j = 1 then 2 else 0
theorem twoB_lt (j : Nat) : twoB j < 256 := by
  unfold twoB
  split
  · omega
  · split <;> omega
theorem rd_two {b : Nat} {w : World} (hb : b < w.heap.size) : Rd b (w.alloc (.cells #[.int .u8 1, .int .u8 2] TB)) (u8s twoB) (some ⟨w.heap.size, 0, none⟩) 2 := by
  have h := World.rowIs_alloc w #[.int .u8 1, .int .u8 2] TB (u8s twoB) (fun i hi => by
    simp at hi
    match i, hi with
    | 0, _ => rfl
    | 1, _ => rfl)
  exact Rd.of_row h (by omega) (by simp)

set_option maxRecDepth 100000 in
set_option maxHeartbeats 1000000 in
theorem awakeR (w : World) : Calls Try.prog 9 #[] w fun e w' => e = .returned (.bool true) ∧ Below w.heap.size w w' := by
  go_enter Try.func9, Try.ntmps9
  go_wp2_with fail
  refine (field_yes _).mono ?_
  rintro e w1 ⟨b, rfl, h1, hn, hb1⟩
  have hbl := h1.lt
  have H1 := Lib.hid (Live.start (Below.refl _ w) h1 hn hb1)
  clear h1 hn hb1
  go_wp2_with fail
  refine (words_yes b 16 2 _ wide69643 twoB twoB_lt _ 1 2 2 rfl (by omega) _ (H1.out.below ((Below.refl _ w1).alloc (Nat.le_refl _) _)).1.c0 (rd_two hbl)).mono ?_
  rintro e w2 ⟨rfl, hrow, hb2⟩
  have hB := below_trans ((Below.refl _ w1).alloc (Nat.le_refl _) _) hb2
  have H2 := Lib.hid (H1.out.below hB)
  have hbl2 := H2.out.1.lt
  rw [World.size_alloc] at hrow
  have HROW := Lib.hid hrow
  clear hB hb2 hrow H1
  go_wp2_with fail
  refine (mul_yes 69643 b 16 2 wide69643 1 (by omega) (by rw [ord69643]; omega) twoB twoB_lt _ 1 2 2 rfl (by omega) _ (H2.out.below ((Below.refl _ w2).alloc (Nat.le_refl _) _)).1 (rd_two hbl2)).mono ?_
  rintro e w3 ⟨g, rfl, hgn, hrd, hf3, ht3⟩
  have HL := Lib.hid ((H2.out.below ((Below.refl _ w2).alloc (Nat.le_refl _) _)).next hf3 ht3)
  have g1 : w3.cell? ⟨w1.heap.size + 1, 0, none⟩ = some (.int .i64 513) := (ht3.row (HROW.out.alloc _) (by omega)).cell (i := 0) (by omega)
  have hcv := run_convert_bytes_arg (P := Try.prog) w3 TBs TB Try.underlying22 Try.underlying5 g 0 2 2 [1, 2] rfl (fun i hi => by
    obtain ⟨ad, e, hc⟩ := hrd.at_ hi
    injection e with e
    subst e
    rw [show (⟨g, 0 + i, none⟩ : Addr) = (⟨g, 0, none⟩ : Addr).add i by unfold Addr.add; split <;> simp_all, hc]
    simp only [u8s, mulB_one good69643 wide69643 twoB_lt]
    match i, hi with
    | 0, _ => rfl
    | 1, _ => rfl) 9 Try.underlying9
  have hstr : strOfNums [1, 2] = { data := #[1, 2] } := rfl
  rw [hstr] at hcv
  clear hrd hf3 ht3 hgn HROW H2 hstr
  go_wp2_with fail
  go_ret
  exact ⟨rfl, HL.out.2.1⟩
end Go.Proofs.Ytjpjgkagebckpaa
