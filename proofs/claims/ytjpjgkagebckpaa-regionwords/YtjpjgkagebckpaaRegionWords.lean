/- Proved: for either field, any bytes and any numbers the law RegionWords answers true (bytes as numbers, and numbers as bytes, are as the document says, or refused as it says), and its arguments read as they did. No conditions. -/
import Derived.Test.YtjpjgkagebckpaaRows
import Derived.Test.YtjpjgkagebckpaaRgi
import Derived.WalkKit
import Derived.ProofKit
import Derived.OpenShut
import Derived.ShutString
import Derived.ChangeOld
import Derived.Below
namespace Go.Proofs.Ytjpjgkagebckpaa.regionWords
open Go.ChangeShapes Go.WideShapes Go.ChangeAt Go.RowKit
open Go.ChangeMaps (open_string shut_string)
set_option linter.unusedVariables false

theorem own : ownKnob Try.prog.godebug = none := by kernel_rfl
theorem laidOut : laidOutB Try.prog = true := by kernel_rfl

/-- a slice of integers that came in: nil, or a row of numbers -/
def IsRow (k : IntKind) (w : World) (a : Option Addr) (len cap : Nat) (zs : List Int) : Prop :=
  (a = none ∧ len = 0 ∧ cap = 0 ∧ zs = []) ∨
  ∃ x, a = some x ∧ len ≤ cap ∧ cap ≤ maxLen ∧ zs.length = cap ∧ (∀ i, i < zs.length → w.cell? (x.add i) = some (.int k (zs.getD i 0))) ∧ ∀ n ∈ zs, (Lit.int k n).wf = true

set_option maxRecDepth 100000 in
set_option maxHeartbeats 2000000 in
theorem walk (a0 : Bool) (a1 : Option Addr) (len1 cap1 : Nat) (z1 : List Int) (a2 : Option Addr) (len2 cap2 : Nat) (z2 : List Int) (w : World) (w1 : IsRow .u8 w a1 len1 cap1 z1) (w2 : IsRow .i64 w a2 len2 cap2 z2) :
    Calls Try.prog 3 #[.bool a0, .slice a1 len1 cap1, .slice a2 len2 cap2] w fun e w' => e = .returned (.bool true) ∧ Below w.heap.size w w' := by
  obtain ⟨hc1, f, hf, hr1⟩ := rd_bytes w1
  obtain ⟨hc2, hr2⟩ := rd_in w2
  obtain ⟨l, hl⟩ : ∃ l : Nat → Int, (fun j => z2.getD j 0) = l := ⟨_, rfl⟩
  have hr2' : ∀ b, w.heap.size ≤ b → Rd b w (i64s l) a2 len2 := fun b hb => by rw [← hl]; exact hr2 b hb
  have HR1 := Lib.hid hr1
  have HR2 := Lib.hid hr2'
  clear w1 w2 hr1 hr2 hr2' hl
  go_enter Try.func3, Try.ntmps3
  go_wp2_with fail
  refine (awakeR _).mono ?_
  rintro e w1 ⟨rfl, hb1⟩
  have H1 := Lib.hid hb1
  clear hb1
  by_cases b1 : 200 < len1
  · go_wp2_with fail
    go_ret
    exact ⟨rfl, H1.out⟩
  by_cases b2 : 100 < len2
  · go_wp2_with fail
    go_ret
    exact ⟨rfl, H1.out⟩
  go_wp2_with fail
  refine (field10 _ _).mono ?_
  rintro e w2 ⟨p, wd, n, b, hw, rfl, hF, hn, hb2⟩
  have hL := Live.start H1.out hF hn hb2
  have HL := Lib.hid hL
  have hbl := hF.lt
  have R1 := Lib.hid ((HR1.out b hL.2.2).turned (Turned.of_below hL.2.1))
  have R2 := Lib.hid ((HR2.out b hL.2.2).turned (Turned.of_below hL.2.1))
  have HW := Lib.hid hw
  clear hF hn hb2 H1 hL HR1 HR2 hw
  go_wp2_with fail
  refine (words_any b wd n _ HW.out f hf a1 len1 cap1 (by omega) _ HL.out.1.c0 hbl R1.out).mono ?_
  rintro e w3 ⟨v3, rfl, hv3⟩
  obtain ⟨A3, c3, rfl, _, hrd3, hb3⟩ := hv3
  have HL3 := Lib.hid (HL.out.below hb3)
  have hbl3 := Nat.lt_of_lt_of_le hbl hb3.size
  have R13 := Lib.hid (R1.out.below hb3)
  have R23 := Lib.hid (R2.out.below hb3)
  have X3 := Lib.hid hrd3
  clear hrd3 hb3 HL R1 R2
  go_wp2_with fail
  refine (rwords12 b wd n _ HW.out f hf a1 len1 cap1 (by omega) _ hbl3 R13.out).mono ?_
  rintro e w4 ⟨v4, rfl, A4, c4, rfl, _, hrd4, hb4⟩
  have HL4 := Lib.hid (HL3.out.below hb4)
  have hbl4 := Nat.lt_of_lt_of_le hbl3 hb4.size
  have R24 := Lib.hid (R23.out.below hb4)
  have X4 := Lib.hid (X3.out.below hb4)
  have Y4 := Lib.hid hrd4
  clear hrd4 hb4 HL3 R13 R23 X3
  go_wp2_with fail
  refine (bytes_any b wd n _ HW.out l a2 len2 cap2 (by omega) _ HL4.out.1.c0 R24.out hbl4).mono ?_
  rintro e w5 ⟨t, v5, rfl, ht, A5, c5, rfl, _, hrd5, hb5⟩
  have HL5 := Lib.hid (HL4.out.below hb5)
  have hbl5 := Nat.lt_of_lt_of_le hbl4 hb5.size
  have R25 := Lib.hid (R24.out.below hb5)
  have X5 := Lib.hid (X4.out.below hb5)
  have Y5 := Lib.hid (Y4.out.below hb5)
  have Z5 := Lib.hid hrd5
  have HT := Lib.hid ht
  clear hrd5 hb5 HL4 R24 X4 Y4 ht
  go_wp2_with fail
  refine (rbytes_any b wd n _ HW.out l a2 len2 cap2 (by omega) _ hbl5 R25.out).mono ?_
  rintro e w6 ⟨t', v6, rfl, ht', A6, c6, rfl, _, hrd6, hb6⟩
  obtain rfl : t' = t := Bool.eq_iff_iff.2 (ht'.trans HT.out.symm)
  have HL6 := Lib.hid (HL5.out.below hb6)
  have X6 := Lib.hid (X5.out.below hb6)
  have Y6 := Lib.hid (Y5.out.below hb6)
  have Z6 := Lib.hid (Z5.out.below hb6)
  have V6 := Lib.hid hrd6
  clear hrd6 hb6 HL5 R25 X5 Y5 Z5 ht' HT
  by_cases hd : len1 % n = 0
  · rw [decide_eq_true hd] at X6 ⊢
    go_wp2_with fail
    refine (was15 true _).mono ?_
    rintro e w' ⟨rfl, rfl⟩
    go_wp2_with fail
    refine (ints16 b b _ _ A3 A4 (len1 / n) c3 c4 (by have := Nat.div_le_self len1 n; omega) _ X6.out Y6.out (fun _ _ => rfl)).mono ?_
    rintro e w7 ⟨rfl, hb7⟩
    have HL7 := Lib.hid (HL6.out.below hb7)
    have Z7 := Lib.hid (Z6.out.below hb7)
    have V7 := Lib.hid (V6.out.below hb7)
    clear hb7 HL6 Z6 V6 X6 Y6
    go_wp2_with fail
    refine (was15 t' _).mono ?_
    rintro e w' ⟨rfl, rfl⟩
    go_wp2_with fail
    refine (same17 b b _ _ A5 A6 _ c5 c6 _ Z7.out V7.out (fun _ _ => rfl)).mono ?_
    rintro e w' ⟨rfl, rfl⟩
    go_wp2_with fail
    go_ret
    exact ⟨rfl, HL7.out.2.1⟩
  · rw [decide_eq_false hd] at X6 ⊢
    go_wp2_with fail
    refine (was15 false _).mono ?_
    rintro e w' ⟨rfl, rfl⟩
    go_wp2_with fail
    refine (ints16 b b (fun j => word n f j) (fun j => word n f j) A3 none 0 c3 0 (by omega) _ X6.out Rd.zero (fun _ _ => rfl)).mono ?_
    rintro e w7 ⟨rfl, hb7⟩
    have HL7 := Lib.hid (HL6.out.below hb7)
    have Z7 := Lib.hid (Z6.out.below hb7)
    have V7 := Lib.hid (V6.out.below hb7)
    clear hb7 HL6 Z6 V6 X6 Y6
    go_wp2_with fail
    refine (was15 t' _).mono ?_
    rintro e w' ⟨rfl, rfl⟩
    go_wp2_with fail
    refine (same17 b b _ _ A5 A6 _ c5 c6 _ Z7.out V7.out (fun _ _ => rfl)).mono ?_
    rintro e w' ⟨rfl, rfl⟩
    go_wp2_with fail
    go_ret
    exact ⟨rfl, HL7.out.2.1⟩

set_option maxRecDepth 100000 in
theorem lifted (os : Os) (started : os.Started) (H : Type) (enc : TypeId × Value → H) :
    ReturnsInHanded {} Try.checked os 3 .any (Rows.regionWordsSpec.pre6 enc Try.prog Try.f3 Rows.regionWordsRow.domain false) (Rows.regionWordsSpec.post enc Try.prog Try.f3 false true false false) := by
  refine returnsInHanded_of_change (C := Try.checked) own started (by kernel_rfl) Try.func3
    (ChangeSpec.witness6 (enc := enc) (C := Try.checked) false ⟨#[], #[.bool false, .slice none 0 0, .slice none 0 0], []⟩ 8 (by kernel_rfl) (by kernel_rfl) (by kernel_rfl) (by kernel_rfl)) ?_
  intro W base args ds gs before hval0 hW hcnd _
  have hval : ∀ (j : Nat) t v, Try.f3.params[j]? = some t → args[j]? = some v → Value.okWide Try.prog W .any base t v := hval0
  have hW' := hW
  obtain ⟨p, q, hA0, hV, rfl, hfz, hnd⟩ := hW
  have hA : DataW.TrodAll enc Try.prog W 0 (fun _ => true) true Try.f3.params.toList args.toList ds p := hA0
  rw [Try.params3] at hA hval
  obtain ⟨v0, vs0, d0, ds0, p0, q0, hargs, rfl, rfl, h0, r0⟩ := trodAll_cons hA
  obtain ⟨v1, vs1, d1, ds1, p1, q1, rfl, rfl, rfl, h1, r1⟩ := trodAll_cons r0
  obtain ⟨v2, vs2, d2, ds2, p2, q2, rfl, rfl, rfl, h2, r2⟩ := trodAll_cons r1
  obtain ⟨rfl, rfl, rfl⟩ := trodAll_nil r2
  obtain rfl : args = #[v0, v1, v2] := by cases args; simp_all
  obtain ⟨rfl, rfl⟩ := trodVars_none hV
  obtain ⟨a0, rfl, rfl, rfl⟩ := open_bool Try.underlying4 (hval 0 4 v0 rfl rfl) h0
  obtain ⟨a1, len1, cap1, rfl⟩ := okWide_slice Try.underlying22 (hval 1 22 v1 rfl rfl)
  have k1 := h1
  have lt1 : ∀ x ∈ p1, x.block < W.heap.size := by obtain ⟨m, hm⟩ := k1; exact DataW.trod_lt m _ _ _ hm
  obtain ⟨z1, w1⟩ : ∃ zs, IsRow .u8 W a1 len1 cap1 zs := by
    obtain ⟨fuel, hf⟩ := h1
    rcases open_ints Try.underlying22 Try.underlying5 (by kernel_rfl) hf with ⟨hcs, _⟩ | ⟨x, l, c, zs, hcs, _, hl, hm, hz, _, hcell, hwz⟩
    · simp [Value.cells] at hcs
      obtain ⟨rfl, rfl, rfl⟩ := hcs
      exact ⟨[], .inl ⟨rfl, rfl, rfl, rfl⟩⟩
    · simp [Value.cells] at hcs
      obtain ⟨rfl, rfl, rfl⟩ := hcs
      exact ⟨zs, .inr ⟨_, rfl, hl, hm, by simpa using hz, hcell, hwz⟩⟩
  obtain ⟨a2, len2, cap2, rfl⟩ := okWide_slice Try.underlying23 (hval 2 23 v2 rfl rfl)
  have k2 := h2
  have lt2 : ∀ x ∈ p2, x.block < W.heap.size := by obtain ⟨m, hm⟩ := k2; exact DataW.trod_lt m _ _ _ hm
  obtain ⟨z2, w2⟩ : ∃ zs, IsRow .i64 W a2 len2 cap2 zs := by
    obtain ⟨fuel, hf⟩ := h2
    rcases open_ints Try.underlying23 Try.underlying3 (by kernel_rfl) hf with ⟨hcs, _⟩ | ⟨x, l, c, zs, hcs, _, hl, hm, hz, _, hcell, hwz⟩
    · simp [Value.cells] at hcs
      obtain ⟨rfl, rfl, rfl⟩ := hcs
      exact ⟨[], .inl ⟨rfl, rfl, rfl, rfl⟩⟩
    · simp [Value.cells] at hcs
      obtain ⟨rfl, rfl, rfl⟩ := hcs
      exact ⟨zs, .inr ⟨_, rfl, hl, hm, by simpa using hz, hcell, hwz⟩⟩
  clear hA0 hval0
  refine (walk a0 a1 len1 cap1 z1 a2 len2 cap2 z2 W w1 w2).mono fun e W' ⟨he, bel⟩ => ?_
  subst he
  exact ⟨_, rfl, _, _, _, [], _, [], hW', trodAll_mk1 (shut_bool Try.underlying4 _), (trodAll_cons_mk (shut_bool Try.underlying4 _) (trodAll_cons_mk (Below.trod laidOut (by kernel_rfl) (of_decide_eq_true (by kernel_rfl)) k1 bel lt1) (trodAll_cons_mk (Below.trod laidOut (by kernel_rfl) (of_decide_eq_true (by kernel_rfl)) k2 bel lt2) trodAll_mk0))), rfl, bel.frame _, fun h => by cases h⟩

theorem over : Rows.regionWordsRow.holds Try.pinned (OpenSpec.ofChange Rows.regionWordsSpec) :=
  OpenClaim.holds_of_wide 3 Try.f3 rfl rfl rfl rfl rfl rfl rfl ⟨rfl, rfl, rfl, rfl, rfl⟩ rfl rfl rfl rfl rfl (by kernel_rfl) Try.func3 (by kernel_rfl)
    (of_decide_eq_true (by kernel_rfl)) (by unfold Func.isWrapper; first | (rw [if_pos (by decide +kernel)]; kernel_rfl) | (rw [if_neg (by decide +kernel)]; exact ⟨rfl, rfl⟩))
    (fun os started H enc _ => lifted os started H enc)

theorem proved : Rows.RegionWordsSaid := over
end Go.Proofs.Ytjpjgkagebckpaa.regionWords
