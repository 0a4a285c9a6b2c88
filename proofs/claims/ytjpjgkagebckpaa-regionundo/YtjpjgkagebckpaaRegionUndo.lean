/- Proved: for either field, any number of 16 bits and any bytes the law RegionUndo answers true (what was multiplied by a number that is not 0 is so again by its inverse; what is added twice is gone), and its arguments read as they did. No conditions. -/
import Derived.Test.YtjpjgkagebckpaaRows
import Derived.Test.YtjpjgkagebckpaaRgi
import Derived.Test.YtjpjgkagebckpaaRgy
import Derived.WalkKit
import Derived.ProofKit
import Derived.OpenShut
import Derived.ShutString
import Derived.ChangeOld
import Derived.Below
namespace Go.Proofs.Ytjpjgkagebckpaa.regionUndo
open Go.ChangeShapes Go.WideShapes Go.ChangeAt Go.RowKit
open Go.ChangeMaps (open_string shut_string)
set_option linter.unusedVariables false

theorem own : ownKnob Try.prog.godebug = none := by kernel_rfl
theorem laidOut : laidOutB Try.prog = true := by kernel_rfl

/-- a slice of integers that came in: nil, or a row of numbers -/
def IsRow (k : IntKind) (w : World) (a : Option Addr) (len cap : Nat) (zs : List Int) : Prop :=
  (a = none ∧ len = 0 ∧ cap = 0 ∧ zs = []) ∨
  ∃ x, a = some x ∧ len ≤ cap ∧ cap ≤ maxLen ∧ zs.length = cap ∧ (∀ i, i < zs.length → w.cell? (x.add i) = some (.int k (zs.getD i 0))) ∧ ∀ n ∈ zs, (Lit.int k n).wf = true

set_option maxRecDepth 100000 in
set_option maxHeartbeats 4000000 in
theorem walk (a0 : Bool) (a1 : Int) (a2 : Option Addr) (len2 cap2 : Nat) (z2 : List Int) (w : World) (w1 : (Lit.int .u16 a1).wf = true) (w2 : IsRow .u8 w a2 len2 cap2 z2) :
    Calls Try.prog 7 #[.bool a0, .int .u16 a1, .slice a2 len2 cap2] w fun e w' => e = .returned (.bool true) ∧ Below w.heap.size w w' := by
  obtain ⟨hc2, f, hf, hr2⟩ := rd_bytes w2
  obtain ⟨k0, k1⟩ := bounds_u16 w1
  have HR2 := Lib.hid hr2
  clear w1 w2 hr2
  go_enter Try.func7, Try.ntmps7
  go_wp2_with fail
  refine (awakeR _).mono ?_
  rintro e w1 ⟨rfl, hb1⟩
  have H1 := Lib.hid hb1
  clear hb1
  by_cases b1 : 200 < len2
  · go_wp2_with fail
    go_ret
    exact ⟨rfl, H1.out⟩
  by_cases b2 : (len2 : Int) % 2 = 1
  · go_wp2_with fail
    go_ret
    exact ⟨rfl, H1.out⟩
  have b3 : (len2 : Int) % 2 = 0 := by omega
  clear b2
  go_wp2_with fail
  refine (field10 _ _).mono ?_
  rintro e w2 ⟨p, wd, n, b, hw, rfl, hF, hn, hb2⟩
  have hg := hF.1
  have hL := Live.start H1.out hF hn hb2
  have HL := Lib.hid hL
  have hbl := hF.lt
  have R2 := Lib.hid ((HR2.out b hL.2.2).turned (Turned.of_below hL.2.1))
  have HW := Lib.hid hw
  have hwb := hw.bounds
  have hc0 := hF.c0
  clear hF hn hb2 H1 hL HR2 hw
  obtain ⟨c, hc⟩ : ∃ c, M.ord p = c := ⟨_, rfl⟩
  rw [hc] at hwb
  have HC := Lib.hid hc
  have hz : ((c : Int) + 1 == 0) = false := by simp; omega
  clear hc
  go_wp2_with fail
  refine (size13 b wd c (by rw [← HC.out]; exact HW.out.kind) _ hc0).mono ?_
  rintro e w' ⟨rfl, rfl⟩
  go_wp2_with fail
  obtain ⟨m, hm⟩ : ∃ m, max (a1 % ((c : Int) + 1)) 1 = m := ⟨_, rfl⟩
  have hmr : 1 ≤ m ∧ m ≤ c := by
    have h1 := Int.emod_nonneg a1 (show (c : Int) + 1 ≠ 0 by omega)
    have h2 := Int.emod_lt_of_pos a1 (show (0 : Int) < (c : Int) + 1 by omega)
    omega
  rw [hm]
  clear hm
  have HFI := Lib.hid (finv_yes (p := p) hmr.1 (by rw [HC.out]; exact hmr.2))
  have hir := M.inv_range hg.prim (a := m.toNat) (by omega) (by rw [HC.out]; omega)
  rw [HC.out] at hir
  have HBK := Lib.hid (fun j => mulB_back hg HW.out hmr.1 (by rw [HC.out]; exact hmr.2) hf j)
  obtain ⟨iv, hiv⟩ : ∃ iv, M.inv p m.toNat = iv := ⟨_, rfl⟩
  rw [hiv] at HFI hir HBK
  clear hiv
  refine (finv18 p b wd m _ HL.out.1).mono ?_
  rintro e w3 ⟨rfl, hF3, hT3⟩
  rw [HFI.out]
  have HL3 := Lib.hid (HL.out.next hF3 hT3)
  have R3 := Lib.hid (R2.out.turned hT3)
  clear hF3 hT3 HL R2 HFI
  have HLN := Lib.hid (show len2 = n * (len2 / n) ∧ len2 / n ≤ 100000 by
    refine ⟨?_, by have := Nat.div_le_self len2 n; omega⟩
    rcases HW.out with ⟨_, rfl, _⟩ | ⟨_, rfl, _⟩ <;> omega)
  go_wp2_with fail
  refine (mul_yes p b wd n HW.out m (by omega) (by rw [HC.out]; omega) f hf a2 (len2 / n) len2 cap2 HLN.out.1 HLN.out.2 _ HL3.out.1 R3.out).mono ?_
  rintro e w4 ⟨g4, rfl, _, hrd4, hF4, hT4⟩
  have HL4 := Lib.hid (HL3.out.next hF4 hT4)
  have hbl4 := hF4.lt
  have R4 := Lib.hid (R3.out.turned hT4)
  have X4 := Lib.hid hrd4
  clear hrd4 hF4 hT4 HL3 R3
  go_wp2_with fail
  refine (mul_yes p b wd n HW.out iv (by omega) (by rw [HC.out]; omega) _ (mulB_lt p n m f) _ (len2 / n) len2 len2 HLN.out.1 HLN.out.2 _ HL4.out.1 X4.out).mono ?_
  rintro e w5 ⟨g5, rfl, _, hrd5, hF5, hT5⟩
  have HL5 := Lib.hid (HL4.out.next hF5 hT5)
  have hbl5 := hF5.lt
  have R5 := Lib.hid (R4.out.turned hT5)
  have X5 := Lib.hid (X4.out.turned hT5)
  have Y5 := Lib.hid (hrd5.congr (k' := u8s f) (fun j _ => by simp only [u8s]; rw [HBK.out j]))
  clear hrd5 hF5 hT5 HL4 R4 X4 HBK
  go_wp2_with fail
  refine (add_yes b f _ hf (mulB_lt p n m f) a2 _ len2 cap2 len2 (by omega) _ hbl5 R5.out X5.out).mono ?_
  rintro e w6 ⟨v6, rfl, A6, c6, rfl, _, hrd6, hb6⟩
  have HL6 := Lib.hid (HL5.out.below hb6)
  have hbl6 := Nat.lt_of_lt_of_le hbl5 hb6.size
  have R6 := Lib.hid (R5.out.below hb6)
  have X6 := Lib.hid (X5.out.below hb6)
  have Y6 := Lib.hid (Y5.out.below hb6)
  have Z6 := Lib.hid hrd6
  clear hrd6 hb6 HL5 R5 X5 Y5
  go_wp2_with fail
  refine (add_yes b _ _ (fun j => Nat.xor_lt_two_pow (n := 8) (hf j) (mulB_lt p n m f j)) (mulB_lt p n m f) A6 _ len2 c6 len2 (by omega) _ hbl6 Z6.out X6.out).mono ?_
  rintro e w7 ⟨v7, rfl, A7, c7, rfl, _, hrd7, hb7⟩
  have HL7 := Lib.hid (HL6.out.below hb7)
  have R7 := Lib.hid (R6.out.below hb7)
  have Y7 := Lib.hid (Y6.out.below hb7)
  have Z7 := Lib.hid (hrd7.congr (k' := u8s f) (fun j _ => by simp only [u8s]; rw [Nat.xor_assoc, Nat.xor_self, Nat.xor_zero]))
  clear hrd7 hb7 HL6 R6 X6 Y6 Z6
  go_wp2_with fail
  refine (same17 b b f f _ a2 len2 len2 cap2 _ Y7.out R7.out (fun _ _ => rfl)).mono ?_
  rintro e w' ⟨rfl, rfl⟩
  go_wp2_with fail
  refine (same17 b b f f A7 a2 len2 c7 cap2 _ Z7.out R7.out (fun _ _ => rfl)).mono ?_
  rintro e w' ⟨rfl, rfl⟩
  go_wp2_with fail
  go_ret
  exact ⟨rfl, HL7.out.2.1⟩

set_option maxRecDepth 100000 in
theorem lifted (os : Os) (started : os.Started) (H : Type) (enc : TypeId × Value → H) :
    ReturnsInHanded {} Try.checked os 7 .any (Rows.regionUndoSpec.pre6 enc Try.prog Try.f7 Rows.regionUndoRow.domain false) (Rows.regionUndoSpec.post enc Try.prog Try.f7 false true false false) := by
  refine returnsInHanded_of_change (C := Try.checked) own started (by kernel_rfl) Try.func7
    (ChangeSpec.witness6 (enc := enc) (C := Try.checked) false ⟨#[], #[.bool false, .int .u16 0, .slice none 0 0], []⟩ 8 (by kernel_rfl) (by kernel_rfl) (by kernel_rfl) (by kernel_rfl)) ?_
  intro W base args ds gs before hval0 hW hcnd _
  have hval : ∀ (j : Nat) t v, Try.f7.params[j]? = some t → args[j]? = some v → Value.okWide Try.prog W .any base t v := hval0
  have hW' := hW
  obtain ⟨p, q, hA0, hV, rfl, hfz, hnd⟩ := hW
  have hA : DataW.TrodAll enc Try.prog W 0 (fun _ => true) true Try.f7.params.toList args.toList ds p := hA0
  rw [Try.params7] at hA hval
  obtain ⟨v0, vs0, d0, ds0, p0, q0, hargs, rfl, rfl, h0, r0⟩ := trodAll_cons hA
  obtain ⟨v1, vs1, d1, ds1, p1, q1, rfl, rfl, rfl, h1, r1⟩ := trodAll_cons r0
  obtain ⟨v2, vs2, d2, ds2, p2, q2, rfl, rfl, rfl, h2, r2⟩ := trodAll_cons r1
  obtain ⟨rfl, rfl, rfl⟩ := trodAll_nil r2
  obtain rfl : args = #[v0, v1, v2] := by cases args; simp_all
  obtain ⟨rfl, rfl⟩ := trodVars_none hV
  obtain ⟨a0, rfl, rfl, rfl⟩ := open_bool Try.underlying4 (hval 0 4 v0 rfl rfl) h0
  obtain ⟨a1, rfl, rfl, rfl, w1⟩ := open_int Try.underlying52 (hval 1 52 v1 rfl rfl) h1
  obtain ⟨a2, len2, cap2, rfl⟩ := okWide_slice Try.underlying22 (hval 2 22 v2 rfl rfl)
  have k2 := h2
  have lt2 : ∀ x ∈ p2, x.block < W.heap.size := by obtain ⟨m, hm⟩ := k2; exact DataW.trod_lt m _ _ _ hm
  obtain ⟨z2, w2⟩ : ∃ zs, IsRow .u8 W a2 len2 cap2 zs := by
    obtain ⟨fuel, hf⟩ := h2
    rcases open_ints Try.underlying22 Try.underlying5 (by kernel_rfl) hf with ⟨hcs, _⟩ | ⟨x, l, c, zs, hcs, _, hl, hm, hz, _, hcell, hwz⟩
    · simp [Value.cells] at hcs
      obtain ⟨rfl, rfl, rfl⟩ := hcs
      exact ⟨[], .inl ⟨rfl, rfl, rfl, rfl⟩⟩
    · simp [Value.cells] at hcs
      obtain ⟨rfl, rfl, rfl⟩ := hcs
      exact ⟨zs, .inr ⟨_, rfl, hl, hm, by simpa using hz, hcell, hwz⟩⟩
  clear hA0 hval0
  refine (walk a0 a1 a2 len2 cap2 z2 W w1 w2).mono fun e W' ⟨he, bel⟩ => ?_
  subst he
  exact ⟨_, rfl, _, _, _, [], _, [], hW', trodAll_mk1 (shut_bool Try.underlying4 _), (trodAll_cons_mk (shut_bool Try.underlying4 _) (trodAll_cons_mk (shut_int Try.underlying52 w1) (trodAll_cons_mk (Below.trod laidOut (by kernel_rfl) (of_decide_eq_true (by kernel_rfl)) k2 bel lt2) trodAll_mk0))), rfl, bel.frame _, fun h => by cases h⟩

theorem over : Rows.regionUndoRow.holds Try.pinned (OpenSpec.ofChange Rows.regionUndoSpec) :=
  OpenClaim.holds_of_wide 7 Try.f7 rfl rfl rfl rfl rfl rfl rfl ⟨rfl, rfl, rfl, rfl, rfl⟩ rfl rfl rfl rfl rfl (by kernel_rfl) Try.func7 (by kernel_rfl)
    (of_decide_eq_true (by kernel_rfl)) (by unfold Func.isWrapper; first | (rw [if_pos (by decide +kernel)]; kernel_rfl) | (rw [if_neg (by decide +kernel)]; exact ⟨rfl, rfl⟩))
    (fun os started H enc _ => lifted os started H enc)

theorem proved : Rows.RegionUndoSaid := over
end Go.Proofs.Ytjpjgkagebckpaa.regionUndo
