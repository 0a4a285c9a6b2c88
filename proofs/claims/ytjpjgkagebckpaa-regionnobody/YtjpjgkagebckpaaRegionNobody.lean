/- Proved: for any bytes and any number the law RegionNobody answers true (without a field there are no numbers; rows of unlike lengths, and none, have no sum), and its arguments read as they did. No conditions. -/
import Derived.Test.YtjpjgkagebckpaaRows
import Derived.Test.YtjpjgkagebckpaaRgi
import Derived.Test.YtjpjgkagebckpaaRgd
import Derived.Test.YtjpjgkagebckpaaRgn
import Derived.WalkKit
import Derived.ProofKit
import Derived.OpenShut
import Derived.ShutString
import Derived.ChangeOld
import Derived.Below
namespace Go.Proofs.Ytjpjgkagebckpaa.regionNobody
open Go.ChangeShapes Go.WideShapes Go.ChangeAt Go.RowKit
open Go.ChangeMaps (open_string shut_string)
set_option linter.unusedVariables false

theorem own : ownKnob Try.prog.godebug = none := by kernel_rfl
theorem laidOut : laidOutB Try.prog = true := by kernel_rfl

/-- a slice of integers that came in: nil, or a row of numbers -/
def IsRow (k : IntKind) (w : World) (a : Option Addr) (len cap : Nat) (zs : List Int) : Prop :=
  (a = none ∧ len = 0 ∧ cap = 0 ∧ zs = []) ∨
  ∃ x, a = some x ∧ len ≤ cap ∧ cap ≤ maxLen ∧ zs.length = cap ∧ (∀ i, i < zs.length → w.cell? (x.add i) = some (.int k (zs.getD i 0))) ∧ ∀ n ∈ zs, (Lit.int k n).wf = true

set_option maxRecDepth 100000 in
set_option maxHeartbeats 4000000 in
theorem walk (a0 : Option Addr) (len0 cap0 : Nat) (z0 : List Int) (a1 : Int) (w : World) (w0 : IsRow .u8 w a0 len0 cap0 z0) (w1 : (Lit.int .i64 a1).wf = true) :
    Calls Try.prog 8 #[.slice a0 len0 cap0, .int .i64 a1] w fun e w' => e = .returned (.bool true) ∧ Below w.heap.size w w' := by
  obtain ⟨i0, hi, hz0, hz1, hz2⟩ := info_parts infoB
  have hnil : a0 = none → cap0 = 0 := by
    rcases w0 with ⟨_, _, h, _⟩ | ⟨x, h, _⟩
    · exact fun _ => h
    · intro h'; rw [h'] at h; cases h
  obtain ⟨hc0, f, hf, hr0⟩ := rd_bytes w0
  have HR0 := Lib.hid hr0
  have HNIL := Lib.hid hnil
  clear w0 w1 hr0 hnil
  go_enter Try.func8, Try.ntmps8
  go_wp2_with fail
  refine (awakeR _).mono ?_
  rintro e w1 ⟨rfl, hb1⟩
  have H1 := Lib.hid hb1
  clear hb1
  by_cases b1 : 200 < len0
  · go_wp2_with fail
    go_ret
    exact ⟨rfl, H1.out⟩
  go_wp2_with fail
  refine (field_no _).mono ?_
  rintro e w2 ⟨b, rfl, hF, hn, hb2⟩
  have hL := Live.start H1.out hF hn hb2
  have HL := Lib.hid hL
  have hbl := hF.lt
  have R2 := Lib.hid ((HR0.out b hL.2.2).turned (Turned.of_below hL.2.1))
  clear hF hn hb2 H1 hL HR0
  go_wp2_with fail
  refine (words_nil a0 len0 cap0 _).mono ?_
  rintro e w' ⟨rfl, rfl⟩
  go_wp2_with fail
  refine (bytes_nil none 0 0 _).mono ?_
  rintro e w' ⟨rfl, rfl⟩
  go_wp2_with fail
  refine (mul_nil a1 _ _).mono ?_
  rintro e w' ⟨rfl, rfl⟩
  go_wp2_with fail
  refine (dot_none _ none none 0 0 _).mono ?_
  rintro e w3 ⟨rfl, hb3⟩
  have HL3 := Lib.hid (HL.out.below hb3)
  have R3 := Lib.hid (R2.out.below hb3)
  have hbl3 := Nat.lt_of_lt_of_le hbl hb3.size
  clear hb3 HL R2 hbl
  have HO := Lib.hid (World.ownsRow_lit (base := w3.heap.size) (e := TB) (size := 1) (w3.alloc (.cells #[.int .i64 1, .int .i64 1] TI)) #[] 0 (by rw [World.size_alloc]; omega) (Nat.zero_le _) rfl)
  rw [World.size_alloc] at HO
  have RO := Lib.hid ((R3.out.below (below_alloc w3 (.cells #[.int .i64 1, .int .i64 1] TI))).below (below_alloc _ (.cells #[] TB)))
  have HZ := Lib.hid (show w3.heap.size ≤ ((w3.alloc (.cells #[.int .i64 1, .int .i64 1] TI)).alloc (.cells #[] TB)).heap.size by rw [World.size_alloc, World.size_alloc]; omega)
  have BO := Lib.hid (below_tr (below_alloc w3 (.cells #[.int .i64 1, .int .i64 1] TI)) (below_alloc _ (.cells #[] TB)))
  go_wp2_with (first
    | (at_builtin; (refine append_rd _ rfl (.tmp 55) (.tmp 56) TBs rfl w3.heap.size TB i0 (.int .u8 0) 1 Try.underlying22 hi hz0 hz1 hz2 rfl (.slice (some ⟨w3.heap.size + 1, 0, none⟩) 0 0) 0 [] rfl HO.out b (u8s f) a0 len0 cap0 rfl HNIL.out RO.out (fun _ => rfl) (by unfold maxLen; omega) (by omega) HZ.out ?_; intro v4 w4 hown4 hg4; rw [Nat.zero_add, List.nil_append] at hown4; have B4 := Lib.hid (BO.out.grown hg4 HZ.out (fun q h => by cases h; show w3.heap.size ≤ w3.heap.size + 1; omega)); have HO4 := Lib.hid hown4; have hsz4 := B4.out.size; clear hown4 hg4))
    | (at_builtin; (refine wpList_append_own _ rfl (.tmp 57) (.tmp 58) TBs rfl w3.heap.size TB i0 (.int .u8 0) 1 1 Try.underlying22 hi hz0 hz1 hz2 rfl (by decide) _ len0 _ rfl (HO4.out.alloc _) ⟨w4.heap.size, 0, none⟩ 1 1 [.int .u8 7] rfl rfl (news_one rfl) (one_u8 _) (by unfold maxLen; omega) (by omega) (by rw [World.size_alloc]; omega) ?_)))
  intro v5 w5 hown5 hg5 _
  have B5 := Lib.hid ((B4.out.alloc hsz4 (.cells #[.int .u8 7] TB)).grown hg5 (by rw [World.size_alloc]; omega) (fun q hq => (HO4.out.lt q hq).1))
  obtain ⟨g5, c5, rfl, _, _⟩ := hown5.form (by omega)
  have hbl5 : b < w5.heap.size := Nat.lt_of_lt_of_le hbl3 B5.out.size
  have HL5 := Lib.hid (HL3.out.below B5.out)
  have R5 := Lib.hid (R3.out.below B5.out)
  clear hown5 hg5 HO4 B4 B5 HO RO HZ BO hsz4 HL3 R3 hbl3
  go_wp2_with fail
  refine (dot_odd b _ _ 2 2 2 (by omega) (by omega) _ _ _ _ _ (rd_rows2 hbl5 a0 (some ⟨g5, 0, none⟩) len0 (len0 + 1) cap0 c5) (by omega) (alike_no (k := 0) (by omega) (by simp))).mono ?_
  rintro e w6 ⟨rfl, hb6⟩
  have B6 := below_tr (below_alloc w5 (.cells #[.slice a0 len0 cap0, .slice (some ⟨g5, 0, none⟩) (len0 + 1) c5] TBs)) hb6
  have HL6 := Lib.hid (HL5.out.below B6)
  have R6 := Lib.hid (R5.out.below B6)
  have hbl6 := Nat.lt_of_lt_of_le hbl5 B6.size
  clear hb6 B6 HL5 R5 hbl5
  have HO := Lib.hid (World.ownsRow_lit (base := w6.heap.size) (e := TB) (size := 1) w6 #[] 0 (Nat.le_refl _) (Nat.zero_le _) rfl)
  have RO := Lib.hid (R6.out.below (below_alloc w6 (.cells #[] TB)))
  have HZ := Lib.hid (show w6.heap.size ≤ (w6.alloc (.cells #[] TB)).heap.size by rw [World.size_alloc]; omega)
  have BO := Lib.hid (below_alloc w6 (.cells #[] TB))
  go_wp2_with (first
    | (at_builtin; refine append_rd _ rfl (.tmp 66) (.tmp 67) TBs rfl w6.heap.size TB i0 (.int .u8 0) 1 Try.underlying22 hi hz0 hz1 hz2 rfl (.slice (some ⟨w6.heap.size, 0, none⟩) 0 0) 0 [] rfl HO.out b (u8s f) a0 len0 cap0 rfl HNIL.out RO.out (fun _ => rfl) (by unfold maxLen; omega) (by omega) HZ.out ?_; intro v7 w7 hown7 hg7; rw [Nat.zero_add, List.nil_append] at hown7; have B7 := Lib.hid (BO.out.grown hg7 HZ.out (fun q h => by cases h; show w6.heap.size ≤ w6.heap.size; omega)); have HO7 := Lib.hid hown7; have hsz7 := B7.out.size; clear hown7 hg7)
    | (at_builtin; refine wpList_append_own _ rfl (.tmp 68) (.tmp 69) TBs rfl w6.heap.size TB i0 (.int .u8 0) 1 1 Try.underlying22 hi hz0 hz1 hz2 rfl (by decide) _ len0 _ rfl (HO7.out.alloc _) ⟨w7.heap.size, 0, none⟩ 1 1 [.int .u8 7] rfl rfl (news_one rfl) (one_u8 _) (by unfold maxLen; omega) (by omega) (by rw [World.size_alloc]; omega) ?_))
  intro v8 w8 hown8 hg8 _
  have B8 := Lib.hid ((B7.out.alloc hsz7 (.cells #[.int .u8 7] TB)).grown hg8 (by rw [World.size_alloc]; omega) (fun q hq => (HO7.out.lt q hq).1))
  obtain ⟨g8, c8, rfl, _, _⟩ := hown8.form (by omega)
  have hbl8 : b < w8.heap.size := Nat.lt_of_lt_of_le hbl6 B8.out.size
  have HL8 := Lib.hid (HL6.out.below B8.out)
  clear hown8 hg8 HO7 B7 B8 HO RO HZ BO hsz7 HL6 R6 hbl6
  go_wp2_with fail
  refine (add_no b a0 (some ⟨g8, 0, none⟩) len0 (len0 + 1) cap0 c8 (by omega) _ hbl8).mono ?_
  rintro e w9 ⟨rfl, hb9⟩
  have HL9 := Lib.hid (HL8.out.below hb9)
  clear hb9 HL8
  go_wp2_with fail
  refine (rin32 8 255 (Or.inl ⟨rfl, rfl⟩) 256 _).mono ?_
  rintro e w' ⟨rfl, rfl⟩
  rw [show inB 255 256 = false from by decide]
  go_wp2_with fail
  go_ret
  exact ⟨rfl, HL9.out.2.1⟩

set_option maxRecDepth 100000 in
theorem lifted (os : Os) (started : os.Started) (H : Type) (enc : TypeId × Value → H) :
    ReturnsInHanded {} Try.checked os 8 .any (Rows.regionNobodySpec.pre6 enc Try.prog Try.f8 Rows.regionNobodyRow.domain false) (Rows.regionNobodySpec.post enc Try.prog Try.f8 false true false false) := by
  refine returnsInHanded_of_change (C := Try.checked) own started (by kernel_rfl) Try.func8
    (ChangeSpec.witness6 (enc := enc) (C := Try.checked) false ⟨#[], #[.slice none 0 0, .int .i64 0], []⟩ 8 (by kernel_rfl) (by kernel_rfl) (by kernel_rfl) (by kernel_rfl)) ?_
  intro W base args ds gs before hval0 hW hcnd _
  have hval : ∀ (j : Nat) t v, Try.f8.params[j]? = some t → args[j]? = some v → Value.okWide Try.prog W .any base t v := hval0
  have hW' := hW
  obtain ⟨p, q, hA0, hV, rfl, hfz, hnd⟩ := hW
  have hA : DataW.TrodAll enc Try.prog W 0 (fun _ => true) true Try.f8.params.toList args.toList ds p := hA0
  rw [Try.params8] at hA hval
  obtain ⟨v0, vs0, d0, ds0, p0, q0, hargs, rfl, rfl, h0, r0⟩ := trodAll_cons hA
  obtain ⟨v1, vs1, d1, ds1, p1, q1, rfl, rfl, rfl, h1, r1⟩ := trodAll_cons r0
  obtain ⟨rfl, rfl, rfl⟩ := trodAll_nil r1
  obtain rfl : args = #[v0, v1] := by cases args; simp_all
  obtain ⟨rfl, rfl⟩ := trodVars_none hV
  obtain ⟨a0, len0, cap0, rfl⟩ := okWide_slice Try.underlying22 (hval 0 22 v0 rfl rfl)
  have k0 := h0
  have lt0 : ∀ x ∈ p0, x.block < W.heap.size := by obtain ⟨m, hm⟩ := k0; exact DataW.trod_lt m _ _ _ hm
  obtain ⟨z0, w0⟩ : ∃ zs, IsRow .u8 W a0 len0 cap0 zs := by
    obtain ⟨fuel, hf⟩ := h0
    rcases open_ints Try.underlying22 Try.underlying5 (by kernel_rfl) hf with ⟨hcs, _⟩ | ⟨x, l, c, zs, hcs, _, hl, hm, hz, _, hcell, hwz⟩
    · simp [Value.cells] at hcs
      obtain ⟨rfl, rfl, rfl⟩ := hcs
      exact ⟨[], .inl ⟨rfl, rfl, rfl, rfl⟩⟩
    · simp [Value.cells] at hcs
      obtain ⟨rfl, rfl, rfl⟩ := hcs
      exact ⟨zs, .inr ⟨_, rfl, hl, hm, by simpa using hz, hcell, hwz⟩⟩
  obtain ⟨a1, rfl, rfl, rfl, w1⟩ := open_int Try.underlying3 (hval 1 3 v1 rfl rfl) h1
  clear hA0 hval0
  refine (walk a0 len0 cap0 z0 a1 W w0 w1).mono fun e W' ⟨he, bel⟩ => ?_
  subst he
  exact ⟨_, rfl, _, _, _, [], _, [], hW', trodAll_mk1 (shut_bool Try.underlying4 _), (trodAll_cons_mk (Below.trod laidOut (by kernel_rfl) (of_decide_eq_true (by kernel_rfl)) k0 bel lt0) (trodAll_cons_mk (shut_int Try.underlying3 w1) trodAll_mk0)), rfl, bel.frame _, fun h => by cases h⟩

theorem over : Rows.regionNobodyRow.holds Try.pinned (OpenSpec.ofChange Rows.regionNobodySpec) :=
  OpenClaim.holds_of_wide 8 Try.f8 rfl rfl rfl rfl rfl rfl rfl ⟨rfl, rfl, rfl, rfl, rfl⟩ rfl rfl rfl rfl rfl (by kernel_rfl) Try.func8 (by kernel_rfl)
    (of_decide_eq_true (by kernel_rfl)) (by unfold Func.isWrapper; first | (rw [if_pos (by decide +kernel)]; kernel_rfl) | (rw [if_neg (by decide +kernel)]; exact ⟨rfl, rfl⟩))
    (fun os started H enc _ => lifted os started H enc)

theorem proved : Rows.RegionNobodySaid := over
end Go.Proofs.Ytjpjgkagebckpaa.regionNobody
